import Derived.Test.YtgmljpkenipgjaaQhanaeiokcndf
import Derived.Test.YtgmljpkenipgjaaQdhppnpafbjgn
import Derived.Test.YtgmljpkenipgjaaQbpmiicmhmifa
import Derived.Test.YtgmljpkenipgjaaQgehnmkejidnl
import Derived.Test.YtgmljpkenipgjaaQfdcaiapcodke

/-
  pack: the law's same, over two tables that are the same (printed by tools/pk_sad.py).
-/
namespace Go.Proofs.Ytgmljpkenipgjaa.J
open Go.RowKit Go.Maps Go.Shelf Pk

attribute [local go_sem] Oper.semAt_some

theorem guard_actD : Try.prog.eqGuardType Try.prog.depth 52 = false := by kernel_rfl

set_option maxRecDepth 100000 in
set_option maxHeartbeats 8000000 in
theorem sameD_any (a a' g g' : Option Addr) (N M c c' d d' : Nat) (R : Nat → List It) (Q : Nat → List Int) (la la' lg lg' : Nat → Option Addr) (lc lc' ld ld' : Nat → Nat) (w : World) (hR : RsAt w a N R la lc) (hR' : RsAt w a' N R la' lc') (hQ : RiAt w g M Q lg ld) (hQ' : RiAt w g' M Q lg' ld') (hN : N ≤ 17592186044416) (hM : M ≤ 17592186044416) (hl : ∀ i, i < N → (R i).length ≤ 17592186044416) (hl2 : ∀ i, i < M → (Q i).length ≤ 17592186044416) :
    Calls Try.prog 22 #[.agg #[.slice a N c, .slice g M d], .agg #[.slice a' N c', .slice g' M d']] w fun e y => e = .returned (.bool true) ∧ w.grownBy y none := by
  have mixed : Try.prog.follows .mixedOrders = true := by kernel_rfl
  have hgu := guard_actD
  obtain ⟨X, hX⟩ : ∃ X, X = (w.alloc (.cells #[.slice a N c, .slice g M d] 42)).alloc (.cells #[.slice a' N c', .slice g' M d'] 42) := ⟨_, rfl⟩
  have hgx : w.grownBy X none := by rw [hX]; exact grown_trans (World.grownBy_alloc _ _ none) (World.grownBy_alloc _ _ none)
  have HGX := hidP hgx
  have hb1 : X.heap[w.heap.size]? = some (.cells #[.slice a N c, .slice g M d] 42 (0, 0)) := by rw [hX]; exact box_kept (heap_alloc_last w _) (World.grownBy_alloc _ _ none)
  have hb2 : X.heap[w.heap.size + 1]? = some (.cells #[.slice a' N c', .slice g' M d'] 42 (0, 0)) := by
    have h := heap_alloc_last (w.alloc (.cells #[.slice a N c, .slice g M d] 42)) (.cells #[.slice a' N c', .slice g' M d'] 42)
    have e : (w.alloc (.cells #[.slice a N c, .slice g M d] 42)).heap.size = w.heap.size + 1 := by simp
    rw [hX, ← e]
    exact h
  have HB : Hid (∀ Y, X.grownBy Y none → (Y.cell? ⟨w.heap.size, 0, none⟩ = some (.slice a N c) ∧ Y.cell? ⟨w.heap.size, 1, none⟩ = some (.slice g M d)) ∧ (Y.cell? ⟨w.heap.size + 1, 0, none⟩ = some (.slice a' N c') ∧ Y.cell? ⟨w.heap.size + 1, 1, none⟩ = some (.slice g' M d'))) := fun Y hY => by
    have h0 := box_kept hb1 hY
    have h1 := box_kept hb2 hY
    exact ⟨⟨by rw [cell_of_row _ _ _ _ _ _ h0]; rfl, by rw [cell_of_row _ _ _ _ _ _ h0]; rfl⟩, ⟨by rw [cell_of_row _ _ _ _ _ _ h1]; rfl, by rw [cell_of_row _ _ _ _ _ _ h1]; rfl⟩⟩
  have HR : Hid (∀ Y, X.grownBy Y none → RsAt Y a N R la lc ∧ RsAt Y a' N R la' lc') := fun Y hY => ⟨hR.kept (grown_trans hgx hY), hR'.kept (grown_trans hgx hY)⟩
  have HQ : Hid (∀ Y, X.grownBy Y none → RiAt Y g M Q lg ld ∧ RiAt Y g' M Q lg' ld') := fun Y hY => ⟨hQ.kept (grown_trans hgx hY), hQ'.kept (grown_trans hgx hY)⟩
  have HL := hidP hl
  have HL2 := hidP hl2
  obtain ⟨⟨q0, q1⟩, ⟨q2, q3⟩⟩ := HB.out X (grown_refl _ _)
  rw [hX] at q0 q1 q2 q3
  have e0 : (N != N) = false := bne_self_eq_false _
  have e0' : ((N : Int) != (N : Int)) = false := bne_self_eq_false _
  have e1 : (M != M) = false := bne_self_eq_false _
  have e1' : ((M : Int) != (M : Int)) = false := bne_self_eq_false _
  clear hR hR' hQ hQ' hl hl2 hb1 hb2 hgx
  go_enter Try.func22, Try.ntmps22
  go_wp2_with fail
  rw [← hX]
  clear hX q0 q1 q2 q3 e0 e0' e1 e1'
  go_loopg [5] N (fun gk v wr => ∃ k : Nat, k ≤ N ∧ gk = N - k ∧ v = .int .i64 k ∧ X.grownBy wr none)
  case atStart => exact ⟨0, Nat.zero_le _, rfl, rfl, grown_refl _ _⟩
  case round =>
    obtain ⟨k, hk, hgk, rfl, hg⟩ := hrel
    have HGK : Hid (gk = N - k) := hgk
    have HG := hidP hg
    obtain ⟨⟨q0, q1⟩, ⟨q2, q3⟩⟩ := HB.out wr hg
    clear hgk
    by_cases hlt : k < N
    · have hkd : decide (k < N) = true := decide_eq_true hlt
      have hk0 : (0 : Int) ≤ (k : Int) := by omega
      have hk1 : (k : Int) < (N : Int) := by omega
      obtain ⟨b0, o0, rfl, c0⟩ : ∃ b o, a = some ⟨b, o, none⟩ ∧ wr.cell? ⟨b, o + k, none⟩ = some (.slice (la k) (R k).length (lc k)) := by
        rcases (HR.out wr hg).1.1 with h | ⟨b, o, e, h⟩
        · omega
        · exact ⟨b, o, e, h k hlt⟩
      obtain ⟨b1, o1, rfl, c1⟩ : ∃ b o, a' = some ⟨b, o, none⟩ ∧ wr.cell? ⟨b, o + k, none⟩ = some (.slice (la' k) (R k).length (lc' k)) := by
        rcases (HR.out wr hg).2.1 with h | ⟨b, o, e, h⟩
        · omega
        · exact ⟨b, o, e, h k hlt⟩
      have hnb := HL.out k hlt
      obtain ⟨n, hn⟩ : ∃ v, v = (R k).length := ⟨_, rfl⟩
      have HNN : Hid (n = (R k).length) := hn
      obtain ⟨u0, hu0⟩ : ∃ v, v = la k := ⟨_, rfl⟩
      obtain ⟨m0, hm0⟩ : ∃ v, v = lc k := ⟨_, rfl⟩
      obtain ⟨u1, hu1⟩ : ∃ v, v = la' k := ⟨_, rfl⟩
      obtain ⟨m1, hm1⟩ : ∃ v, v = lc' k := ⟨_, rfl⟩
      have HIT : Hid (∀ Y, X.grownBy Y none → ItsAt Y u0 (R k) ∧ ItsAt Y u1 (R k)) := fun Y hY => by rw [hu0, hu1]; exact ⟨(HR.out Y hY).1.2 k hlt, (HR.out Y hY).2.2 k hlt⟩
      rw [← hn, ← hu0, ← hm0] at c0
      rw [← hn, ← hu1, ← hm1] at c1
      rw [← hn] at hnb
      have HCC : Hid (∀ Y, wr.grownBy Y none → Y.cell? ⟨b0, o0 + k, none⟩ = some (.slice u0 n m0) ∧ Y.cell? ⟨b1, o1 + k, none⟩ = some (.slice u1 n m1)) := fun Y hY => ⟨hY.cell c0 (by simp), hY.cell c1 (by simp)⟩
      have e0 : (n != n) = false := bne_self_eq_false _
      have e0' : ((n : Int) != (n : Int)) = false := bne_self_eq_false _
      clear hn hu0 hu1 hm0 hm1 hg
      go_wp2_with fail
      go_quiet_o (fail)
      go_wp2_with fail
      clear c0 c1 q0 q1 q2 q3 e0 e0'
      go_loopg [6] n (fun gk v w2 => ∃ j : Nat, j ≤ n ∧ gk = n - j ∧ v = .int .i64 j ∧ wr.grownBy w2 none)
      case atStart => exact ⟨0, Nat.zero_le _, rfl, rfl, by first | exact grown_refl _ _ | exact grown_drewN _ _ | exact grown_trans (grown_drewN _ _) (grown_drewN _ _)⟩
      case round =>
        obtain ⟨j, hj, hgj, rfl, hg2⟩ := hrel
        have HGJ : Hid (gk = n - j) := hgj
        have HG2 := hidP hg2
        have HGW : Hid (X.grownBy wr none) := grown_trans HG.out hg2
        obtain ⟨c0, c1⟩ := HCC.out wr hg2
        obtain ⟨⟨q0, q1⟩, ⟨q2, q3⟩⟩ := HB.out wr HGW.out
        clear hgj hg2
        by_cases hjn : j < n
        · have hjd : decide (j < n) = true := decide_eq_true hjn
          have hj0 : (0 : Int) ≤ (j : Int) := by omega
          have hj1 : (j : Int) < (n : Int) := by omega
          have hjl : j < (R k).length := by rw [← HNN.out]; exact hjn
          obtain ⟨x0, y0, rfl, t0, t1⟩ := its_get (HIT.out wr HGW.out).1 hjl
          obtain ⟨x1, y1, rfl, t2, t3⟩ := its_get (HIT.out wr HGW.out).2 hjl
          obtain ⟨z1, hz1⟩ : ∃ v, v = ((R k).getD j (0, 0)).1 := ⟨_, rfl⟩
          obtain ⟨z2, hz2⟩ : ∃ v, v = ((R k).getD j (0, 0)).2 := ⟨_, rfl⟩
          rw [← hz1] at t0 t2
          rw [← hz2] at t1 t3
          have hE : ∀ Y : World, (binOp .neq 52 (.agg #[.int .i64 z1, .int .i64 z2]) (.agg #[.int .i64 z1, .int .i64 z2])).run Try.prog Y = .ok (.bool false) Y := fun Y => by have h := neq_action z1 z2 z1 z2 Y; simpa using h
          clear hz1 hz2
          go_wp2_with fail
          go_quiet_o (fail)
          go_wp2_with fail
          go_roundg (n - (j + 1))
          case measure => have := HGJ.out; omega
          case rel => exact ⟨j + 1, by omega, rfl, by go_num, grown_trans HG2.out (grown_drewN _ _)⟩
        · have hjd : decide (j < n) = false := decide_eq_false hjn
          have hjd2 : ¬ (j : Int) < (n : Int) := by omega
          go_wp2_with fail
          go_roundg (N - (k + 1))
          case measure => have := HGK.out; omega
          case rel => exact ⟨k + 1, by omega, rfl, by go_num, HGW.out⟩
    · have hkd : decide (k < N) = false := decide_eq_false hlt
      have hkd' : ¬ (k : Int) < (N : Int) := by omega
      clear hg
      go_wp2_with fail
      clear q0 q1 q2 q3 hkd hkd' hlt HGK
      go_loopg [7] M (fun gk v wr => ∃ k : Nat, k ≤ M ∧ gk = M - k ∧ v = .int .i64 k ∧ X.grownBy wr none)
      case atStart => exact ⟨0, Nat.zero_le _, rfl, rfl, HG.out⟩
      case round =>
        clear HG
        obtain ⟨k, hk, hgk, rfl, hg⟩ := hrel
        have HGK : Hid (gk = M - k) := hgk
        have HG := hidP hg
        obtain ⟨⟨q0, q1⟩, ⟨q2, q3⟩⟩ := HB.out wr hg
        clear hgk
        by_cases hlt : k < M
        · have hkd : decide (k < M) = true := decide_eq_true hlt
          have hk0 : (0 : Int) ≤ (k : Int) := by omega
          have hk1 : (k : Int) < (M : Int) := by omega
          obtain ⟨b0, o0, rfl, c0⟩ : ∃ b o, g = some ⟨b, o, none⟩ ∧ wr.cell? ⟨b, o + k, none⟩ = some (.slice (lg k) (Q k).length (ld k)) := by
            rcases (HQ.out wr hg).1.1 with h | ⟨b, o, e, h⟩
            · omega
            · exact ⟨b, o, e, h k hlt⟩
          obtain ⟨b1, o1, rfl, c1⟩ : ∃ b o, g' = some ⟨b, o, none⟩ ∧ wr.cell? ⟨b, o + k, none⟩ = some (.slice (lg' k) (Q k).length (ld' k)) := by
            rcases (HQ.out wr hg).2.1 with h | ⟨b, o, e, h⟩
            · omega
            · exact ⟨b, o, e, h k hlt⟩
          have hnb := HL2.out k hlt
          obtain ⟨n, hn⟩ : ∃ v, v = (Q k).length := ⟨_, rfl⟩
          have HNN : Hid (n = (Q k).length) := hn
          obtain ⟨u0, hu0⟩ : ∃ v, v = lg k := ⟨_, rfl⟩
          obtain ⟨m0, hm0⟩ : ∃ v, v = ld k := ⟨_, rfl⟩
          obtain ⟨u1, hu1⟩ : ∃ v, v = lg' k := ⟨_, rfl⟩
          obtain ⟨m1, hm1⟩ : ∃ v, v = ld' k := ⟨_, rfl⟩
          have HIT : Hid (∀ Y, X.grownBy Y none → IntsAt Y u0 (Q k) ∧ IntsAt Y u1 (Q k)) := fun Y hY => by rw [hu0, hu1]; exact ⟨(HQ.out Y hY).1.2 k hlt, (HQ.out Y hY).2.2 k hlt⟩
          rw [← hn, ← hu0, ← hm0] at c0
          rw [← hn, ← hu1, ← hm1] at c1
          rw [← hn] at hnb
          have HCC : Hid (∀ Y, wr.grownBy Y none → Y.cell? ⟨b0, o0 + k, none⟩ = some (.slice u0 n m0) ∧ Y.cell? ⟨b1, o1 + k, none⟩ = some (.slice u1 n m1)) := fun Y hY => ⟨hY.cell c0 (by simp), hY.cell c1 (by simp)⟩
          have e0 : (n != n) = false := bne_self_eq_false _
          have e0' : ((n : Int) != (n : Int)) = false := bne_self_eq_false _
          clear hn hu0 hu1 hm0 hm1 hg
          go_wp2_with fail
          go_quiet_o (fail)
          go_wp2_with fail
          clear c0 c1 q0 q1 q2 q3 e0 e0'
          go_loopg [8] n (fun gk v w2 => ∃ j : Nat, j ≤ n ∧ gk = n - j ∧ v = .int .i64 j ∧ wr.grownBy w2 none)
          case atStart => exact ⟨0, Nat.zero_le _, rfl, rfl, by first | exact grown_refl _ _ | exact grown_drewN _ _ | exact grown_trans (grown_drewN _ _) (grown_drewN _ _)⟩
          case round =>
            obtain ⟨j, hj, hgj, rfl, hg2⟩ := hrel
            have HGJ : Hid (gk = n - j) := hgj
            have HG2 := hidP hg2
            have HGW : Hid (X.grownBy wr none) := grown_trans HG.out hg2
            obtain ⟨c0, c1⟩ := HCC.out wr hg2
            obtain ⟨⟨q0, q1⟩, ⟨q2, q3⟩⟩ := HB.out wr HGW.out
            clear hgj hg2
            by_cases hjn : j < n
            · have hjd : decide (j < n) = true := decide_eq_true hjn
              have hj0 : (0 : Int) ≤ (j : Int) := by omega
              have hj1 : (j : Int) < (n : Int) := by omega
              have hjl : j < (Q k).length := by rw [← HNN.out]; exact hjn
              obtain ⟨x0, y0, rfl, t0⟩ := ints_get (HIT.out wr HGW.out).1 hjl
              obtain ⟨x1, y1, rfl, t2⟩ := ints_get (HIT.out wr HGW.out).2 hjl
              obtain ⟨z1, hz1⟩ : ∃ v, v = (Q k).getD j 0 := ⟨_, rfl⟩
              rw [← hz1] at t0 t2
              have hE : (z1 != z1) = false := bne_self_eq_false _
              clear hz1
              go_wp2_with fail
              go_quiet_o (fail)
              go_wp2_with fail
              go_roundg (n - (j + 1))
              case measure => have := HGJ.out; omega
              case rel => exact ⟨j + 1, by omega, rfl, by go_num, grown_trans HG2.out (grown_drewN _ _)⟩
            · have hjd : decide (j < n) = false := decide_eq_false hjn
              have hjd2 : ¬ (j : Int) < (n : Int) := by omega
              go_wp2_with fail
              go_roundg (M - (k + 1))
              case measure => have := HGK.out; omega
              case rel => exact ⟨k + 1, by omega, rfl, by go_num, HGW.out⟩
        · have hkd : decide (k < M) = false := decide_eq_false hlt
          have hkd' : ¬ (k : Int) < (M : Int) := by omega
          clear hg
          go_wp2_with fail
          go_ret
          exact ⟨rfl, grown_trans HGX.out HG.out⟩

end Go.Proofs.Ytgmljpkenipgjaa.J

/-
  pack: the law's dense lays a row of []api.Action: a region as a declaration of its own (printed by tools/pk_denr.py).
-/
namespace Go.Proofs.Ytgmljpkenipgjaa.J
open Go.RowKit Go.Maps Go.Shelf Pk

attribute [local go_sem] Oper.semAt_some
attribute [local go_sem ↓] Go.wp_at_zero Go.wp_at_succ

noncomputable def plR5 : Code := ((Try.f18.body.map (regionsJ 5)).getD []).getD 0 .skip

set_option maxRecDepth 100000 in
set_option maxHeartbeats 8000000 in
theorem pl_r5 {K : Act → World → Prop} {V : World} {B db ob lb lo N c k n1 cp1 kc : Nat} {ka a1 : Option Addr} {xs rs : List Value} {cs : Array Value}
    {v0 v2 v5 v6 v7 v8 v9 v10 v11 v12 v13 v14 v15 v16 v17 v18 v19 v20 v21 v22 v23 v24 v25 v26 v27 v28 v29 v30 v31 v32 v33 v34 v35 v36 v37 v38 v39 v40 v41 v42 v43 v44 : Value}
    (q0 : V.cell? ⟨ob, 0, none⟩ = some (.slice ka k kc)) (q1 : V.cell? ⟨db, 0, none⟩ = some (.slice (some ⟨lb, lo, none⟩) N c)) (q2 : V.cell? ⟨lb, lo + k, none⟩ = some (.slice a1 n1 cp1)) (hk1 : (k : Int) < (N : Int))
    (hnil : a1 = none → n1 = 0 ∧ cp1 = 0) (hxs : xs.length = n1 * 2) (hsr : ∀ Y, V.grownBy Y none → ∀ ad, a1 = some ad → ∀ j u, xs[j]? = some u → Y.cell? (ad.add j) = some u) (hon : ∀ u ∈ xs, u.oneCell' = true)
    (hn1 : n1 * 16 ≤ 140737488355328) (hk : k ≤ 5864062014634) (hO : V.ownsRow B 56 1 (.slice ka k kc) k rs) (hB : B ≤ V.heap.size) (hbox : V.heap[ob]? = some (.cells cs 42 (0, 0))) (hc0 : cs[0]? = some (.slice ka k kc))
    (hexit : ∀ (Y wB : World) (a6 : Option Addr) (c6 g9 k9 : Nat) (u13 u14 u15 u16 u17 u18 u19 u20 u21 u22 u23 u24 : Value), V.grownBy Y none → Y.ownsRow V.heap.size 52 2 (.slice a6 n1 c6) n1 xs → Y.grownBy wB (Value.slice ka k kc).ownBlock → wB.ownsRow B 56 1 (.slice (some ⟨g9, 0, none⟩) (k + 1) k9) (k + 1) (rs ++ [.slice a6 n1 c6]) → K ⟨List.toArray (v0 :: .pointer (some ⟨db, 0, none⟩) :: v2 :: .pointer (some ⟨ob, 0, none⟩) :: .int .i64 (k : Int) :: v5 :: v6 :: v7 :: v8 :: v9 :: v10 :: v11 :: v12 :: u13 :: u14 :: u15 :: u16 :: u17 :: u18 :: u19 :: u20 :: u21 :: u22 :: u23 :: u24 :: v25 :: v26 :: v27 :: v28 :: v29 :: v30 :: v31 :: v32 :: v33 :: v34 :: v35 :: v36 :: v37 :: v38 :: v39 :: v40 :: v41 :: v42 :: v43 :: v44 :: []), []⟩ (wB.setCell ⟨ob, 0, none⟩ (.slice (some ⟨g9, 0, none⟩) (k + 1) k9))) :
    Code.wp Try.prog plR5 (OnEndJ K) ⟨List.toArray (v0 :: .pointer (some ⟨db, 0, none⟩) :: v2 :: .pointer (some ⟨ob, 0, none⟩) :: .int .i64 (k : Int) :: v5 :: v6 :: v7 :: v8 :: v9 :: v10 :: v11 :: v12 :: v13 :: v14 :: v15 :: v16 :: v17 :: v18 :: v19 :: v20 :: v21 :: v22 :: v23 :: v24 :: v25 :: v26 :: v27 :: v28 :: v29 :: v30 :: v31 :: v32 :: v33 :: v34 :: v35 :: v36 :: v37 :: v38 :: v39 :: v40 :: v41 :: v42 :: v43 :: v44 :: []), []⟩ V := by
  obtain ⟨i0, hi0, hz0, hz1, hz2⟩ := info_parts infoActD
  obtain ⟨i1, hi1, hy0, hy1, hy2⟩ := info_parts infoRowAD
  have hk0 : (0 : Int) ≤ (k : Int) := by omega
  have HSR := hidD hsr
  have HNL := hidD hnil
  have HXL := hidD hxs
  have HON := hidD hon
  have HEX := hidD hexit
  have q0a : ∀ o', (V.alloc o').cell? ⟨ob, 0, none⟩ = some (.slice ka k kc) := fun o' => (World.grownBy_alloc _ o' none).cell q0 (by simp)
  have q1a : ∀ o', (V.alloc o').cell? ⟨db, 0, none⟩ = some (.slice (some ⟨lb, lo, none⟩) N c) := fun o' => (World.grownBy_alloc _ o' none).cell q1 (by simp)
  have q2a : ∀ o', (V.alloc o').cell? ⟨lb, lo + k, none⟩ = some (.slice a1 n1 cp1) := fun o' => (World.grownBy_alloc _ o' none).cell q2 (by simp)
  have HE0 : Hid (∀ Y, (V.alloc (.cells #[] 52)).grownBy Y none → Y.ownsRow V.heap.size 52 2 (.slice (some ⟨V.heap.size, 0, none⟩) 0 0) 0 []) := fun Y hY => keep0 ⟨rfl, .inr ⟨V.heap.size, 0, #[], rfl, Nat.le_refl _, heap_alloc_last V _, Nat.le_refl _, Nat.zero_le _, rfl, rfl⟩⟩ hY
  have HSZ : Hid (∀ Y, V.grownBy Y none → V.heap.size ≤ Y.heap.size) := fun Y hY => hY.size
  have HOO : Hid (∀ Y, V.grownBy Y none → Y.ownsRow B 56 1 (.slice ka k kc) k rs ∧ B ≤ Y.heap.size ∧ Y.cell? ⟨ob, 0, none⟩ = some (.slice ka k kc)) := fun Y hY => ⟨keep0 hO hY, Nat.le_trans hB hY.size, hY.cell q0 (by simp)⟩
  have HST : Hid (∀ Y Z, V.grownBy Y none → Y.grownBy Z (Value.slice ka k kc).ownBlock → Z.cell? ⟨ob, 0, none⟩ = some (.slice ka k kc) ∧ Z.frozen? ⟨ob, 0, none⟩ = false) := fun Y Z hY hZ => by
    have h1 := box_under (keep0 hO hY) (box_kept hbox hY) (by decide) hZ
    exact ⟨by rw [cell_of_row _ _ _ _ _ _ h1]; exact hc0, frozen_of_row _ _ _ _ _ h1⟩
  clear hnil hxs hsr hon hexit hO hB hbox hc0
  conv => arg 2; whnf
  go_region_law (first
    | (refine step_append_srcW rfl (.tmp 15) (.tmp 20) 56 rfl V.heap.size 52 i0 (.agg #[.int .i64 0, .int .i64 0]) 2 16 Try.underlying56 hi0 hz0 hz1 hz2 rfl (by decide) (.slice (some ⟨V.heap.size, 0, none⟩) 0 0) 0 [] (by first | (simp [Act.eval]; done) | simp [Act.eval, Act.put]) (HE0.out _ (by repeat (first | exact grown_refl _ _ | refine grown_trans ?_ (grown_drewN _ _) | refine grown_trans ?_ (World.grownBy_alloc _ _ none)))) a1 n1 cp1 xs (by first | (simp [Act.eval]; done) | simp [Act.eval, Act.put]) HNL.out HXL.out (HSR.out _ (by repeat (first | exact grown_refl _ _ | refine grown_trans ?_ (grown_drewN _ _) | refine grown_trans ?_ (World.grownBy_alloc _ _ none)))) HON.out (by unfold maxLen; omega) (by omega) (HSZ.out _ (by repeat (first | exact grown_refl _ _ | refine grown_trans ?_ (grown_drewN _ _) | refine grown_trans ?_ (World.grownBy_alloc _ _ none)))) ?_; intro v6 wA hoA hgA; rw [Nat.zero_add, List.nil_append] at hoA; obtain ⟨a6, c6, rfl⟩ := owns_slice hoA; have HGA : Hid (V.grownBy wA none) := grown_new (by repeat (first | exact grown_refl _ _ | refine grown_trans ?_ (grown_drewN _ _) | refine grown_trans ?_ (World.grownBy_alloc _ _ none))) hgA (Nat.le_refl _); have HRA := hidD hoA; have z0 := (HOO.out wA HGA.out).2.2; have z0a : ∀ o', (wA.alloc o').cell? ⟨ob, 0, none⟩ = some (.slice ka k kc) := fun o' => (World.grownBy_alloc _ o' none).cell z0 (by simp); clear hoA hgA)
    | (refine step_append_liesW _ rfl (.tmp 14) (.tmp 22) 39 rfl B 56 i1 (.slice none 0 0) 1 24 Try.underlying39 hi1 hy0 hy1 hy2 rfl (by decide) (.slice ka k kc) k rs (by first | (simp [Act.eval]; done) | simp [Act.eval, Act.put]) (HOO.out _ (grown_trans HGA.out (by repeat (first | exact grown_refl _ _ | refine grown_trans ?_ (grown_drewN _ _) | refine grown_trans ?_ (World.grownBy_alloc _ _ none))))).1 ⟨wA.heap.size, 0, none⟩ 1 1 [.slice a6 n1 c6] (by first | (simp [Act.eval]; done) | simp [Act.eval, Act.put]) rfl (World.news_of_block (heap_alloc_last wA _)) (by simp [Value.oneCell']) (by decide) (by unfold maxLen; omega) (by omega) (HOO.out _ (grown_trans HGA.out (by repeat (first | exact grown_refl _ _ | refine grown_trans ?_ (grown_drewN _ _) | refine grown_trans ?_ (World.grownBy_alloc _ _ none))))).2.1 ?_; intro g9 k9 wB hoB hgB hatB; have HGB := hidD hgB; have HOB := hidD hoB; obtain ⟨y0, y1⟩ := HST.out _ wB (grown_trans HGA.out (by repeat (first | exact grown_refl _ _ | refine grown_trans ?_ (grown_drewN _ _) | refine grown_trans ?_ (World.grownBy_alloc _ _ none)))) hgB; clear hoB hgB hatB)
    | fail)
  all_goals exact HEX.out _ _ _ _ _ _ _ _ _ _ _ _ _ _ _ _ _ _ (grown_trans HGA.out (by repeat (first | exact grown_refl _ _ | refine grown_trans ?_ (grown_drewN _ _) | refine grown_trans ?_ (World.grownBy_alloc _ _ none)))) (keep0 HRA.out (by repeat (first | exact grown_refl _ _ | refine grown_trans ?_ (grown_drewN _ _) | refine grown_trans ?_ (World.grownBy_alloc _ _ none)))) HGB.out HOB.out

theorem pl_r5q {Q0 : Exit → Act → World → Prop} {V : World} {B db ob lb lo N c k n1 cp1 kc : Nat} {ka a1 : Option Addr} {xs rs : List Value} {cs : Array Value}
    {v0 v2 v5 v6 v7 v8 v9 v10 v11 v12 v13 v14 v15 v16 v17 v18 v19 v20 v21 v22 v23 v24 v25 v26 v27 v28 v29 v30 v31 v32 v33 v34 v35 v36 v37 v38 v39 v40 v41 v42 v43 v44 : Value}
    (q0 : V.cell? ⟨ob, 0, none⟩ = some (.slice ka k kc)) (q1 : V.cell? ⟨db, 0, none⟩ = some (.slice (some ⟨lb, lo, none⟩) N c)) (q2 : V.cell? ⟨lb, lo + k, none⟩ = some (.slice a1 n1 cp1)) (hk1 : (k : Int) < (N : Int))
    (hnil : a1 = none → n1 = 0 ∧ cp1 = 0) (hxs : xs.length = n1 * 2) (hsr : ∀ Y, V.grownBy Y none → ∀ ad, a1 = some ad → ∀ j u, xs[j]? = some u → Y.cell? (ad.add j) = some u) (hon : ∀ u ∈ xs, u.oneCell' = true)
    (hn1 : n1 * 16 ≤ 140737488355328) (hk : k ≤ 5864062014634) (hO : V.ownsRow B 56 1 (.slice ka k kc) k rs) (hB : B ≤ V.heap.size) (hbox : V.heap[ob]? = some (.cells cs 42 (0, 0))) (hc0 : cs[0]? = some (.slice ka k kc))
    (hexit : ∀ (Y wB : World) (a6 : Option Addr) (c6 g9 k9 : Nat) (u13 u14 u15 u16 u17 u18 u19 u20 u21 u22 u23 u24 : Value), V.grownBy Y none → Y.ownsRow V.heap.size 52 2 (.slice a6 n1 c6) n1 xs → Y.grownBy wB (Value.slice ka k kc).ownBlock → wB.ownsRow B 56 1 (.slice (some ⟨g9, 0, none⟩) (k + 1) k9) (k + 1) (rs ++ [.slice a6 n1 c6]) → Q0 .normal ⟨List.toArray (v0 :: .pointer (some ⟨db, 0, none⟩) :: v2 :: .pointer (some ⟨ob, 0, none⟩) :: .int .i64 (k : Int) :: v5 :: v6 :: v7 :: v8 :: v9 :: v10 :: v11 :: v12 :: u13 :: u14 :: u15 :: u16 :: u17 :: u18 :: u19 :: u20 :: u21 :: u22 :: u23 :: u24 :: v25 :: v26 :: v27 :: v28 :: v29 :: v30 :: v31 :: v32 :: v33 :: v34 :: v35 :: v36 :: v37 :: v38 :: v39 :: v40 :: v41 :: v42 :: v43 :: v44 :: []), []⟩ (wB.setCell ⟨ob, 0, none⟩ (.slice (some ⟨g9, 0, none⟩) (k + 1) k9))) :
    Code.wp Try.prog plR5 Q0 ⟨List.toArray (v0 :: .pointer (some ⟨db, 0, none⟩) :: v2 :: .pointer (some ⟨ob, 0, none⟩) :: .int .i64 (k : Int) :: v5 :: v6 :: v7 :: v8 :: v9 :: v10 :: v11 :: v12 :: v13 :: v14 :: v15 :: v16 :: v17 :: v18 :: v19 :: v20 :: v21 :: v22 :: v23 :: v24 :: v25 :: v26 :: v27 :: v28 :: v29 :: v30 :: v31 :: v32 :: v33 :: v34 :: v35 :: v36 :: v37 :: v38 :: v39 :: v40 :: v41 :: v42 :: v43 :: v44 :: []), []⟩ V :=
  wp_mono (pl_r5 (K := fun a w => Q0 .normal a w) q0 q1 q2 hk1 hnil hxs hsr hon hn1 hk hO hB hbox hc0 hexit) fun e a w h => by
    cases e <;> first | exact h | exact h.elim

end Go.Proofs.Ytgmljpkenipgjaa.J

/-
  pack: the law's dense lays a row of []int: a region as a declaration of its own (printed by tools/pk_denr.py).
-/
namespace Go.Proofs.Ytgmljpkenipgjaa.J
open Go.RowKit Go.Maps Go.Shelf Pk

attribute [local go_sem] Oper.semAt_some
attribute [local go_sem ↓] Go.wp_at_zero Go.wp_at_succ

noncomputable def plR9 : Code := ((Try.f18.body.map (regionsJ 9)).getD []).getD 0 .skip

set_option maxRecDepth 100000 in
set_option maxHeartbeats 8000000 in
theorem pl_r9 {K : Act → World → Prop} {V : World} {B db ob lb lo N c k n1 cp1 kc : Nat} {ka a1 : Option Addr} {xs rs : List Value} {cs : Array Value}
    {v0 v2 v4 v6 v7 v8 v9 v10 v11 v12 v13 v14 v15 v16 v17 v18 v19 v20 v21 v22 v23 v24 v25 v26 v27 v28 v29 v30 v31 v32 v33 v34 v35 v36 v37 v38 v39 v40 v41 v42 v43 v44 : Value}
    (q0 : V.cell? ⟨ob, 1, none⟩ = some (.slice ka k kc)) (q1 : V.cell? ⟨db, 1, none⟩ = some (.slice (some ⟨lb, lo, none⟩) N c)) (q2 : V.cell? ⟨lb, lo + k, none⟩ = some (.slice a1 n1 cp1)) (hk1 : (k : Int) < (N : Int))
    (hnil : a1 = none → n1 = 0 ∧ cp1 = 0) (hxs : xs.length = n1 * 1) (hsr : ∀ Y, V.grownBy Y none → ∀ ad, a1 = some ad → ∀ j u, xs[j]? = some u → Y.cell? (ad.add j) = some u) (hon : ∀ u ∈ xs, u.oneCell' = true)
    (hn1 : n1 * 8 ≤ 140737488355328) (hk : k ≤ 5864062014634) (hO : V.ownsRow B 24 1 (.slice ka k kc) k rs) (hB : B ≤ V.heap.size) (hbox : V.heap[ob]? = some (.cells cs 42 (0, 0))) (hc0 : cs[1]? = some (.slice ka k kc))
    (hexit : ∀ (Y wB : World) (a6 : Option Addr) (c6 g9 k9 : Nat) (u32 u33 u34 u35 u36 u37 u38 u39 u40 u41 u42 u43 : Value), V.grownBy Y none → Y.ownsRow V.heap.size 3 1 (.slice a6 n1 c6) n1 xs → Y.grownBy wB (Value.slice ka k kc).ownBlock → wB.ownsRow B 24 1 (.slice (some ⟨g9, 0, none⟩) (k + 1) k9) (k + 1) (rs ++ [.slice a6 n1 c6]) → K ⟨List.toArray (v0 :: .pointer (some ⟨db, 0, none⟩) :: v2 :: .pointer (some ⟨ob, 0, none⟩) :: v4 :: .int .i64 (k : Int) :: v6 :: v7 :: v8 :: v9 :: v10 :: v11 :: v12 :: v13 :: v14 :: v15 :: v16 :: v17 :: v18 :: v19 :: v20 :: v21 :: v22 :: v23 :: v24 :: v25 :: v26 :: v27 :: v28 :: v29 :: v30 :: v31 :: u32 :: u33 :: u34 :: u35 :: u36 :: u37 :: u38 :: u39 :: u40 :: u41 :: u42 :: u43 :: v44 :: []), []⟩ (wB.setCell ⟨ob, 1, none⟩ (.slice (some ⟨g9, 0, none⟩) (k + 1) k9))) :
    Code.wp Try.prog plR9 (OnEndJ K) ⟨List.toArray (v0 :: .pointer (some ⟨db, 0, none⟩) :: v2 :: .pointer (some ⟨ob, 0, none⟩) :: v4 :: .int .i64 (k : Int) :: v6 :: v7 :: v8 :: v9 :: v10 :: v11 :: v12 :: v13 :: v14 :: v15 :: v16 :: v17 :: v18 :: v19 :: v20 :: v21 :: v22 :: v23 :: v24 :: v25 :: v26 :: v27 :: v28 :: v29 :: v30 :: v31 :: v32 :: v33 :: v34 :: v35 :: v36 :: v37 :: v38 :: v39 :: v40 :: v41 :: v42 :: v43 :: v44 :: []), []⟩ V := by
  obtain ⟨i0, hi0, hz0, hz1, hz2⟩ := info_parts infoIntD
  obtain ⟨i1, hi1, hy0, hy1, hy2⟩ := info_parts infoRowID
  have hk0 : (0 : Int) ≤ (k : Int) := by omega
  have HSR := hidD hsr
  have HNL := hidD hnil
  have HXL := hidD hxs
  have HON := hidD hon
  have HEX := hidD hexit
  have q0a : ∀ o', (V.alloc o').cell? ⟨ob, 1, none⟩ = some (.slice ka k kc) := fun o' => (World.grownBy_alloc _ o' none).cell q0 (by simp)
  have q1a : ∀ o', (V.alloc o').cell? ⟨db, 1, none⟩ = some (.slice (some ⟨lb, lo, none⟩) N c) := fun o' => (World.grownBy_alloc _ o' none).cell q1 (by simp)
  have q2a : ∀ o', (V.alloc o').cell? ⟨lb, lo + k, none⟩ = some (.slice a1 n1 cp1) := fun o' => (World.grownBy_alloc _ o' none).cell q2 (by simp)
  have HE0 : Hid (∀ Y, (V.alloc (.cells #[] 3)).grownBy Y none → Y.ownsRow V.heap.size 3 1 (.slice (some ⟨V.heap.size, 0, none⟩) 0 0) 0 []) := fun Y hY => keep0 ⟨rfl, .inr ⟨V.heap.size, 0, #[], rfl, Nat.le_refl _, heap_alloc_last V _, Nat.le_refl _, Nat.zero_le _, rfl, rfl⟩⟩ hY
  have HSZ : Hid (∀ Y, V.grownBy Y none → V.heap.size ≤ Y.heap.size) := fun Y hY => hY.size
  have HOO : Hid (∀ Y, V.grownBy Y none → Y.ownsRow B 24 1 (.slice ka k kc) k rs ∧ B ≤ Y.heap.size ∧ Y.cell? ⟨ob, 1, none⟩ = some (.slice ka k kc)) := fun Y hY => ⟨keep0 hO hY, Nat.le_trans hB hY.size, hY.cell q0 (by simp)⟩
  have HST : Hid (∀ Y Z, V.grownBy Y none → Y.grownBy Z (Value.slice ka k kc).ownBlock → Z.cell? ⟨ob, 1, none⟩ = some (.slice ka k kc) ∧ Z.frozen? ⟨ob, 1, none⟩ = false) := fun Y Z hY hZ => by
    have h1 := box_under (keep0 hO hY) (box_kept hbox hY) (by decide) hZ
    exact ⟨by rw [cell_of_row _ _ _ _ _ _ h1]; exact hc0, frozen_of_row _ _ _ _ _ h1⟩
  clear hnil hxs hsr hon hexit hO hB hbox hc0
  conv => arg 2; whnf
  go_region_law (first
    | (refine step_append_srcW rfl (.tmp 34) (.tmp 39) 24 rfl V.heap.size 3 i0 (.int .i64 0) 1 8 Try.underlying24 hi0 hz0 hz1 hz2 rfl (by decide) (.slice (some ⟨V.heap.size, 0, none⟩) 0 0) 0 [] (by first | (simp [Act.eval]; done) | simp [Act.eval, Act.put]) (HE0.out _ (by repeat (first | exact grown_refl _ _ | refine grown_trans ?_ (grown_drewN _ _) | refine grown_trans ?_ (World.grownBy_alloc _ _ none)))) a1 n1 cp1 xs (by first | (simp [Act.eval]; done) | simp [Act.eval, Act.put]) HNL.out HXL.out (HSR.out _ (by repeat (first | exact grown_refl _ _ | refine grown_trans ?_ (grown_drewN _ _) | refine grown_trans ?_ (World.grownBy_alloc _ _ none)))) HON.out (by unfold maxLen; omega) (by omega) (HSZ.out _ (by repeat (first | exact grown_refl _ _ | refine grown_trans ?_ (grown_drewN _ _) | refine grown_trans ?_ (World.grownBy_alloc _ _ none)))) ?_; intro v6 wA hoA hgA; rw [Nat.zero_add, List.nil_append] at hoA; obtain ⟨a6, c6, rfl⟩ := owns_slice hoA; have HGA : Hid (V.grownBy wA none) := grown_new (by repeat (first | exact grown_refl _ _ | refine grown_trans ?_ (grown_drewN _ _) | refine grown_trans ?_ (World.grownBy_alloc _ _ none))) hgA (Nat.le_refl _); have HRA := hidD hoA; have z0 := (HOO.out wA HGA.out).2.2; have z0a : ∀ o', (wA.alloc o').cell? ⟨ob, 1, none⟩ = some (.slice ka k kc) := fun o' => (World.grownBy_alloc _ o' none).cell z0 (by simp); clear hoA hgA)
    | (refine step_append_liesW _ rfl (.tmp 33) (.tmp 41) 40 rfl B 24 i1 (.slice none 0 0) 1 24 Try.underlying40 hi1 hy0 hy1 hy2 rfl (by decide) (.slice ka k kc) k rs (by first | (simp [Act.eval]; done) | simp [Act.eval, Act.put]) (HOO.out _ (grown_trans HGA.out (by repeat (first | exact grown_refl _ _ | refine grown_trans ?_ (grown_drewN _ _) | refine grown_trans ?_ (World.grownBy_alloc _ _ none))))).1 ⟨wA.heap.size, 0, none⟩ 1 1 [.slice a6 n1 c6] (by first | (simp [Act.eval]; done) | simp [Act.eval, Act.put]) rfl (World.news_of_block (heap_alloc_last wA _)) (by simp [Value.oneCell']) (by decide) (by unfold maxLen; omega) (by omega) (HOO.out _ (grown_trans HGA.out (by repeat (first | exact grown_refl _ _ | refine grown_trans ?_ (grown_drewN _ _) | refine grown_trans ?_ (World.grownBy_alloc _ _ none))))).2.1 ?_; intro g9 k9 wB hoB hgB hatB; have HGB := hidD hgB; have HOB := hidD hoB; obtain ⟨y0, y1⟩ := HST.out _ wB (grown_trans HGA.out (by repeat (first | exact grown_refl _ _ | refine grown_trans ?_ (grown_drewN _ _) | refine grown_trans ?_ (World.grownBy_alloc _ _ none)))) hgB; clear hoB hgB hatB)
    | fail)
  all_goals exact HEX.out _ _ _ _ _ _ _ _ _ _ _ _ _ _ _ _ _ _ (grown_trans HGA.out (by repeat (first | exact grown_refl _ _ | refine grown_trans ?_ (grown_drewN _ _) | refine grown_trans ?_ (World.grownBy_alloc _ _ none)))) (keep0 HRA.out (by repeat (first | exact grown_refl _ _ | refine grown_trans ?_ (grown_drewN _ _) | refine grown_trans ?_ (World.grownBy_alloc _ _ none)))) HGB.out HOB.out

theorem pl_r9q {Q0 : Exit → Act → World → Prop} {V : World} {B db ob lb lo N c k n1 cp1 kc : Nat} {ka a1 : Option Addr} {xs rs : List Value} {cs : Array Value}
    {v0 v2 v4 v6 v7 v8 v9 v10 v11 v12 v13 v14 v15 v16 v17 v18 v19 v20 v21 v22 v23 v24 v25 v26 v27 v28 v29 v30 v31 v32 v33 v34 v35 v36 v37 v38 v39 v40 v41 v42 v43 v44 : Value}
    (q0 : V.cell? ⟨ob, 1, none⟩ = some (.slice ka k kc)) (q1 : V.cell? ⟨db, 1, none⟩ = some (.slice (some ⟨lb, lo, none⟩) N c)) (q2 : V.cell? ⟨lb, lo + k, none⟩ = some (.slice a1 n1 cp1)) (hk1 : (k : Int) < (N : Int))
    (hnil : a1 = none → n1 = 0 ∧ cp1 = 0) (hxs : xs.length = n1 * 1) (hsr : ∀ Y, V.grownBy Y none → ∀ ad, a1 = some ad → ∀ j u, xs[j]? = some u → Y.cell? (ad.add j) = some u) (hon : ∀ u ∈ xs, u.oneCell' = true)
    (hn1 : n1 * 8 ≤ 140737488355328) (hk : k ≤ 5864062014634) (hO : V.ownsRow B 24 1 (.slice ka k kc) k rs) (hB : B ≤ V.heap.size) (hbox : V.heap[ob]? = some (.cells cs 42 (0, 0))) (hc0 : cs[1]? = some (.slice ka k kc))
    (hexit : ∀ (Y wB : World) (a6 : Option Addr) (c6 g9 k9 : Nat) (u32 u33 u34 u35 u36 u37 u38 u39 u40 u41 u42 u43 : Value), V.grownBy Y none → Y.ownsRow V.heap.size 3 1 (.slice a6 n1 c6) n1 xs → Y.grownBy wB (Value.slice ka k kc).ownBlock → wB.ownsRow B 24 1 (.slice (some ⟨g9, 0, none⟩) (k + 1) k9) (k + 1) (rs ++ [.slice a6 n1 c6]) → Q0 .normal ⟨List.toArray (v0 :: .pointer (some ⟨db, 0, none⟩) :: v2 :: .pointer (some ⟨ob, 0, none⟩) :: v4 :: .int .i64 (k : Int) :: v6 :: v7 :: v8 :: v9 :: v10 :: v11 :: v12 :: v13 :: v14 :: v15 :: v16 :: v17 :: v18 :: v19 :: v20 :: v21 :: v22 :: v23 :: v24 :: v25 :: v26 :: v27 :: v28 :: v29 :: v30 :: v31 :: u32 :: u33 :: u34 :: u35 :: u36 :: u37 :: u38 :: u39 :: u40 :: u41 :: u42 :: u43 :: v44 :: []), []⟩ (wB.setCell ⟨ob, 1, none⟩ (.slice (some ⟨g9, 0, none⟩) (k + 1) k9))) :
    Code.wp Try.prog plR9 Q0 ⟨List.toArray (v0 :: .pointer (some ⟨db, 0, none⟩) :: v2 :: .pointer (some ⟨ob, 0, none⟩) :: v4 :: .int .i64 (k : Int) :: v6 :: v7 :: v8 :: v9 :: v10 :: v11 :: v12 :: v13 :: v14 :: v15 :: v16 :: v17 :: v18 :: v19 :: v20 :: v21 :: v22 :: v23 :: v24 :: v25 :: v26 :: v27 :: v28 :: v29 :: v30 :: v31 :: v32 :: v33 :: v34 :: v35 :: v36 :: v37 :: v38 :: v39 :: v40 :: v41 :: v42 :: v43 :: v44 :: []), []⟩ V :=
  wp_mono (pl_r9 (K := fun a w => Q0 .normal a w) q0 q1 q2 hk1 hnil hxs hsr hon hn1 hk hO hB hbox hc0 hexit) fun e a w h => by
    cases e <;> first | exact h | exact h.elim

end Go.Proofs.Ytgmljpkenipgjaa.J

/-
  pack: the law's dense: a table copied (printed by tools/pk_dense.py).
-/
namespace Go.Proofs.Ytgmljpkenipgjaa.J
open Go.RowKit Go.Maps Go.Shelf Pk

attribute [local go_sem] Oper.semAt_some

/-- A box beside a store into another. -/
theorem box_set_other {X : World} {b b' : Nat} {o : Obj} (h : X.heap[b']? = some o) (hne : b' ≠ b) (i : Nat) (u : Value) : (X.setCell ⟨b, i, none⟩ u).heap[b']? = some o := ((grown_setCell (w := X) b i u).block b' (Array.getElem?_eq_some_iff.1 h).1 (fun e => hne (by simpa using e))).trans h
theorem zV_one (l : List Int) : ∀ u ∈ zV l, u.oneCell' = true := fun u hu => by
  unfold zV at hu
  obtain ⟨z, _, rfl⟩ := List.mem_map.1 hu
  rfl
theorem ints_cells {w : World} {a : Option Addr} {l : List Int} (h : IntsAt w a l) : ∀ x, a = some x → ∀ j u, (zV l)[j]? = some u → w.cell? (x.add j) = some u := by
  intro x hx j u hu
  rcases h with h | ⟨b, off, e, hc⟩
  · rw [h] at hu; simp [zV] at hu
  · rw [hx] at e
    simp only [Option.some.injEq] at e
    subst e
    rw [Addr.add_mid]
    have hj : j < l.length := by have := (List.getElem?_eq_some_iff.1 hu).1; unfold zV at this; simpa using this
    rw [zV_at hj] at hu
    rw [← Option.some.inj hu]
    exact hc j hj
/-- What dense tells: a table of one's own. -/
def DenTold (w : World) (N M : Nat) (R : Nat → List It) (Q : Nat → List Int) (e : Ending) (y : World) : Prop := ∃ ka kc ga gc ua uc va vc, e = .returned (.agg #[.slice ka N kc, .slice ga M gc]) ∧ RsAt y ka N R ua uc ∧ RiAt y ga M Q va vc ∧ w.grownBy y none
theorem results_dense (tmps : Array Value) (w : World) (g : Nat) (cs : Array Value) (h2 : tmps.getD 2 undef = .pointer (some ⟨g, 0, none⟩)) (hg : w.heap[g]? = some (.cells cs 42 (0, 0))) (hs : cs.size = 2) :
    (results Try.f18 tmps).run Try.prog w = .ok (.agg cs) w := by
  have h2' : tmps[2]?.getD undef = .pointer (some ⟨g, 0, none⟩) := by simpa using h2
  have hl := run_loadVar_row (P := Try.prog) w g 42 42 cs (0, 0) _ hg Try.underlying42 rfl (by rw [hs]; kernel_rfl)
  simp [results, Try.results18, h2', asAddr, hl]

set_option maxRecDepth 100000 in
set_option maxHeartbeats 8000000 in
theorem dense_any (a g : Option Addr) (N M c d : Nat) (R : Nat → List It) (Q : Nat → List Int) (la lg : Nat → Option Addr) (lc ld : Nat → Nat) (w : World) (hR : RsAt w a N R la lc) (hQ : RiAt w g M Q lg ld) (hnR : ∀ i, i < N → la i = none → (R i).length = 0 ∧ lc i = 0) (hnQ : ∀ i, i < M → lg i = none → (Q i).length = 0 ∧ ld i = 0) (hN : N ≤ 5864062014634) (hM : M ≤ 5864062014634) (hl : ∀ i, i < N → (R i).length ≤ 8796093021952) (hl2 : ∀ i, i < M → (Q i).length ≤ 17592186044416) :
    Calls Try.prog 18 #[.agg #[.slice a N c, .slice g M d]] w fun e y => DenTold w N M R Q e y := by
  have HR : Hid (∀ X, w.grownBy X none → RsAt X a N R la lc) := fun X hX => hR.kept hX
  have HQ : Hid (∀ X, w.grownBy X none → RiAt X g M Q lg ld) := fun X hX => hQ.kept hX
  have HL := hidM hl
  have HL2 := hidM hl2
  have HNR := hidM hnR
  have HNQ := hidM hnQ
  have hB0 : w.grownBy (w.alloc (Obj.cells #[Value.slice a N c, Value.slice g M d] 42)) none := World.grownBy_alloc _ _ none
  have hB1 : w.grownBy ((w.alloc (Obj.cells #[Value.slice a N c, Value.slice g M d] 42)).alloc (Obj.cells #[Value.slice none 0 0, Value.slice none 0 0] 42)) none := grown_trans hB0 (World.grownBy_alloc _ _ none)
  obtain ⟨X, hX⟩ : ∃ X, X = (((w.alloc (Obj.cells #[Value.slice a N c, Value.slice g M d] 42)).alloc (Obj.cells #[Value.slice none 0 0, Value.slice none 0 0] 42)).alloc (Obj.cells #[Value.slice none 0 0, Value.slice none 0 0] 42)) := ⟨_, rfl⟩
  have HGX : Hid (w.grownBy X none) := by show w.grownBy _ _; rw [hX]; exact grown_trans hB1 (World.grownBy_alloc _ _ none)
  have HX0 : Hid (X.heap[w.heap.size]? = some (.cells #[.slice a N c, .slice g M d] 42 (0, 0))) := by show _ = _; rw [hX]; exact box_kept (box_kept (heap_alloc_last w _) (World.grownBy_alloc _ _ none)) (World.grownBy_alloc _ _ none)
  have HX1 : Hid (X.heap[w.heap.size + 1]? = some (.cells #[.slice none 0 0, .slice none 0 0] 42 (0, 0))) := by
    show _ = _
    rw [hX]
    have h := heap_alloc_last (w.alloc (Obj.cells #[Value.slice a N c, Value.slice g M d] 42)) (Obj.cells #[Value.slice none 0 0, Value.slice none 0 0] 42)
    rw [show (w.alloc (Obj.cells #[Value.slice a N c, Value.slice g M d] 42)).heap.size = w.heap.size + 1 by simp] at h
    exact box_kept h (World.grownBy_alloc _ _ none)
  have HX2 : Hid (X.heap[w.heap.size + 1 + 1]? = some (.cells #[.slice none 0 0, .slice none 0 0] 42 (0, 0))) := by
    show _ = _
    rw [hX]
    have h := heap_alloc_last ((w.alloc (Obj.cells #[Value.slice a N c, Value.slice g M d] 42)).alloc (Obj.cells #[Value.slice none 0 0, Value.slice none 0 0] 42)) (Obj.cells #[Value.slice none 0 0, Value.slice none 0 0] 42)
    rw [show ((w.alloc (Obj.cells #[Value.slice a N c, Value.slice g M d] 42)).alloc (Obj.cells #[Value.slice none 0 0, Value.slice none 0 0] 42)).heap.size = w.heap.size + 1 + 1 by simp] at h
    exact h
  clear hR hQ hl hl2 hB0 hB1 hnR hnQ
  go_enter Try.func18, Try.ntmps18
  go_wp2_with fail
  rw [← hX]
  clear hX
  obtain ⟨db, hdb⟩ : ∃ v, v = w.heap.size := ⟨_, rfl⟩
  have HDB : Hid (db = w.heap.size) := hdb
  rw [← hdb] at HX0 HX1 HX2 ⊢
  clear hdb
  go_loopg [4] N (fun gk v4 wr => ∃ (k : Nat) (ka : Option Addr) (kc : Nat) (ua : Nat → Option Addr) (uc : Nat → Nat), k ≤ N ∧ gk = N - k ∧ v4 = .int .i64 k ∧ LvP wr db 56 52 2 ka kc k (fun j => (R j).length) (fun j => itsV (R j)) ua uc ∧ wr.heap[db + 1 + 1]? = some (.cells #[.slice ka k kc, .slice none 0 0] 42 (0, 0)) ∧ wr.heap[db + 1]? = some (.cells #[.slice none 0 0, .slice none 0 0] 42 (0, 0)) ∧ wr.heap[db]? = some (.cells #[.slice a N c, .slice g M d] 42 (0, 0)) ∧ w.grownBy wr none)
  case atStart => exact ⟨0, none, 0, fun _ => none, fun _ => 0, Nat.zero_le _, rfl, rfl, LvP.nothing _ _ _ _ _ _ _, HX2.out, HX1.out, HX0.out, HGX.out⟩
  case round =>
    clear HX0 HX1 HX2 HGX
    obtain ⟨k, ka, kc, ua, uc, hk, hgk, rfl, hp, hb2, hb1, hb0, hg⟩ := hrel
    have HGK : Hid (gk = N - k) := hgk
    have HP := hidM hp
    have HB2 := hidM hb2
    have HB1 := hidM hb1
    have HB0 := hidM hb0
    have HG := hidM hg
    have q0 : wr.cell? ⟨db, 0, none⟩ = some (.slice a N c) := by rw [cell_of_row _ _ _ _ _ _ hb0]; rfl
    have q1 : wr.cell? ⟨db, 1, none⟩ = some (.slice g M d) := by rw [cell_of_row _ _ _ _ _ _ hb0]; rfl
    have p0 : wr.cell? ⟨db + 1 + 1, 0, none⟩ = some (.slice ka k kc) := by rw [cell_of_row _ _ _ _ _ _ hb2]; rfl
    have hdw : db ≤ wr.heap.size := by rw [HDB.out]; exact hg.size
    clear hgk hp hb0 hb1 hb2
    by_cases hlt : k < N
    · have hkd : decide (k < N) = true := decide_eq_true hlt
      have hk0 : (0 : Int) ≤ (k : Int) := by omega
      have hk1 : (k : Int) < (N : Int) := by omega
      obtain ⟨lb, lo, rfl, c1⟩ : ∃ lb lo, a = some ⟨lb, lo, none⟩ ∧ wr.cell? ⟨lb, lo + k, none⟩ = some (.slice (la k) (R k).length (lc k)) := by
        rcases (HR.out wr hg).1 with h | ⟨lb, lo, e, h⟩
        · omega
        · exact ⟨lb, lo, e, h k hlt⟩
      have hbd := HL.out k hlt
      have hk5 : k ≤ 5864062014634 := by omega
      clear hg
      conv in (Code.region 5 _ _) => change plR5
      go_wp2_with fail
      refine pl_r5q (B := db) (xs := itsV (R k)) (cs := #[.slice ka k kc, .slice none 0 0]) p0 q0 c1 hk1 (HNR.out k hlt) (itsV_length _) (fun Y hY => its_cells ((HR.out Y (grown_trans HG.out hY)).2 k hlt)) (itsV_one _) (by omega) hk5 HP.out.out hdw HB2.out rfl ?_
      intro Y wB a6 c6 g9 k9 z13 z14 z15 z16 z17 z18 z19 z20 z21 z22 z23 z24 hY hr6 hgB hoB
      have h1 := HP.out.kept hY
      have h2 := h1.push (by decide) (owns_lowP hr6 hdw) hgB hoB
      have e2 := box_under h1.out (box_kept HB2.out hY) (by decide) hgB
      have HP2 := hidM (h2.box (Y := wB.setCell ⟨db + 1 + 1, 0, none⟩ (.slice (some ⟨g9, 0, none⟩) (k + 1) k9)) e2 (by decide) (by decide) (grown_setCell _ _ _))
      have HE2 : Hid ((wB.setCell ⟨db + 1 + 1, 0, none⟩ (.slice (some ⟨g9, 0, none⟩) (k + 1) k9)).heap[db + 1 + 1]? = some (.cells #[.slice (some ⟨g9, 0, none⟩) (k + 1) k9, .slice none 0 0] 42 (0, 0))) := heap_setCell_same _ _ 0 _ _ (.slice (some ⟨g9, 0, none⟩) (k + 1) k9) e2
      have HGB : Hid (w.grownBy wB none) := grown_row (grown_trans HG.out hY) h1.out (by rw [HDB.out]; exact Nat.le_refl _) hgB
      have HE1 := hidM (box_under h1.out (box_kept HB1.out hY) (by decide) hgB)
      have HE0 := hidM (box_under h1.out (box_kept HB0.out hY) (by decide) hgB)
      clear h1 h2 e2 hY hr6 hgB hoB c1
      go_wp2_with fail
      go_roundg (N - (k + 1))
      case measure => have := HGK.out; omega
      case rel => exact ⟨k + 1, _, _, _, _, by omega, rfl, by go_num, HP2.out, HE2.out, box_set_other HE1.out (by omega) _ _, box_set_other HE0.out (by omega) _ _, grown_new HGB.out (grown_setCell _ _ _) (by have := HDB.out; omega)⟩
    · have hkd : decide (k < N) = false := decide_eq_false hlt
      have hkN : k = N := by omega
      subst hkN
      clear hg
      go_wp2_with fail
      clear p0 q0 q1 HGK hdw hkd hlt
      generalize wr = W0 at *
      go_loopg [5] M (fun gk v5 wr => ∃ (j : Nat) (ga : Option Addr) (gc : Nat) (va : Nat → Option Addr) (vc : Nat → Nat), j ≤ M ∧ gk = M - j ∧ v5 = .int .i64 j ∧ LvP wr db 24 3 1 ga gc j (fun j => (Q j).length) (fun j => zV (Q j)) va vc ∧ LvP wr db 56 52 2 ka kc k (fun j => (R j).length) (fun j => itsV (R j)) ua uc ∧ wr.heap[db + 1 + 1]? = some (.cells #[.slice ka k kc, .slice ga j gc] 42 (0, 0)) ∧ wr.heap[db + 1]? = some (.cells #[.slice none 0 0, .slice none 0 0] 42 (0, 0)) ∧ wr.heap[db]? = some (.cells #[.slice a k c, .slice g M d] 42 (0, 0)) ∧ w.grownBy wr none)
      case atStart => exact ⟨0, none, 0, fun _ => none, fun _ => 0, Nat.zero_le _, rfl, rfl, LvP.nothing _ _ _ _ _ _ _, HP.out, HB2.out, HB1.out, HB0.out, HG.out⟩
      case round =>
        clear HB0 HB1 HB2 HG HP
        obtain ⟨j, ga, gc, va, vc, hj, hgj, rfl, hq, hp, hb2, hb1, hb0, hg⟩ := hrel
        have HGJ : Hid (gk = M - j) := hgj
        have HP := hidM hp
        have HV := hidM hq
        have HB2 := hidM hb2
        have HB1 := hidM hb1
        have HB0 := hidM hb0
        have HG := hidM hg
        have q1 : wr.cell? ⟨db, 1, none⟩ = some (.slice g M d) := by rw [cell_of_row _ _ _ _ _ _ hb0]; rfl
        have p0 : wr.cell? ⟨db + 1 + 1, 1, none⟩ = some (.slice ga j gc) := by rw [cell_of_row _ _ _ _ _ _ hb2]; rfl
        have hdw : db ≤ wr.heap.size := by rw [HDB.out]; exact hg.size
        clear hgj hp hq hb0 hb1
        by_cases hlt : j < M
        · have hkd : decide (j < M) = true := decide_eq_true hlt
          have hk0 : (0 : Int) ≤ (j : Int) := by omega
          have hk1 : (j : Int) < (M : Int) := by omega
          obtain ⟨lb, lo, rfl, c1⟩ : ∃ lb lo, g = some ⟨lb, lo, none⟩ ∧ wr.cell? ⟨lb, lo + j, none⟩ = some (.slice (lg j) (Q j).length (ld j)) := by
            rcases (HQ.out wr hg).1 with h | ⟨lb, lo, e, h⟩
            · omega
            · exact ⟨lb, lo, e, h j hlt⟩
          have hbd := HL2.out j hlt
          have hk5 : j ≤ 5864062014634 := by omega
          clear hg hb2
          conv in (Code.region 9 _ _) => change plR9
          go_wp2_with fail
          refine pl_r9q (B := db) (xs := zV (Q j)) (cs := #[.slice ka k kc, .slice ga j gc]) p0 q1 c1 hk1 (HNQ.out j hlt) (by unfold zV; simp) (fun Y hY => ints_cells ((HQ.out Y (grown_trans HG.out hY)).2 j hlt)) (zV_one _) (by omega) hk5 HV.out.out hdw HB2.out rfl ?_
          intro Y wB a6 c6 g9 k9 z13 z14 z15 z16 z17 z18 z19 z20 z21 z22 z23 z24 hY hr6 hgB hoB
          have h1 := HV.out.kept hY
          have h2 := h1.push (by decide) (owns_lowP hr6 hdw) hgB hoB
          have h3 := (HP.out.kept hY).beside h1.out (by decide) (by decide) hgB
          have e2 := box_under h1.out (box_kept HB2.out hY) (by decide) hgB
          have HV2 := hidM (h2.box (Y := wB.setCell ⟨db + 1 + 1, 1, none⟩ (.slice (some ⟨g9, 0, none⟩) (j + 1) k9)) e2 (by decide) (by decide) (grown_setCell _ _ _))
          have HP2 := hidM (h3.box (Y := wB.setCell ⟨db + 1 + 1, 1, none⟩ (.slice (some ⟨g9, 0, none⟩) (j + 1) k9)) e2 (by decide) (by decide) (grown_setCell _ _ _))
          have HE2 : Hid ((wB.setCell ⟨db + 1 + 1, 1, none⟩ (.slice (some ⟨g9, 0, none⟩) (j + 1) k9)).heap[db + 1 + 1]? = some (.cells #[.slice ka k kc, .slice (some ⟨g9, 0, none⟩) (j + 1) k9] 42 (0, 0))) := heap_setCell_same _ _ 1 _ _ (.slice (some ⟨g9, 0, none⟩) (j + 1) k9) e2
          have HGB : Hid (w.grownBy wB none) := grown_row (grown_trans HG.out hY) h1.out (by rw [HDB.out]; exact Nat.le_refl _) hgB
          have HE1 := hidM (box_under h1.out (box_kept HB1.out hY) (by decide) hgB)
          have HE0 := hidM (box_under h1.out (box_kept HB0.out hY) (by decide) hgB)
          clear h1 h2 h3 e2 hY hr6 hgB hoB c1
          go_wp2_with fail
          go_roundg (M - (j + 1))
          case measure => have := HGJ.out; omega
          case rel => exact ⟨j + 1, _, _, _, _, by omega, rfl, by go_num, HV2.out, HP2.out, HE2.out, box_set_other HE1.out (by omega) _ _, box_set_other HE0.out (by omega) _ _, grown_new HGB.out (grown_setCell _ _ _) (by have := HDB.out; omega)⟩
        · have hkd : decide (j < M) = false := decide_eq_false hlt
          have hjM : j = M := by omega
          subst hjM
          have l0 : wr.cell? ⟨db + 1 + 1, 0, none⟩ = some (.slice ka k kc) := by rw [cell_of_row _ _ _ _ _ _ hb2]; rfl
          have s0 : wr.cell? ⟨db + 1, 0, none⟩ = some (.slice none 0 0) := by rw [cell_of_row _ _ _ _ _ _ HB1.out]; rfl
          have s1 : wr.cell? ⟨db + 1, 1, none⟩ = some (.slice none 0 0) := by rw [cell_of_row _ _ _ _ _ _ HB1.out]; rfl
          have f0 : wr.frozen? ⟨db + 1, 0, none⟩ = false := frozen_of_row _ _ _ _ _ HB1.out
          have f1 : wr.frozen? ⟨db + 1, 1, none⟩ = false := frozen_of_row _ _ _ _ _ HB1.out
          clear hg hb2
          go_wp2_with fail
          have h1 : (wr.setCell ⟨db + 1, 0, none⟩ (.slice ka k kc)).heap[db + 1]? = some (.cells #[.slice ka k kc, .slice none 0 0] 42 (0, 0)) := heap_setCell_same _ _ 0 _ _ (.slice ka k kc) HB1.out
          have h2 : ((wr.setCell ⟨db + 1, 0, none⟩ (.slice ka k kc)).setCell ⟨db + 1, 1, none⟩ (.slice ga j gc)).heap[db + 1]? = some (.cells #[.slice ka k kc, .slice ga j gc] 42 (0, 0)) := heap_setCell_same _ _ 1 _ _ (.slice ga j gc) h1
          have h3 := (HP.out.box HB1.out (by decide) (by decide) (grown_setCell (db + 1) 0 (.slice ka k kc))).box h1 (by decide) (by decide) (grown_setCell (db + 1) 1 (.slice ga j gc))
          have h4 := (HV.out.box HB1.out (by decide) (by decide) (grown_setCell (db + 1) 0 (.slice ka k kc))).box h1 (by decide) (by decide) (grown_setCell (db + 1) 1 (.slice ga j gc))
          exact ⟨rfl, _, results_dense _ _ (db + 1) _ rfl h2 rfl, ka, kc, ga, gc, ua, uc, va, vc, rfl, h3.rs, h4.ri, grown_new (grown_new HG.out (grown_setCell _ _ _) (by have := HDB.out; omega)) (grown_setCell _ _ _) (by have := HDB.out; omega)⟩

end Go.Proofs.Ytgmljpkenipgjaa.J

/-
  pack: eight rows of a packed table in memory; what spoiling leaves.
-/
namespace Go.Proofs.Ytgmljpkenipgjaa.J
open Go.RowKit Go.Maps Go.Shelf Pk

attribute [local go_sem] Oper.semAt_some

/-- A world, cut off. -/
def cutW (Z : World) (m : Nat) : World := { Z with heap := Z.heap.extract 0 m }
theorem cutW_size {Z : World} {m : Nat} (h : m ≤ Z.heap.size) : (cutW Z m).heap.size = m := by
  show (Z.heap.extract 0 m).size = m
  rw [Array.size_extract]
  omega
theorem cutW_at {Z : World} {m k : Nat} (h : k < m) : (cutW Z m).heap[k]? = Z.heap[k]? := by
  show (Z.heap.extract 0 m)[k]? = _
  by_cases hk : k < Z.heap.size
  · rw [Array.getElem?_extract, if_pos (by omega), Nat.zero_add]
  · rw [Array.getElem?_eq_none (by rw [Array.size_extract]; omega), Array.getElem?_eq_none (by omega)]
theorem cutW_grown {Z : World} {m : Nat} (h : m ≤ Z.heap.size) : (cutW Z m).grownBy Z none := ⟨rfl, rfl, rfl, by rw [cutW_size h]; exact h, fun k hk _ => (cutW_at (by rw [cutW_size h] at hk; exact hk)).symm⟩
/-- Only blocks from lo below hi may have turned. -/
def Unch (X Y : World) (lo hi : Nat) : Prop := Y.os = X.os ∧ Y.tape = X.tape ∧ Y.output = X.output ∧ X.heap.size ≤ Y.heap.size ∧ ∀ b, b < X.heap.size → (b < lo ∨ hi ≤ b) → Y.heap[b]? = X.heap[b]?
theorem spo_unch {Z X : World} {lo hi : Nat} {e : Ending} (hlo : lo ≤ Z.heap.size) (h : SpoTold (cutW Z lo) Z hi e X) : e = .returned (.tuple #[]) ∧ Unch Z X lo hi := by
  obtain ⟨h1, h2, h3, h4⟩ := h
  refine ⟨h1, h2.os, h2.tape, h2.output, h4, fun b hb hor => ?_⟩
  rcases hor with h | h
  · rw [h2.block b (by rw [cutW_size hlo]; exact h) (by simp), cutW_at h]
  · exact h3 b h hb
theorem row_unch {X Y : World} {B e s n lo hi : Nat} {v : Value} {xs : List Value} (h : X.ownsRow B e s v n xs) (hu : Unch X Y lo hi) (hb : ∀ b, v.ownBlock = some b → b < lo ∨ hi ≤ b) : Y.ownsRow B e s v n xs := by
  obtain ⟨h1, h2⟩ := h
  refine ⟨h1, ?_⟩
  rcases h2 with h2 | ⟨g, cap, cur, a, b, hh, c⟩
  · exact .inl h2
  · exact .inr ⟨g, cap, cur, a, b, by rw [hu.2.2.2.2 g (Array.getElem?_eq_some_iff.1 hh).1 (hb g (by rw [a]; rfl))]; exact hh, c⟩
theorem tr_unch {X Y : World} {B n lo hi : Nat} {Q : Nat → List Int} {ua : Nat → Option Addr} {uc : Nat → Nat} (h : TrZ X B n Q ua uc) (hu : Unch X Y lo hi) (hb : hi ≤ B) : TrZ Y B n Q ua uc := ⟨fun j hj => row_unch (h.inn j hj) hu fun b e => .inr (Nat.le_trans hb ((h.inn j hj).lt b e).1), h.sep⟩
theorem grown_unch {w X Y : World} {lo hi : Nat} (h : w.grownBy X none) (hu : Unch X Y lo hi) (hl : w.heap.size ≤ lo) : w.grownBy Y none :=
  ⟨hu.1.trans h.os, hu.2.1.trans h.tape, hu.2.2.1.trans h.output, Nat.le_trans h.size hu.2.2.2.1, fun k hk hne => (hu.2.2.2.2 k (Nat.lt_of_lt_of_le hk h.size) (.inl (Nat.lt_of_lt_of_le hk hl))).trans (h.block k hk hne)⟩
theorem box_unch {X Y : World} {b lo hi : Nat} {o : Obj} (h : X.heap[b]? = some o) (hu : Unch X Y lo hi) (hb : hi ≤ b) : Y.heap[b]? = some o := (hu.2.2.2.2 b (Array.getElem?_eq_some_iff.1 h).1 (.inr hb)).trans h

/-- The rows of what was packed, as the program leaves them. -/
structure PmAt (X : World) (B H : Nat) (L : Nat → List Int) (af : Nat → Option Addr) (cf : Nat → Nat) (m1 b2 m2 : Nat) : Prop where
  d : X.ownsRow B 3 1 (.slice (af 0) (L 0).length (cf 0)) (L 0).length (zV (L 0))
  du : ∀ b, (Value.slice (af 0) (L 0).length (cf 0)).ownBlock = some b → b < m1 ∧ b < b2 ∧ b < H
  a : TrZ X m1 3 (fun j => L (j + 1)) (fun j => af (j + 1)) (fun j => cf (j + 1))
  au : ∀ j, j < 3 → ∀ b, (Value.slice (af (j + 1)) (L (j + 1)).length (cf (j + 1))).ownBlock = some b → b < b2 ∧ b < H
  t : X.ownsRow b2 3 1 (.slice (af 4) (L 4).length (cf 4)) (L 4).length (zV (L 4))
  tu : ∀ b, (Value.slice (af 4) (L 4).length (cf 4)).ownBlock = some b → b < m2 ∧ b < H
  g : TrZ X m2 3 (fun j => L (j + 5)) (fun j => af (j + 5)) (fun j => cf (j + 5))
  gu : ∀ j, j < 3 → ∀ b, (Value.slice (af (j + 5)) (L (j + 5)).length (cf (j + 5))).ownBlock = some b → b < H
  s : B ≤ m1 ∧ B ≤ b2 ∧ b2 ≤ m2 ∧ B ≤ H
/-- The rows of what the document packs. -/
structure PxAt (X : World) (B : Nat) (L : Nat → List Int) (af : Nat → Option Addr) (cf : Nat → Nat) : Prop where
  d : X.ownsRow B 3 1 (.slice (af 0) (L 0).length (cf 0)) (L 0).length (zV (L 0))
  a : TrZ X B 3 (fun j => L (j + 1)) (fun j => af (j + 1)) (fun j => cf (j + 1))
  t : X.ownsRow B 3 1 (.slice (af 4) (L 4).length (cf 4)) (L 4).length (zV (L 4))
  g : TrZ X B 3 (fun j => L (j + 5)) (fun j => af (j + 5)) (fun j => cf (j + 5))
/-- Eight rows of numbers. -/
def InP (X : World) (L : Nat → List Int) (af : Nat → Option Addr) : Prop := ∀ j, j < 8 → IntsAt X (af j) (L j)
theorem inP_of {X : World} {L : Nat → List Int} {af : Nat → Option Addr} (hd : IntsAt X (af 0) (L 0)) (ha : ∀ j, j < 3 → IntsAt X (af (j + 1)) (L (j + 1))) (ht : IntsAt X (af 4) (L 4)) (hg : ∀ j, j < 3 → IntsAt X (af (j + 5)) (L (j + 5))) : InP X L af := fun j hj => by
  match j, hj with
  | 0, _ => exact hd
  | 1, _ => exact ha 0 (by decide)
  | 2, _ => exact ha 1 (by decide)
  | 3, _ => exact ha 2 (by decide)
  | 4, _ => exact ht
  | 5, _ => exact hg 0 (by decide)
  | 6, _ => exact hg 1 (by decide)
  | 7, _ => exact hg 2 (by decide)
section
variable {X Y : World} {B H : Nat} {L : Nat → List Int} {af : Nat → Option Addr} {cf : Nat → Nat} {m1 b2 m2 : Nat}
theorem PmAt.ints (h : PmAt X B H L af cf m1 b2 m2) : InP X L af := inP_of (owned_intsD h.d rfl) (fun _ hj => h.a.ints hj) (owned_intsD h.t rfl) (fun _ hj => h.g.ints hj)
theorem PxAt.ints (h : PxAt X B L af cf) : InP X L af := inP_of (owned_intsD h.d rfl) (fun _ hj => h.a.ints hj) (owned_intsD h.t rfl) (fun _ hj => h.g.ints hj)
theorem PmAt.kept (h : PmAt X B H L af cf m1 b2 m2) (hg : X.grownBy Y none) : PmAt Y B H L af cf m1 b2 m2 := ⟨keep0 h.d hg, h.du, h.a.kept hg, h.au, keep0 h.t hg, h.tu, h.g.kept hg, h.gu, h.s⟩
theorem PxAt.kept (h : PxAt X B L af cf) (hg : X.grownBy Y none) : PxAt Y B L af cf := ⟨keep0 h.d hg, h.a.kept hg, keep0 h.t hg, h.g.kept hg⟩
theorem PxAt.unch {lo hi : Nat} (h : PxAt X B L af cf) (hu : Unch X Y lo hi) (hb : hi ≤ B) : PxAt Y B L af cf := ⟨row_unch h.d hu fun b e => .inr (Nat.le_trans hb (h.d.lt b e).1), tr_unch h.a hu hb, row_unch h.t hu fun b e => .inr (Nat.le_trans hb (h.t.lt b e).1), tr_unch h.g hu hb⟩
theorem PmAt.box {b : Nat} {cs : Array Value} {t : TypeId} (h : PmAt X B H L af cf m1 b2 m2) (hb : X.heap[b]? = some (.cells cs t (0, 0))) (ht : t ≠ 3) (hg : X.grownBy Y (some b)) : PmAt Y B H L af cf m1 b2 m2 := ⟨row_beside h.d hb ht hg, h.du, h.a.beside hb ht hg, h.au, row_beside h.t hb ht hg, h.tu, h.g.beside hb ht hg, h.gu, h.s⟩
theorem PxAt.box {b : Nat} {cs : Array Value} {t : TypeId} (h : PxAt X B L af cf) (hb : X.heap[b]? = some (.cells cs t (0, 0))) (ht : t ≠ 3) (hg : X.grownBy Y (some b)) : PxAt Y B L af cf := ⟨row_beside h.d hb ht hg, h.a.beside hb ht hg, row_beside h.t hb ht hg, h.g.beside hb ht hg⟩
/-- What the first spoiling leaves of it. -/
structure PmB (X : World) (B H : Nat) (L : Nat → List Int) (af : Nat → Option Addr) (cf : Nat → Nat) (b2 m2 : Nat) : Prop where
  d : X.ownsRow B 3 1 (.slice (af 0) (L 0).length (cf 0)) (L 0).length (zV (L 0))
  du : ∀ b, (Value.slice (af 0) (L 0).length (cf 0)).ownBlock = some b → b < b2 ∧ b < H
  t : X.ownsRow b2 3 1 (.slice (af 4) (L 4).length (cf 4)) (L 4).length (zV (L 4))
  tu : ∀ b, (Value.slice (af 4) (L 4).length (cf 4)).ownBlock = some b → b < m2 ∧ b < H
  g : TrZ X m2 3 (fun j => L (j + 5)) (fun j => af (j + 5)) (fun j => cf (j + 5))
  gu : ∀ j, j < 3 → ∀ b, (Value.slice (af (j + 5)) (L (j + 5)).length (cf (j + 5))).ownBlock = some b → b < H
  s : B ≤ b2 ∧ b2 ≤ m2 ∧ B ≤ H
/-- And the second. -/
structure PmC (X : World) (B H : Nat) (L : Nat → List Int) (af : Nat → Option Addr) (cf : Nat → Nat) (b2 : Nat) : Prop where
  d : X.ownsRow B 3 1 (.slice (af 0) (L 0).length (cf 0)) (L 0).length (zV (L 0))
  du : ∀ b, (Value.slice (af 0) (L 0).length (cf 0)).ownBlock = some b → b < b2 ∧ b < H
  t : X.ownsRow b2 3 1 (.slice (af 4) (L 4).length (cf 4)) (L 4).length (zV (L 4))
  tu : ∀ b, (Value.slice (af 4) (L 4).length (cf 4)).ownBlock = some b → b < H
  s : B ≤ b2 ∧ B ≤ H
theorem PmB.kept (h : PmB X B H L af cf b2 m2) (hg : X.grownBy Y none) : PmB Y B H L af cf b2 m2 := ⟨keep0 h.d hg, h.du, keep0 h.t hg, h.tu, h.g.kept hg, h.gu, h.s⟩
theorem PmC.kept (h : PmC X B H L af cf b2) (hg : X.grownBy Y none) : PmC Y B H L af cf b2 := ⟨keep0 h.d hg, h.du, keep0 h.t hg, h.tu, h.s⟩
end
section
variable {Z : World} {B H : Nat} {L : Nat → List Int} {af : Nat → Option Addr} {cf : Nat → Nat} {m1 b2 m2 : Nat}
theorem spoil_a (h : PmAt Z B H L af cf m1 b2 m2) (hH : H ≤ Z.heap.size) (hn : ∀ j, j < 8 → (L j).length ≤ 1048576) :
    Calls Try.prog 14 #[.agg #[.slice (af 1) (L 1).length (cf 1), .slice (af 2) (L 2).length (cf 2), .slice (af 3) (L 3).length (cf 3)]] Z fun e X => e = .returned (.tuple #[]) ∧ Unch Z X B H ∧ PmB X B H L af cf b2 m2 := by
  obtain ⟨s1, s2, s3, s4⟩ := h.s
  have hlo : min (min m1 b2) H ≤ Z.heap.size := by omega
  have hz := cutW_size hlo
  have key := spoil_any (cutW Z (min (min m1 b2) H)) Z (min b2 H) (fun j => L (j + 1)) (fun j => af (j + 1)) (fun j => cf (j + 1)) (h.a.lower (by rw [hz]; omega)) (cutW_grown hlo) (fun j hj g hg => by have := h.au j hj g hg; omega) (by omega) (by rw [hz]; omega) (fun j hj => hn _ (by omega))
  refine key.mono fun e X hS => ?_
  obtain ⟨h1, h2⟩ := spo_unch hlo hS
  refine ⟨h1, ⟨h2.1, h2.2.1, h2.2.2.1, h2.2.2.2.1, fun b hb hor => h2.2.2.2.2 b hb (by omega)⟩, ⟨row_unch h.d h2 fun b e => ?_, fun b e => (h.du b e).2, row_unch h.t h2 fun b e => ?_, h.tu, ?_, h.gu, ⟨s2, s3, s4⟩⟩⟩
  · have := h.du b e; omega
  · have := (h.t.lt b e).1; omega
  · exact tr_unch h.g h2 (by omega)
theorem spoil_g (h : PmB Z B H L af cf b2 m2) (hH : H ≤ Z.heap.size) (hn : ∀ j, j < 8 → (L j).length ≤ 1048576) :
    Calls Try.prog 14 #[.agg #[.slice (af 5) (L 5).length (cf 5), .slice (af 6) (L 6).length (cf 6), .slice (af 7) (L 7).length (cf 7)]] Z fun e X => e = .returned (.tuple #[]) ∧ Unch Z X B H ∧ PmC X B H L af cf b2 := by
  obtain ⟨s2, s3, s4⟩ := h.s
  have hlo : min m2 H ≤ Z.heap.size := by omega
  have hz := cutW_size hlo
  have key := spoil_any (cutW Z (min m2 H)) Z H (fun j => L (j + 5)) (fun j => af (j + 5)) (fun j => cf (j + 5)) (h.g.lower (by rw [hz]; omega)) (cutW_grown hlo) (fun j hj g hg => h.gu j hj g hg) hH (by rw [hz]; omega) (fun j hj => hn _ (by omega))
  refine key.mono fun e X hS => ?_
  obtain ⟨h1, h2⟩ := spo_unch hlo hS
  refine ⟨h1, ⟨h2.1, h2.2.1, h2.2.2.1, h2.2.2.2.1, fun b hb hor => h2.2.2.2.2 b hb (by omega)⟩, ⟨row_unch h.d h2 fun b e => ?_, h.du, row_unch h.t h2 fun b e => ?_, fun b e => (h.tu b e).2, ⟨s2, s4⟩⟩⟩
  · have := h.du b e; omega
  · have := h.tu b e; omega
theorem spoil_d (h : PmC Z B H L af cf b2) (hH : H ≤ Z.heap.size) (hn : ∀ j, j < 8 → (L j).length ≤ 1048576) :
    Calls Try.prog 14 #[.agg #[.slice (af 0) (L 0).length (cf 0), .slice (af 4) (L 4).length (cf 4), .slice none 0 0]] Z fun e X => e = .returned (.tuple #[]) ∧ Unch Z X B H := by
  obtain ⟨s2, s4⟩ := h.s
  have hlo : B ≤ Z.heap.size := by omega
  have hz := cutW_size hlo
  have ho : ∀ b, (Value.slice (none : Option Addr) 0 0).ownBlock = some b → False := fun b e => by simp [Value.ownBlock] at e
  have hsep : ∀ b, (Value.slice (af 0) (L 0).length (cf 0)).ownBlock = some b → (Value.slice (af 4) (L 4).length (cf 4)).ownBlock ≠ some b := fun b e1 e2 => by
    have q1 := (h.du b e1).1
    have q2 := (h.t.lt b e2).1
    omega
  have hT : TrZ Z (cutW Z B).heap.size 3 (fun j => if j = 0 then L 0 else if j = 1 then L 4 else []) (fun j => if j = 0 then af 0 else if j = 1 then af 4 else none) (fun j => if j = 0 then cf 0 else if j = 1 then cf 4 else 0) := by
    rw [hz]
    refine ⟨fun j hj => ?_, fun i j hi hj hne => ?_⟩
    · match j, hj with
      | 0, _ => exact h.d
      | 1, _ => exact owns_lowP h.t s2
      | 2, _ => exact World.ownsRow_nil _ _ _ _
    · have key : ∀ (x y : Option Nat), (∀ b, x = some b → y ≠ some b) → x = none ∨ x ≠ y := fun x y h => by
        cases x with
        | none => exact .inl rfl
        | some b => exact .inr (fun e => h b rfl e.symm)
      match i, j, hi, hj, hne with
      | 0, 0, _, _, hne => exact absurd rfl hne
      | 0, 1, _, _, _ => exact key _ _ hsep
      | 0, 2, _, _, _ => exact key _ _ (fun b _ e => ho b e)
      | 1, 0, _, _, _ => exact key _ _ (fun b e1 e2 => hsep b e2 e1)
      | 1, 1, _, _, hne => exact absurd rfl hne
      | 1, 2, _, _, _ => exact key _ _ (fun b _ e => ho b e)
      | 2, _, _, _, _ => exact .inl rfl
  have key := spoil_any (cutW Z B) Z H _ _ _ hT (cutW_grown hlo) (fun j hj g hg => by
    match j, hj with
    | 0, _ => exact (h.du g hg).2
    | 1, _ => exact h.tu g hg
    | 2, _ => exact (ho g hg).elim) hH (by rw [hz]; exact s4) (fun j hj => by
    match j, hj with
    | 0, _ => exact hn 0 (by decide)
    | 1, _ => exact hn 4 (by decide)
    | 2, _ => exact Nat.zero_le _)
  exact key.mono fun e X hS => spo_unch hlo hS
end

/-- The agg of eight rows. -/
abbrev agg8 (n : Nat → Nat) (af : Nat → Option Addr) (cf : Nat → Nat) : Value := .agg #[.slice (af 0) (n 0) (cf 0), .slice (af 1) (n 1) (cf 1), .slice (af 2) (n 2) (cf 2), .slice (af 3) (n 3) (cf 3), .slice (af 4) (n 4) (cf 4), .slice (af 5) (n 5) (cf 5), .slice (af 6) (n 6) (cf 6), .slice (af 7) (n 7) (cf 7)]
open Classical in
/-- The eight lists that Pack tells. -/
noncomputable def pL (N M : Nat) (R : Nat → List It) (Q : Nat → List Int) : Nat → List Int := if MayT N M R Q then fun j => if j = 0 then defL R N else if j < 4 then lyS (lay (fun i => rowA (R i)) N) (j - 1) else if j = 4 then tgtL Q N (Q 0).length else lyS (lay (fun i => colA Q N i) (Q 0).length) (j - 5) else fun _ => []
open Classical in
/-- What Pack tells besides. -/
noncomputable def pE (N M : Nat) (R : Nat → List It) (Q : Nat → List Int) : Int := if MayT N M R Q then 0 else 1
theorem pL_len (N M : Nat) (R : Nat → List It) (Q : Nat → List Int) : ∀ j, j < 8 → (pL N M R Q j).length ≤ 1048576 := fun j hj => by
  unfold pL
  by_cases h : MayT N M R Q
  · rw [if_pos h]
    have hA := QL_len (fun i => rowA (R i)) N
    have hG := QL_len (fun i => colA Q N i) (Q 0).length
    unfold QL at hA hG
    rw [if_pos h.rows] at hA
    rw [if_pos h.cols] at hG
    have hN : N ≤ 256 := h.1
    have hT : (Q 0).length ≤ 65 := h.2.2.2.1.2.2.1
    match j, hj with
    | 0, _ => show (defL R N).length ≤ _; rw [defL_len]; omega
    | 1, _ => exact hA 0 (by decide)
    | 2, _ => exact hA 1 (by decide)
    | 3, _ => exact hA 2 (by decide)
    | 4, _ => show (tgtL Q N (Q 0).length).length ≤ _; rw [tgtL_len]; omega
    | 5, _ => exact hG 0 (by decide)
    | 6, _ => exact hG 1 (by decide)
    | 7, _ => exact hG 2 (by decide)
  · rw [if_neg h]
    exact Nat.zero_le _
/-- Eight addresses, or what else there are eight of. -/
def eight {α : Type} (d : α) (a : Nat → α) (t : α) (g : Nat → α) : Nat → α := fun j => if j = 0 then d else if j < 4 then a (j - 1) else if j = 4 then t else g (j - 5)
theorem tr3 {X : World} {B : Nat} {Q Q' : Nat → List Int} {ua ua' : Nat → Option Addr} {uc uc' : Nat → Nat} (h : TrZ X B 3 Q ua uc) (e : ∀ j, j < 3 → Q' j = Q j ∧ ua' j = ua j ∧ uc' j = uc j := by intro j hj; match j, hj with | 0, _ => exact ⟨rfl, rfl, rfl⟩ | 1, _ => exact ⟨rfl, rfl, rfl⟩ | 2, _ => exact ⟨rfl, rfl, rfl⟩) : TrZ X B 3 Q' ua' uc' := ⟨fun j hj => by rw [(e j hj).1, (e j hj).2.1, (e j hj).2.2]; exact h.inn j hj, fun i j hi hj hne => by rw [(e j hj).1, (e j hj).2.1, (e j hj).2.2, (e i hi).1, (e i hi).2.1, (e i hi).2.2]; exact h.sep i j hi hj hne⟩
theorem pm_uni {N M : Nat} {R : Nat → List It} {Q : Nat → List Int} {w y : World} {e : Ending} (h : PkTold N M R Q w e y) : ∃ (af : Nat → Option Addr) (cf : Nat → Nat) (m1 b2 m2 : Nat), e = .returned (.tuple #[agg8 (fun j => (pL N M R Q j).length) af cf, .int .i64 (pE N M R Q)]) ∧ PmAt y w.heap.size y.heap.size (pL N M R Q) af cf m1 b2 m2 ∧ w.grownBy y none := by
  rcases h with ⟨h1, rfl, h3⟩ | ⟨h1, m1, da, dc, ua, uc, b2, m2, ga, gc, va, vc, rfl, ⟨s1, s2, s3⟩, ⟨ho, hu⟩, ⟨ht, hv⟩, ⟨ho2, hu2⟩, ht2, hg⟩
  · have hno : ∀ b, (Value.slice (none : Option Addr) 0 0).ownBlock = some b → False := fun b e => by simp [Value.ownBlock] at e
    refine ⟨fun _ => none, fun _ => 0, w.heap.size, w.heap.size, w.heap.size, ?_, ?_, h3⟩
    · unfold pL pE
      rw [if_neg h1, if_neg h1]
      rfl
    · unfold pL
      rw [if_neg h1]
      exact ⟨World.ownsRow_nil _ _ _ _, fun b e => (hno b e).elim, ⟨fun _ _ => World.ownsRow_nil _ _ _ _, fun _ _ _ _ _ => .inl rfl⟩, fun _ _ b e => (hno b e).elim, World.ownsRow_nil _ _ _ _, fun b e => (hno b e).elim, ⟨fun _ _ => World.ownsRow_nil _ _ _ _, fun _ _ _ _ _ => .inl rfl⟩, fun _ _ b e => (hno b e).elim, ⟨Nat.le_refl _, Nat.le_refl _, Nat.le_refl _, h3.size⟩⟩
  · refine ⟨eight da ua ga va, eight dc uc gc vc, m1, b2, m2, ?_, ?_, hg⟩
    · unfold pL pE
      rw [if_pos h1, if_pos h1]
      rfl
    · unfold pL
      rw [if_pos h1]
      exact ⟨ho, fun b e => ⟨(hu b e).1, (hu b e).2, owns_under ho b e⟩, tr3 ht, fun j hj b e => by
        match j, hj with
        | 0, _ => exact ⟨hv 0 (by decide) b e, owns_under (ht.inn 0 (by decide)) b e⟩
        | 1, _ => exact ⟨hv 1 (by decide) b e, owns_under (ht.inn 1 (by decide)) b e⟩
        | 2, _ => exact ⟨hv 2 (by decide) b e, owns_under (ht.inn 2 (by decide)) b e⟩, ho2, fun b e => ⟨hu2 b e, owns_under ho2 b e⟩, tr3 ht2, fun j hj b e => by
        match j, hj with
        | 0, _ => exact owns_under (ht2.inn 0 (by decide)) b e
        | 1, _ => exact owns_under (ht2.inn 1 (by decide)) b e
        | 2, _ => exact owns_under (ht2.inn 2 (by decide)) b e, ⟨s1, s2, s3, hg.size⟩⟩
theorem rp_uni {N M : Nat} {R : Nat → List It} {Q : Nat → List Int} {w y : World} {e : Ending} (h : RpTold N M R Q w e y) : ∃ (af : Nat → Option Addr) (cf : Nat → Nat), e = .returned (.tuple #[agg8 (fun j => (pL N M R Q j).length) af cf, .int .i64 (pE N M R Q)]) ∧ PxAt y w.heap.size (pL N M R Q) af cf ∧ w.grownBy y none := by
  rcases h with ⟨h1, rfl, h3⟩ | ⟨h1, da, dc, ua, uc, ga, gc, va, vc, rfl, ho, ht, ho2, ht2, hg⟩
  · refine ⟨fun _ => none, fun _ => 0, ?_, ?_, h3⟩
    · unfold pL pE
      rw [if_neg h1, if_neg h1]
      rfl
    · unfold pL
      rw [if_neg h1]
      exact ⟨World.ownsRow_nil _ _ _ _, ⟨fun _ _ => World.ownsRow_nil _ _ _ _, fun _ _ _ _ _ => .inl rfl⟩, World.ownsRow_nil _ _ _ _, ⟨fun _ _ => World.ownsRow_nil _ _ _ _, fun _ _ _ _ _ => .inl rfl⟩⟩
  · refine ⟨eight da ua ga va, eight dc uc gc vc, ?_, ?_, hg⟩
    · unfold pL pE
      rw [if_pos h1, if_pos h1]
      rfl
    · unfold pL
      rw [if_pos h1]
      exact ⟨ho, tr3 ht, ho2, tr3 ht2⟩
theorem same_uni {X : World} {L : Nat → List Int} {af af' : Nat → Option Addr} {cf cf' : Nat → Nat} (h : InP X L af) (h' : InP X L af') (hn : ∀ j, j < 8 → (L j).length ≤ 1048576) : Calls Try.prog 21 #[agg8 (fun j => (L j).length) af cf, agg8 (fun j => (L j).length) af' cf'] X fun e y => e = .returned (.bool true) ∧ X.grownBy y none := by
  have k : ∀ j, j < 8 → IntsAt X (af j) (L j) ∧ IntsAt X (af' j) (L j) ∧ (L j).length ≤ 17592186044416 := fun j hj => ⟨h j hj, h' j hj, Nat.le_trans (hn j hj) (by decide)⟩
  exact rpSame_same X (k 0 (by decide)) (k 1 (by decide)) (k 2 (by decide)) (k 3 (by decide)) (k 4 (by decide)) (k 5 (by decide)) (k 6 (by decide)) (k 7 (by decide))

end Go.Proofs.Ytgmljpkenipgjaa.J

/-
  pack: the law on Pack, walked (printed by tools/pk_pac.py).
-/
namespace Go.Proofs.Ytgmljpkenipgjaa.J
open Go.RowKit Go.Maps Go.Shelf Pk

attribute [local go_sem] Oper.semAt_some

set_option maxRecDepth 100000 in
set_option maxHeartbeats 8000000 in
theorem packs_core (a g : Option Addr) (N M c d : Nat) (R : Nat → List It) (Q : Nat → List Int) (la lg : Nat → Option Addr) (lc ld : Nat → Nat) (w : World) (hR : RsAt w a N R la lc) (hQ : RiAt w g M Q lg ld) (hnR : ∀ i, i < N → la i = none → (R i).length = 0 ∧ lc i = 0) (hnQ : ∀ i, i < M → lg i = none → (Q i).length = 0 ∧ ld i = 0) (hN : N ≤ 5864062014634) (hM : M ≤ 5864062014634) (hl : ∀ i, i < N → (R i).length ≤ 8796093021952) (hl2 : ∀ i, i < M → (Q i).length ≤ 17592186044416) :
    Calls Try.prog 5 #[.agg #[.slice a N c, .slice g M d]] w fun e y => e = .returned (.bool true) ∧ w.grownBy y none := by
  have hlw : ∀ i, i < N → (R i).length ≤ 17592186044416 := fun i hi => by have := hl i hi; omega
  have HAW := hidP aw_ok
  obtain ⟨L, hL⟩ : ∃ L, L = pL N M R Q := ⟨_, rfl⟩
  obtain ⟨ev, hev⟩ : ∃ v, v = pE N M R Q := ⟨_, rfl⟩
  have HLL : Hid (∀ j, j < 8 → (L j).length ≤ 1048576) := by rw [hL]; exact pL_len N M R Q
  obtain ⟨n, hn⟩ : ∃ n : Nat → Nat, n = fun j => (L j).length := ⟨_, rfl⟩
  have HN : Hid (∀ j, (L j).length = n j) := fun j => by rw [hn]
  have HPK : Hid (∀ X ka kc ga gc ua uc va vc, RsAt X ka N R ua uc → RiAt X ga M Q va vc → Calls Try.prog 19 #[.agg #[.slice ka N kc, .slice ga M gc]] X fun e y => ∃ (af : Nat → Option Addr) (cf : Nat → Nat) (m1 b2 m2 : Nat), e = .returned (.tuple #[.agg #[.slice (af 0) (n 0) (cf 0), .slice (af 1) (n 1) (cf 1), .slice (af 2) (n 2) (cf 2), .slice (af 3) (n 3) (cf 3), .slice (af 4) (n 4) (cf 4), .slice (af 5) (n 5) (cf 5), .slice (af 6) (n 6) (cf 6), .slice (af 7) (n 7) (cf 7)], .int .i64 ev]) ∧ PmAt y X.heap.size y.heap.size L af cf m1 b2 m2 ∧ X.grownBy y none) := fun X ka kc ga gc ua uc va vc h1 h2 => by
    rw [hn, hL, hev]
    exact (packM_any ka ga N M kc gc R Q ua va uc vc X h1 h2 (by omega) (by omega) hlw hl2).mono fun e y h => pm_uni h
  have HRP : Hid (∀ X, w.grownBy X none → Calls Try.prog 20 #[.agg #[.slice a N c, .slice g M d]] X fun e y => ∃ (af : Nat → Option Addr) (cf : Nat → Nat), e = .returned (.tuple #[.agg #[.slice (af 0) (n 0) (cf 0), .slice (af 1) (n 1) (cf 1), .slice (af 2) (n 2) (cf 2), .slice (af 3) (n 3) (cf 3), .slice (af 4) (n 4) (cf 4), .slice (af 5) (n 5) (cf 5), .slice (af 6) (n 6) (cf 6), .slice (af 7) (n 7) (cf 7)], .int .i64 ev]) ∧ PxAt y X.heap.size L af cf ∧ X.grownBy y none) := fun X hX => by
    rw [hn, hL, hev]
    exact (rpPack_any a g N M c d R Q la lg lc ld X (hR.kept hX) (hQ.kept hX) (by omega) (by omega) hlw hl2).mono fun e y h => rp_uni h
  have HSM : Hid (∀ (X : World) (af : Nat → Option Addr) (cf : Nat → Nat) (xf : Nat → Option Addr) (xc : Nat → Nat), InP X L af → InP X L xf → Calls Try.prog 21 #[.agg #[.slice (af 0) (n 0) (cf 0), .slice (af 1) (n 1) (cf 1), .slice (af 2) (n 2) (cf 2), .slice (af 3) (n 3) (cf 3), .slice (af 4) (n 4) (cf 4), .slice (af 5) (n 5) (cf 5), .slice (af 6) (n 6) (cf 6), .slice (af 7) (n 7) (cf 7)], .agg #[.slice (xf 0) (n 0) (xc 0), .slice (xf 1) (n 1) (xc 1), .slice (xf 2) (n 2) (xc 2), .slice (xf 3) (n 3) (xc 3), .slice (xf 4) (n 4) (xc 4), .slice (xf 5) (n 5) (xc 5), .slice (xf 6) (n 6) (xc 6), .slice (xf 7) (n 7) (xc 7)]] X fun e y => e = .returned (.bool true) ∧ X.grownBy y none) := fun X af cf xf xc h1 h2 => by
    rw [hn]
    exact same_uni h1 h2 HLL.out
  have HSD : Hid (∀ X ka kc ga gc ua uc va vc, w.grownBy X none → RsAt X ka N R ua uc → RiAt X ga M Q va vc → Calls Try.prog 22 #[.agg #[.slice ka N kc, .slice ga M gc], .agg #[.slice a N c, .slice g M d]] X fun e y => e = .returned (.bool true) ∧ X.grownBy y none) := fun X ka kc ga gc ua uc va vc hX h1 h2 => sameD_any ka a ga g N M kc c gc d R Q ua la va lg uc lc vc ld X h1 (hR.kept hX) h2 (hQ.kept hX) (by omega) (by omega) hlw hl2
  obtain ⟨X0, hX0⟩ : ∃ X, X = w.alloc (.cells #[.slice a N c, .slice g M d] 42) := ⟨_, rfl⟩
  have hg0 : w.grownBy X0 none := by rw [hX0]; exact World.grownBy_alloc _ _ none
  have HG0 := hidP hg0
  have hb0 : X0.heap[w.heap.size]? = some (.cells #[.slice a N c, .slice g M d] 42 (0, 0)) := by rw [hX0]; exact heap_alloc_last w _
  have HB0 := hidP hb0
  have HDN := hidP (dense_any a g N M c d R Q la lg lc ld X0 (hR.kept hg0) (hQ.kept hg0) hnR hnQ hN hM hl hl2)
  have e0 : (ev != ev) = false := bne_self_eq_false _
  have e1 : (ev == ev) = true := beq_self_eq_true _
  obtain ⟨db, hdb⟩ : ∃ v, v = w.heap.size := ⟨_, rfl⟩
  have HDB : Hid (db = w.heap.size) := hdb
  have d0 : X0.cell? ⟨w.heap.size, 0, none⟩ = some (.slice a N c) := by rw [cell_of_row _ _ _ _ _ _ hb0]; rfl
  have d1 : X0.cell? ⟨w.heap.size, 1, none⟩ = some (.slice g M d) := by rw [cell_of_row _ _ _ _ _ _ hb0]; rfl
  rw [hX0] at d0 d1
  clear hR hQ hnR hnQ hN hM hl hl2 hlw hL hev hn hg0 hb0
  go_enter Try.func5, Try.ntmps5
  go_wp2_with fail
  rw [← hX0, ← hdb]
  rw [← hdb] at HB0
  clear hX0 d0 d1 hdb
  refine Calls.mono HDN.out ?_
  rintro e y1 ⟨ka, kc, ga, gc, ua, uc, va, vc, rfl, hr1, hq1, hg1⟩
  have HR1 := hidP hr1
  have HQ1 := hidP hq1
  have HG1 : Hid (w.grownBy y1 none) := grown_trans HG0.out hg1
  have HB1 := hidP (box_kept HB0.out hg1)
  clear HDN hr1 hq1 hg1
  -- the box of the copy
  obtain ⟨P0, hP0⟩ : ∃ P, P = y1.alloc (.cells #[.slice ka N kc, .slice ga M gc] 42) := ⟨_, rfl⟩
  have HYP : Hid (y1.grownBy P0 none) := by show y1.grownBy P0 none; rw [hP0]; exact World.grownBy_alloc _ _ none
  obtain ⟨ib, hib⟩ : ∃ v, v = y1.heap.size := ⟨_, rfl⟩
  have HIB : Hid (P0.heap[ib]? = some (.cells #[.slice ka N kc, .slice ga M gc] 42 (0, 0))) := by show _ = _; rw [hP0, hib]; exact heap_alloc_last y1 _
  have HPK1 := hidP (HPK.out P0 ka kc ga gc ua uc va vc (HR1.out.kept HYP.out) (HQ1.out.kept HYP.out))
  have i0 : P0.cell? ⟨ib, 0, none⟩ = some (.slice ka N kc) := by rw [cell_of_row _ _ _ _ _ _ HIB.out]; rfl
  have i1 : P0.cell? ⟨ib, 1, none⟩ = some (.slice ga M gc) := by rw [cell_of_row _ _ _ _ _ _ HIB.out]; rfl
  rw [hP0, hib] at i0 i1
  go_wp2_with fail
  rw [← hP0, ← hib]
  clear hP0 hib i0 i1
  refine Calls.mono HPK1.out ?_
  rintro e y2 ⟨af, cf, m1, b2, m2, rfl, hm2, hg2⟩
  have HG2 := hidP hg2
  obtain ⟨Z2, hZ2⟩ : ∃ Z, Z = y2.alloc (.cells #[.slice (af 0) (n 0) (cf 0), .slice (af 1) (n 1) (cf 1), .slice (af 2) (n 2) (cf 2), .slice (af 3) (n 3) (cf 3), .slice (af 4) (n 4) (cf 4), .slice (af 5) (n 5) (cf 5), .slice (af 6) (n 6) (cf 6), .slice (af 7) (n 7) (cf 7)] 45) := ⟨_, rfl⟩
  have hyz : y2.grownBy Z2 none := by rw [hZ2]; exact World.grownBy_alloc _ _ none
  obtain ⟨H, hH⟩ : ∃ v, v = y2.heap.size := ⟨_, rfl⟩
  have HPB2 : Hid (Z2.heap[H]? = some (.cells #[.slice (af 0) (n 0) (cf 0), .slice (af 1) (n 1) (cf 1), .slice (af 2) (n 2) (cf 2), .slice (af 3) (n 3) (cf 3), .slice (af 4) (n 4) (cf 4), .slice (af 5) (n 5) (cf 5), .slice (af 6) (n 6) (cf 6), .slice (af 7) (n 7) (cf 7)] 45 (0, 0))) := by show _ = _; rw [hZ2, hH]; exact heap_alloc_last y2 _
  have HHZ : Hid (H < Z2.heap.size) := by show _ < _; rw [hZ2, hH]; simp
  have HM2 : Hid (PmAt Z2 P0.heap.size H L af cf m1 b2 m2) := by rw [hH]; exact hm2.kept hyz
  have HGP2 : Hid (P0.grownBy Z2 none) := grown_trans hg2 hyz
  have HGW2 : Hid (w.grownBy Z2 none) := grown_trans HG1.out (grown_trans HYP.out HGP2.out)
  have HB2 := hidP (box_kept HB1.out (grown_trans HYP.out HGP2.out))
  have HRP2 := hidP (HRP.out Z2 HGW2.out)
  have d0 : Z2.cell? ⟨db, 0, none⟩ = some (.slice a N c) := by rw [cell_of_row _ _ _ _ _ _ HB2.out]; rfl
  have d1 : Z2.cell? ⟨db, 1, none⟩ = some (.slice g M d) := by rw [cell_of_row _ _ _ _ _ _ HB2.out]; rfl
  rw [hZ2] at d0 d1
  clear hm2 hg2 hyz HPK1
  go_wp2_with fail
  rw [← hZ2, ← hH]
  clear hZ2 hH d0 d1
  refine Calls.mono HRP2.out ?_
  rintro e y3 ⟨xf, xc, rfl, hx3, hg3⟩
  obtain ⟨Z3, hZ3⟩ : ∃ Z, Z = y3.alloc (.cells #[.slice (xf 0) (n 0) (xc 0), .slice (xf 1) (n 1) (xc 1), .slice (xf 2) (n 2) (xc 2), .slice (xf 3) (n 3) (xc 3), .slice (xf 4) (n 4) (xc 4), .slice (xf 5) (n 5) (xc 5), .slice (xf 6) (n 6) (xc 6), .slice (xf 7) (n 7) (xc 7)] 45) := ⟨_, rfl⟩
  have hyz : y3.grownBy Z3 none := by rw [hZ3]; exact World.grownBy_alloc _ _ none
  obtain ⟨xb, hxb⟩ : ∃ v, v = y3.heap.size := ⟨_, rfl⟩
  have HXB3 : Hid (Z3.heap[xb]? = some (.cells #[.slice (xf 0) (n 0) (xc 0), .slice (xf 1) (n 1) (xc 1), .slice (xf 2) (n 2) (xc 2), .slice (xf 3) (n 3) (xc 3), .slice (xf 4) (n 4) (xc 4), .slice (xf 5) (n 5) (xc 5), .slice (xf 6) (n 6) (xc 6), .slice (xf 7) (n 7) (xc 7)] 45 (0, 0))) := by show _ = _; rw [hZ3, hxb]; exact heap_alloc_last y3 _
  have HXS : Hid (Z2.heap.size ≤ xb) := by show _ ≤ _; rw [hxb]; exact hg3.size
  have HG3 : Hid (Z2.grownBy Z3 none) := grown_trans hg3 hyz
  have HX3 : Hid (PxAt Z3 Z2.heap.size L xf xc) := hx3.kept hyz
  have HM3 := hidP (HM2.out.kept HG3.out)
  have HPB3 := hidP (box_kept HPB2.out HG3.out)
  have HS3 := hidP (HSM.out Z3 af cf xf xc HM3.out.ints HX3.out.ints)
  have p0 : Z3.cell? ⟨H, 0, none⟩ = some (.slice (af 0) (n 0) (cf 0)) := by rw [cell_of_row _ _ _ _ _ _ HPB3.out]; rfl
  have p1 : Z3.cell? ⟨H, 1, none⟩ = some (.slice (af 1) (n 1) (cf 1)) := by rw [cell_of_row _ _ _ _ _ _ HPB3.out]; rfl
  have p2 : Z3.cell? ⟨H, 2, none⟩ = some (.slice (af 2) (n 2) (cf 2)) := by rw [cell_of_row _ _ _ _ _ _ HPB3.out]; rfl
  have p3 : Z3.cell? ⟨H, 3, none⟩ = some (.slice (af 3) (n 3) (cf 3)) := by rw [cell_of_row _ _ _ _ _ _ HPB3.out]; rfl
  have p4 : Z3.cell? ⟨H, 4, none⟩ = some (.slice (af 4) (n 4) (cf 4)) := by rw [cell_of_row _ _ _ _ _ _ HPB3.out]; rfl
  have p5 : Z3.cell? ⟨H, 5, none⟩ = some (.slice (af 5) (n 5) (cf 5)) := by rw [cell_of_row _ _ _ _ _ _ HPB3.out]; rfl
  have p6 : Z3.cell? ⟨H, 6, none⟩ = some (.slice (af 6) (n 6) (cf 6)) := by rw [cell_of_row _ _ _ _ _ _ HPB3.out]; rfl
  have p7 : Z3.cell? ⟨H, 7, none⟩ = some (.slice (af 7) (n 7) (cf 7)) := by rw [cell_of_row _ _ _ _ _ _ HPB3.out]; rfl
  have x0 : Z3.cell? ⟨xb, 0, none⟩ = some (.slice (xf 0) (n 0) (xc 0)) := by rw [cell_of_row _ _ _ _ _ _ HXB3.out]; rfl
  have x1 : Z3.cell? ⟨xb, 1, none⟩ = some (.slice (xf 1) (n 1) (xc 1)) := by rw [cell_of_row _ _ _ _ _ _ HXB3.out]; rfl
  have x2 : Z3.cell? ⟨xb, 2, none⟩ = some (.slice (xf 2) (n 2) (xc 2)) := by rw [cell_of_row _ _ _ _ _ _ HXB3.out]; rfl
  have x3 : Z3.cell? ⟨xb, 3, none⟩ = some (.slice (xf 3) (n 3) (xc 3)) := by rw [cell_of_row _ _ _ _ _ _ HXB3.out]; rfl
  have x4 : Z3.cell? ⟨xb, 4, none⟩ = some (.slice (xf 4) (n 4) (xc 4)) := by rw [cell_of_row _ _ _ _ _ _ HXB3.out]; rfl
  have x5 : Z3.cell? ⟨xb, 5, none⟩ = some (.slice (xf 5) (n 5) (xc 5)) := by rw [cell_of_row _ _ _ _ _ _ HXB3.out]; rfl
  have x6 : Z3.cell? ⟨xb, 6, none⟩ = some (.slice (xf 6) (n 6) (xc 6)) := by rw [cell_of_row _ _ _ _ _ _ HXB3.out]; rfl
  have x7 : Z3.cell? ⟨xb, 7, none⟩ = some (.slice (xf 7) (n 7) (xc 7)) := by rw [cell_of_row _ _ _ _ _ _ HXB3.out]; rfl
  rw [hZ3] at p0 p1 p2 p3 p4 p5 p6 p7 x0 x1 x2 x3 x4 x5 x6 x7
  rw [hxb] at x0 x1 x2 x3 x4 x5 x6 x7
  clear hx3 hg3 hyz HRP2
  go_wp2_with fail
  rw [← hZ3, ← hxb]
  clear hZ3 hxb p0 p1 p2 p3 p4 p5 p6 p7 x0 x1 x2 x3 x4 x5 x6 x7
  refine Calls.mono HS3.out ?_
  rintro e y4 ⟨rfl, hg4⟩
  have HM4 := hidP (HM3.out.kept hg4)
  have HX4 := hidP (HX3.out.kept hg4)
  have HPB4 := hidP (box_kept HPB3.out hg4)
  have HXB4 := hidP (box_kept HXB3.out hg4)
  have HGP4 : Hid (P0.grownBy y4 none) := grown_trans HGP2.out (grown_trans HG3.out hg4)
  have HH4 : Hid (H ≤ y4.heap.size) := by have h1 := HHZ.out; have h2 := (grown_trans HG3.out hg4).size; show _ ≤ _; omega
  have hsa := spoil_a HM4.out HH4.out HLL.out
  rw [HN.out 1, HN.out 2, HN.out 3] at hsa
  have HSA := hidP hsa
  have p0 : y4.cell? ⟨H, 0, none⟩ = some (.slice (af 0) (n 0) (cf 0)) := by rw [cell_of_row _ _ _ _ _ _ HPB4.out]; rfl
  have p1 : y4.cell? ⟨H, 1, none⟩ = some (.slice (af 1) (n 1) (cf 1)) := by rw [cell_of_row _ _ _ _ _ _ HPB4.out]; rfl
  have p2 : y4.cell? ⟨H, 2, none⟩ = some (.slice (af 2) (n 2) (cf 2)) := by rw [cell_of_row _ _ _ _ _ _ HPB4.out]; rfl
  have p3 : y4.cell? ⟨H, 3, none⟩ = some (.slice (af 3) (n 3) (cf 3)) := by rw [cell_of_row _ _ _ _ _ _ HPB4.out]; rfl
  have p4 : y4.cell? ⟨H, 4, none⟩ = some (.slice (af 4) (n 4) (cf 4)) := by rw [cell_of_row _ _ _ _ _ _ HPB4.out]; rfl
  have p5 : y4.cell? ⟨H, 5, none⟩ = some (.slice (af 5) (n 5) (cf 5)) := by rw [cell_of_row _ _ _ _ _ _ HPB4.out]; rfl
  have p6 : y4.cell? ⟨H, 6, none⟩ = some (.slice (af 6) (n 6) (cf 6)) := by rw [cell_of_row _ _ _ _ _ _ HPB4.out]; rfl
  have p7 : y4.cell? ⟨H, 7, none⟩ = some (.slice (af 7) (n 7) (cf 7)) := by rw [cell_of_row _ _ _ _ _ _ HPB4.out]; rfl
  clear hg4 hsa HS3
  go_wp2_with fail
  clear p0 p1 p2 p3 p4 p5 p6 p7
  refine Calls.mono HSA.out ?_
  rintro e y5 ⟨rfl, hu5, hm5⟩
  have HM5 := hidP hm5
  have HHX : Hid (H ≤ Z2.heap.size) := Nat.le_of_lt HHZ.out
  have HHB : Hid (H ≤ xb) := Nat.le_trans HHX.out HXS.out
  have HX5 := hidP (HX4.out.unch hu5 HHX.out)
  have HPB5 := hidP (box_unch HPB4.out hu5 (Nat.le_refl _))
  have HXB5 := hidP (box_unch HXB4.out hu5 HHB.out)
  have HGP5 : Hid (P0.grownBy y5 none) := grown_unch HGP4.out hu5 (Nat.le_refl _)
  have HH5 : Hid (H ≤ y5.heap.size) := Nat.le_trans HH4.out hu5.2.2.2.1
  have hsa := spoil_g HM5.out HH5.out HLL.out
  rw [HN.out 5, HN.out 6, HN.out 7] at hsa
  have HSG := hidP hsa
  have p0 : y5.cell? ⟨H, 0, none⟩ = some (.slice (af 0) (n 0) (cf 0)) := by rw [cell_of_row _ _ _ _ _ _ HPB5.out]; rfl
  have p1 : y5.cell? ⟨H, 1, none⟩ = some (.slice (af 1) (n 1) (cf 1)) := by rw [cell_of_row _ _ _ _ _ _ HPB5.out]; rfl
  have p2 : y5.cell? ⟨H, 2, none⟩ = some (.slice (af 2) (n 2) (cf 2)) := by rw [cell_of_row _ _ _ _ _ _ HPB5.out]; rfl
  have p3 : y5.cell? ⟨H, 3, none⟩ = some (.slice (af 3) (n 3) (cf 3)) := by rw [cell_of_row _ _ _ _ _ _ HPB5.out]; rfl
  have p4 : y5.cell? ⟨H, 4, none⟩ = some (.slice (af 4) (n 4) (cf 4)) := by rw [cell_of_row _ _ _ _ _ _ HPB5.out]; rfl
  have p5 : y5.cell? ⟨H, 5, none⟩ = some (.slice (af 5) (n 5) (cf 5)) := by rw [cell_of_row _ _ _ _ _ _ HPB5.out]; rfl
  have p6 : y5.cell? ⟨H, 6, none⟩ = some (.slice (af 6) (n 6) (cf 6)) := by rw [cell_of_row _ _ _ _ _ _ HPB5.out]; rfl
  have p7 : y5.cell? ⟨H, 7, none⟩ = some (.slice (af 7) (n 7) (cf 7)) := by rw [cell_of_row _ _ _ _ _ _ HPB5.out]; rfl
  clear hu5 hm5 hsa HSA
  go_wp2_with fail
  clear p0 p1 p2 p3 p4 p5 p6 p7
  refine Calls.mono HSG.out ?_
  rintro e y6 ⟨rfl, hu6, hm6⟩
  have HM6 := hidP hm6
  have HX6 := hidP (HX5.out.unch hu6 HHX.out)
  have HPB6 := hidP (box_unch HPB5.out hu6 (Nat.le_refl _))
  have HXB6 := hidP (box_unch HXB5.out hu6 HHB.out)
  have HGP6 : Hid (P0.grownBy y6 none) := grown_unch HGP5.out hu6 (Nat.le_refl _)
  have HH6 : Hid (H ≤ y6.heap.size) := Nat.le_trans HH5.out hu6.2.2.2.1
  have hsa := spoil_d HM6.out HH6.out HLL.out
  rw [HN.out 0, HN.out 4] at hsa
  have HSE := hidP hsa
  have p0 : y6.cell? ⟨H, 0, none⟩ = some (.slice (af 0) (n 0) (cf 0)) := by rw [cell_of_row _ _ _ _ _ _ HPB6.out]; rfl
  have p1 : y6.cell? ⟨H, 1, none⟩ = some (.slice (af 1) (n 1) (cf 1)) := by rw [cell_of_row _ _ _ _ _ _ HPB6.out]; rfl
  have p2 : y6.cell? ⟨H, 2, none⟩ = some (.slice (af 2) (n 2) (cf 2)) := by rw [cell_of_row _ _ _ _ _ _ HPB6.out]; rfl
  have p3 : y6.cell? ⟨H, 3, none⟩ = some (.slice (af 3) (n 3) (cf 3)) := by rw [cell_of_row _ _ _ _ _ _ HPB6.out]; rfl
  have p4 : y6.cell? ⟨H, 4, none⟩ = some (.slice (af 4) (n 4) (cf 4)) := by rw [cell_of_row _ _ _ _ _ _ HPB6.out]; rfl
  have p5 : y6.cell? ⟨H, 5, none⟩ = some (.slice (af 5) (n 5) (cf 5)) := by rw [cell_of_row _ _ _ _ _ _ HPB6.out]; rfl
  have p6 : y6.cell? ⟨H, 6, none⟩ = some (.slice (af 6) (n 6) (cf 6)) := by rw [cell_of_row _ _ _ _ _ _ HPB6.out]; rfl
  have p7 : y6.cell? ⟨H, 7, none⟩ = some (.slice (af 7) (n 7) (cf 7)) := by rw [cell_of_row _ _ _ _ _ _ HPB6.out]; rfl
  clear hu6 hm6 hsa HSG
  go_wp2_with fail
  clear p0 p1 p2 p3 p4 p5 p6 p7
  refine Calls.mono HSE.out ?_
  rintro e y7 ⟨rfl, hu7⟩
  have HX7 := hidP (HX6.out.unch hu7 HHX.out)
  have HPB7 := hidP (box_unch HPB6.out hu7 (Nat.le_refl _))
  have HXB7 := hidP (box_unch HXB6.out hu7 HHB.out)
  have HGP7 : Hid (P0.grownBy y7 none) := grown_unch HGP6.out hu7 (Nat.le_refl _)
  have HI7 := hidP (box_kept HIB.out HGP7.out)
  have HPK7 := hidP (HPK.out y7 ka kc ga gc ua uc va vc (HR1.out.kept (grown_trans HYP.out HGP7.out)) (HQ1.out.kept (grown_trans HYP.out HGP7.out)))
  have i0 : y7.cell? ⟨ib, 0, none⟩ = some (.slice ka N kc) := by rw [cell_of_row _ _ _ _ _ _ HI7.out]; rfl
  have i1 : y7.cell? ⟨ib, 1, none⟩ = some (.slice ga M gc) := by rw [cell_of_row _ _ _ _ _ _ HI7.out]; rfl
  clear hu7 HSE
  go_wp2_with fail
  clear i0 i1
  refine Calls.mono HPK7.out ?_
  rintro e y8 ⟨bf, bc, n1, c2, n2, rfl, hm8, hg8⟩
  have HPB8 := hidP (box_kept HPB7.out hg8)
  have HXB8 := hidP (box_kept HXB7.out hg8)
  obtain ⟨pb, hpb⟩ : ∃ v, v = H := ⟨_, rfl⟩
  have HPH : Hid (pb = H) := hpb
  rw [← hpb] at HPB8 ⊢
  clear hpb
  obtain ⟨Z8, hZ8⟩ : ∃ Z, Z = ((((((((y8.setCell ⟨pb, 0, none⟩ (.slice (bf 0) (n 0) (bc 0))).setCell ⟨pb, 1, none⟩ (.slice (bf 1) (n 1) (bc 1))).setCell ⟨pb, 2, none⟩ (.slice (bf 2) (n 2) (bc 2))).setCell ⟨pb, 3, none⟩ (.slice (bf 3) (n 3) (bc 3))).setCell ⟨pb, 4, none⟩ (.slice (bf 4) (n 4) (bc 4))).setCell ⟨pb, 5, none⟩ (.slice (bf 5) (n 5) (bc 5))).setCell ⟨pb, 6, none⟩ (.slice (bf 6) (n 6) (bc 6))).setCell ⟨pb, 7, none⟩ (.slice (bf 7) (n 7) (bc 7))) := ⟨_, rfl⟩
  have hyz : y8.grownBy Z8 (some pb) := by rw [hZ8]; exact grown8 _ _ _ _ _ _ _ _ _
  have HPB8Z : Hid (Z8.heap[pb]? = some (.cells #[.slice (bf 0) (n 0) (bc 0), .slice (bf 1) (n 1) (bc 1), .slice (bf 2) (n 2) (bc 2), .slice (bf 3) (n 3) (bc 3), .slice (bf 4) (n 4) (bc 4), .slice (bf 5) (n 5) (bc 5), .slice (bf 6) (n 6) (bc 6), .slice (bf 7) (n 7) (bc 7)] 45 (0, 0))) := by show _ = _; rw [hZ8]; exact set8 HPB8.out _ _ _ _ _ _ _ _
  have HXBN : Hid (xb ≠ pb) := by have h1 := HHZ.out; have h2 := HXS.out; have h3 := HPH.out; show xb ≠ pb; omega
  have HXB8Z := hidP (grown_box HXB8.out hyz HXBN.out)
  have HM8Z := hidP (hm8.box HPB8.out (by decide) hyz)
  have HX8Z := hidP ((HX7.out.kept hg8).box HPB8.out (by decide) hyz)
  have HPS : Hid (P0.heap.size ≤ pb) := by rw [HPH.out]; exact HM2.out.s.2.2.2
  have HGP8 : Hid (P0.grownBy Z8 none) := grown_new (grown_trans HGP7.out hg8) hyz HPS.out
  have HS8 := hidP (HSM.out Z8 bf bc xf xc HM8Z.out.ints HX8Z.out.ints)
  have p0 : y8.cell? ⟨pb, 0, none⟩ = some (.slice (af 0) (n 0) (cf 0)) := by rw [cell_of_row _ _ _ _ _ _ HPB8.out]; rfl
  have p1 : y8.cell? ⟨pb, 1, none⟩ = some (.slice (af 1) (n 1) (cf 1)) := by rw [cell_of_row _ _ _ _ _ _ HPB8.out]; rfl
  have p2 : y8.cell? ⟨pb, 2, none⟩ = some (.slice (af 2) (n 2) (cf 2)) := by rw [cell_of_row _ _ _ _ _ _ HPB8.out]; rfl
  have p3 : y8.cell? ⟨pb, 3, none⟩ = some (.slice (af 3) (n 3) (cf 3)) := by rw [cell_of_row _ _ _ _ _ _ HPB8.out]; rfl
  have p4 : y8.cell? ⟨pb, 4, none⟩ = some (.slice (af 4) (n 4) (cf 4)) := by rw [cell_of_row _ _ _ _ _ _ HPB8.out]; rfl
  have p5 : y8.cell? ⟨pb, 5, none⟩ = some (.slice (af 5) (n 5) (cf 5)) := by rw [cell_of_row _ _ _ _ _ _ HPB8.out]; rfl
  have p6 : y8.cell? ⟨pb, 6, none⟩ = some (.slice (af 6) (n 6) (cf 6)) := by rw [cell_of_row _ _ _ _ _ _ HPB8.out]; rfl
  have p7 : y8.cell? ⟨pb, 7, none⟩ = some (.slice (af 7) (n 7) (cf 7)) := by rw [cell_of_row _ _ _ _ _ _ HPB8.out]; rfl
  have fz : ∀ o, y8.frozen? ⟨pb, o, none⟩ = false := fun o => frozen_of_row _ _ _ _ _ HPB8.out
  have q0 : Z8.cell? ⟨pb, 0, none⟩ = some (.slice (bf 0) (n 0) (bc 0)) := by rw [cell_of_row _ _ _ _ _ _ HPB8Z.out]; rfl
  have q1 : Z8.cell? ⟨pb, 1, none⟩ = some (.slice (bf 1) (n 1) (bc 1)) := by rw [cell_of_row _ _ _ _ _ _ HPB8Z.out]; rfl
  have q2 : Z8.cell? ⟨pb, 2, none⟩ = some (.slice (bf 2) (n 2) (bc 2)) := by rw [cell_of_row _ _ _ _ _ _ HPB8Z.out]; rfl
  have q3 : Z8.cell? ⟨pb, 3, none⟩ = some (.slice (bf 3) (n 3) (bc 3)) := by rw [cell_of_row _ _ _ _ _ _ HPB8Z.out]; rfl
  have q4 : Z8.cell? ⟨pb, 4, none⟩ = some (.slice (bf 4) (n 4) (bc 4)) := by rw [cell_of_row _ _ _ _ _ _ HPB8Z.out]; rfl
  have q5 : Z8.cell? ⟨pb, 5, none⟩ = some (.slice (bf 5) (n 5) (bc 5)) := by rw [cell_of_row _ _ _ _ _ _ HPB8Z.out]; rfl
  have q6 : Z8.cell? ⟨pb, 6, none⟩ = some (.slice (bf 6) (n 6) (bc 6)) := by rw [cell_of_row _ _ _ _ _ _ HPB8Z.out]; rfl
  have q7 : Z8.cell? ⟨pb, 7, none⟩ = some (.slice (bf 7) (n 7) (bc 7)) := by rw [cell_of_row _ _ _ _ _ _ HPB8Z.out]; rfl
  have x0 : Z8.cell? ⟨xb, 0, none⟩ = some (.slice (xf 0) (n 0) (xc 0)) := by rw [cell_of_row _ _ _ _ _ _ HXB8Z.out]; rfl
  have x1 : Z8.cell? ⟨xb, 1, none⟩ = some (.slice (xf 1) (n 1) (xc 1)) := by rw [cell_of_row _ _ _ _ _ _ HXB8Z.out]; rfl
  have x2 : Z8.cell? ⟨xb, 2, none⟩ = some (.slice (xf 2) (n 2) (xc 2)) := by rw [cell_of_row _ _ _ _ _ _ HXB8Z.out]; rfl
  have x3 : Z8.cell? ⟨xb, 3, none⟩ = some (.slice (xf 3) (n 3) (xc 3)) := by rw [cell_of_row _ _ _ _ _ _ HXB8Z.out]; rfl
  have x4 : Z8.cell? ⟨xb, 4, none⟩ = some (.slice (xf 4) (n 4) (xc 4)) := by rw [cell_of_row _ _ _ _ _ _ HXB8Z.out]; rfl
  have x5 : Z8.cell? ⟨xb, 5, none⟩ = some (.slice (xf 5) (n 5) (xc 5)) := by rw [cell_of_row _ _ _ _ _ _ HXB8Z.out]; rfl
  have x6 : Z8.cell? ⟨xb, 6, none⟩ = some (.slice (xf 6) (n 6) (xc 6)) := by rw [cell_of_row _ _ _ _ _ _ HXB8Z.out]; rfl
  have x7 : Z8.cell? ⟨xb, 7, none⟩ = some (.slice (xf 7) (n 7) (xc 7)) := by rw [cell_of_row _ _ _ _ _ _ HXB8Z.out]; rfl
  rw [hZ8] at q0 q1 q2 q3 q4 q5 q6 q7 x0 x1 x2 x3 x4 x5 x6 x7
  clear hm8 hg8 hyz HPK7
  go_wp2_with fail
  rw [← hZ8]
  clear hZ8 p0 p1 p2 p3 p4 p5 p6 p7 q0 q1 q2 q3 q4 q5 q6 q7 x0 x1 x2 x3 x4 x5 x6 x7 fz
  refine Calls.mono HS8.out ?_
  rintro e y9 ⟨rfl, hg9⟩
  have HGP9 : Hid (P0.grownBy y9 none) := grown_trans HGP8.out hg9
  have HY9 : Hid (y1.grownBy y9 none) := grown_trans HYP.out HGP9.out
  have HI9 := hidP (box_kept HIB.out HGP9.out)
  have HB9 := hidP (box_kept HB1.out HY9.out)
  have HSD9 := hidP (HSD.out y9 ka kc ga gc ua uc va vc (grown_trans HG1.out HY9.out) (HR1.out.kept HY9.out) (HQ1.out.kept HY9.out))
  have i0 : y9.cell? ⟨ib, 0, none⟩ = some (.slice ka N kc) := by rw [cell_of_row _ _ _ _ _ _ HI9.out]; rfl
  have i1 : y9.cell? ⟨ib, 1, none⟩ = some (.slice ga M gc) := by rw [cell_of_row _ _ _ _ _ _ HI9.out]; rfl
  have d0 : y9.cell? ⟨db, 0, none⟩ = some (.slice a N c) := by rw [cell_of_row _ _ _ _ _ _ HB9.out]; rfl
  have d1 : y9.cell? ⟨db, 1, none⟩ = some (.slice g M d) := by rw [cell_of_row _ _ _ _ _ _ HB9.out]; rfl
  clear hg9 HS8
  go_wp2_with fail
  clear i0 i1 d0 d1
  refine Calls.mono HSD9.out ?_
  rintro e y10 ⟨rfl, hg10⟩
  have HY10 : Hid (w.grownBy y10 none) := grown_trans HG1.out (grown_trans HY9.out hg10)
  clear hg10 HSD9
  go_wp2_with fail
  refine Calls.mono (HAW.out y10) ?_
  rintro e y11 ⟨rfl, hg11⟩
  have HY11 : Hid (w.grownBy y11 none) := grown_trans HY10.out hg11
  clear hg11
  go_wp2_with fail
  go_ret
  exact ⟨rfl, HY11.out⟩

end Go.Proofs.Ytgmljpkenipgjaa.J

/-
  pack: a table among the arguments, opened.
-/
namespace Go.Proofs.Ytgmljpkenipgjaa.J
open Go.ChangeShapes Go.WideShapes Go.ChangeAt Go.RowKit Go.Deep

theorem cellsAct : Try.prog.cellsOf 52 = 2 := by kernel_rfl
theorem cellsActs : Try.prog.cellsOf 56 = 1 := by kernel_rfl
theorem cellsRowsA : Try.prog.cellsOf 39 = 1 := by kernel_rfl
theorem cellsRowsI : Try.prog.cellsOf 40 = 1 := by kernel_rfl
theorem cellsDense : Try.prog.cellsOf 42 = 2 := by kernel_rfl
theorem bytesAct : Try.prog.bytesOf 52 = 16 := by kernel_rfl
theorem bytesActs : Try.prog.bytesOf 56 = 24 := by kernel_rfl
theorem bytesIntsP : Try.prog.bytesOf 24 = 24 := by kernel_rfl
theorem weightsAllP {H : Type} {P : Program} {e : TypeId} : ∀ {l : List (DataW H)} {d : DataW H}, d ∈ l → ∀ n ∈ d.weights P e, n ∈ DataW.weightsAll P e l
  | x :: r, d, h, n, hn => by
    simp only [DataW.weightsAll, List.mem_append]
    rcases List.mem_cons.1 h with e | e
    · subst e; exact .inl hn
    · exact .inr (weightsAllP e n hn)

section
variable {H : Type} {enc : TypeId × Value → H} {W : World} {fuel : Nat} {cs : List Value} {x : DataW H × List MemPlace}
set_option maxRecDepth 100000 in
theorem open_acts_in (h : DataW.trod enc Try.prog W 0 (fun _ => true) true fuel 56 cs = some x) (hw : ∀ n ∈ x.1.weights Try.prog 56, n ≤ reachBytes) :
    ∃ (a : Option Addr) (l : List It) (c : Nat), cs = [.slice a l.length c] ∧ ItsAt W a l ∧ (a = none → l.length = 0 ∧ c = 0) ∧ l.length ≤ 8796093021952 := by
  rcases open_slice Try.underlying56 h with ⟨hcs, _⟩ | ⟨ad, len, cap, m, n, D, Pl, hcs, _, hl, hm, hmm, hx, heach⟩
  · exact ⟨none, [], 0, hcs, .inl rfl, fun _ => ⟨rfl, rfl⟩, by decide⟩
  · simp only [if_true] at hmm
    subst hx
    rw [cellsAct] at heach
    have each : ∀ i, i < len → ∃ t : It, ∃ b off, ad = ⟨b, off, none⟩ ∧ W.cell? ⟨b, off + i * 2, none⟩ = some (.int .i64 t.1) ∧ W.cell? ⟨b, off + i * 2 + 1, none⟩ = some (.int .i64 t.2) := by
      intro i hi
      obtain ⟨cs', h1, h2⟩ := heach i (by omega)
      obtain ⟨_, hcl, hcell⟩ := World.cells?_some h1
      obtain ⟨xs, k, hk, hxy, _, hxl, hfs⟩ := DataW.trod_struct Try.underlying52 h2
      match xs, hxl, cs', hcl with
      | [y0, y1], _, [v0, v1], _ =>
        have g0 := hfs 0 _ rfl
        have g1 := hfs 1 _ rfl
        simp [cellsIntP] at g0 g1
        obtain ⟨s0, e0, _, w0⟩ := DataW.trod_int Try.underlying3 g0
        obtain ⟨z1, e1, _, w1⟩ := DataW.trod_int Try.underlying3 g1
        simp only [List.cons.injEq, and_true] at e0 e1
        subst e0 e1
        have c0 := hcell 0 (by omega)
        have c1 := hcell 1 (by omega)
        rw [Deep.add_add] at c0 c1
        obtain ⟨b, off, spot⟩ := ad
        have hs : spot = none := by
          obtain ⟨cs0, h10, _⟩ := heach 0 (by omega)
          obtain ⟨_, hcl0, hcell0⟩ := World.cells?_some h10
          have q0 := hcell0 0 (by omega)
          rw [List.getElem?_eq_getElem (by omega)] at q0
          simpa [Addr.add] using World.cell?_spot q0
        subst hs
        rw [add_plain] at c0 c1
        exact ⟨(s0, z1), b, off, rfl, by simpa using c0, by simpa [Nat.add_assoc] using c1⟩
    obtain ⟨S, hS⟩ := choose_lt (α := It) each
    have hg : ∀ i, i < len → ((List.range len).map S).getD i (0, 0) = S i := fun i hi => by simp [List.getD, hi]
    refine ⟨some ad, (List.range len).map S, cap, by simpa using hcs, ?_, fun h => (by cases h), ?_⟩
    · by_cases h0 : len = 0
      · subst h0; exact .inl (by simp)
      · obtain ⟨b, off, rfl, _⟩ := hS 0 (by omega)
        refine .inr ⟨b, off, rfl, fun i hi => ?_⟩
        have hi' : i < len := by simpa using hi
        obtain ⟨b', off', e, r1, r2⟩ := hS i hi'
        simp only [Addr.mk.injEq, and_true] at e
        obtain ⟨rfl, rfl⟩ := e
        rw [hg i hi']
        exact ⟨r1, r2⟩
    · have h5 := hw ((((List.range len).map D).length + ((List.range (m - len)).map fun j => D (len + j)).length) * 16) (by simp only [DataW.weights, Try.underlying56, bytesAct, List.mem_cons, true_or])
      simp only [List.length_map, List.length_range, reachBytes] at h5 ⊢
      omega

set_option maxRecDepth 100000 in
/-- Rows of actions that came in. -/
theorem open_rowsA (h : DataW.trod enc Try.prog W 0 (fun _ => true) true fuel 39 cs = some x) (hw : ∀ n ∈ x.1.weights Try.prog 39, n ≤ reachBytes) :
    ∃ (a : Option Addr) (N c : Nat) (R : Nat → List It) (ua : Nat → Option Addr) (uc : Nat → Nat), cs = [.slice a N c] ∧ RsAt W a N R ua uc ∧ (∀ i, i < N → ua i = none → (R i).length = 0 ∧ uc i = 0) ∧ N ≤ 5864062014634 ∧ ∀ i, i < N → (R i).length ≤ 8796093021952 := by
  rcases open_slice Try.underlying39 h with ⟨hcs, _⟩ | ⟨ad, len, cap, m, n, D, Pl, hcs, _, hl, hm, hmm, hx, heach⟩
  · exact ⟨none, 0, 0, fun _ => [], fun _ => none, fun _ => 0, hcs, ⟨.inl rfl, fun i hi => absurd hi (Nat.not_lt_zero _)⟩, fun i hi => absurd hi (Nat.not_lt_zero _), Nat.zero_le _, fun i hi => absurd hi (Nat.not_lt_zero _)⟩
  · simp only [if_true] at hmm
    subst hx
    rw [cellsActs] at heach
    have each : ∀ i, i < len → ∃ t : List It × Option Addr × Nat, ∃ b off, ad = ⟨b, off, none⟩ ∧ W.cell? ⟨b, off + i, none⟩ = some (.slice t.2.1 t.1.length t.2.2) ∧ ItsAt W t.2.1 t.1 ∧ (t.2.1 = none → t.1.length = 0 ∧ t.2.2 = 0) ∧ t.1.length ≤ 8796093021952 := by
      intro i hi
      obtain ⟨cs', h1, h2⟩ := heach i (by omega)
      obtain ⟨_, hcl, hcell⟩ := World.cells?_some h1
      have c0 := hcell 0 (by omega)
      rw [Deep.add_add] at c0
      obtain ⟨b, off, spot⟩ := ad
      have hs : spot = none := by
        obtain ⟨cs0, h10, _⟩ := heach 0 (by omega)
        obtain ⟨_, hcl0, hcell0⟩ := World.cells?_some h10
        have q0 := hcell0 0 (by omega)
        rw [List.getElem?_eq_getElem (by omega)] at q0
        simpa [Addr.add] using World.cell?_spot q0
      subst hs
      rw [add_plain] at c0
      match cs', hcl with
      | [v0], _ =>
        obtain ⟨a2, l2, c2, e2, hI, hn2, hb2⟩ := open_acts_in h2 (fun q hq => hw q (by
          simp only [DataW.weights, Try.underlying39, List.mem_cons, List.mem_append]
          exact .inr (.inl (weightsAllP (List.mem_map.2 ⟨i, List.mem_range.2 hi, rfl⟩) q hq))))
        simp only [List.cons.injEq, and_true] at e2
        subst e2
        exact ⟨(l2, a2, c2), b, off, rfl, by simpa using c0, hI, hn2, hb2⟩
    obtain ⟨S, hS⟩ := choose_lt (α := List It × Option Addr × Nat) each
    refine ⟨some ad, len, cap, fun i => (S i).1, fun i => (S i).2.1, fun i => (S i).2.2, hcs, ⟨?_, fun i hi => ?_⟩, fun i hi => ?_, ?_, fun i hi => ?_⟩
    · by_cases h0 : len = 0
      · exact .inl h0
      · obtain ⟨b, off, rfl, _⟩ := hS 0 (by omega)
        refine .inr ⟨b, off, rfl, fun i hi => ?_⟩
        obtain ⟨b', off', e, r1, _⟩ := hS i hi
        simp only [Addr.mk.injEq, and_true] at e
        obtain ⟨rfl, rfl⟩ := e
        exact r1
    · obtain ⟨_, _, _, _, r2, _⟩ := hS i hi
      exact r2
    · obtain ⟨_, _, _, _, _, r3, _⟩ := hS i hi
      exact r3
    · have h5 := hw ((((List.range len).map D).length + ((List.range (m - len)).map fun j => D (len + j)).length) * 24) (by simp only [DataW.weights, Try.underlying39, bytesActs, List.mem_cons, true_or])
      simp only [List.length_map, List.length_range, reachBytes] at h5
      omega
    · obtain ⟨_, _, _, _, _, _, r4⟩ := hS i hi
      exact r4

set_option maxRecDepth 100000 in
/-- Rows of numbers that came in. -/
theorem open_rowsI (h : DataW.trod enc Try.prog W 0 (fun _ => true) true fuel 40 cs = some x) (hw : ∀ n ∈ x.1.weights Try.prog 40, n ≤ reachBytes) :
    ∃ (a : Option Addr) (N c : Nat) (Q : Nat → List Int) (ua : Nat → Option Addr) (uc : Nat → Nat), cs = [.slice a N c] ∧ RiAt W a N Q ua uc ∧ (∀ i, i < N → ua i = none → (Q i).length = 0 ∧ uc i = 0) ∧ N ≤ 5864062014634 ∧ ∀ i, i < N → (Q i).length ≤ 17592186044416 := by
  rcases open_slice Try.underlying40 h with ⟨hcs, _⟩ | ⟨ad, len, cap, m, n, D, Pl, hcs, _, hl, hm, hmm, hx, heach⟩
  · exact ⟨none, 0, 0, fun _ => [], fun _ => none, fun _ => 0, hcs, ⟨.inl rfl, fun i hi => absurd hi (Nat.not_lt_zero _)⟩, fun i hi => absurd hi (Nat.not_lt_zero _), Nat.zero_le _, fun i hi => absurd hi (Nat.not_lt_zero _)⟩
  · simp only [if_true] at hmm
    subst hx
    rw [cellsIntsP] at heach
    have each : ∀ i, i < len → ∃ t : List Int × Option Addr × Nat, ∃ b off, ad = ⟨b, off, none⟩ ∧ W.cell? ⟨b, off + i, none⟩ = some (.slice t.2.1 t.1.length t.2.2) ∧ OpInts W t.2.1 t.1 t.2.2 := by
      intro i hi
      obtain ⟨cs', h1, h2⟩ := heach i (by omega)
      obtain ⟨_, hcl, hcell⟩ := World.cells?_some h1
      have c0 := hcell 0 (by omega)
      rw [Deep.add_add] at c0
      obtain ⟨b, off, spot⟩ := ad
      have hs : spot = none := by
        obtain ⟨cs0, h10, _⟩ := heach 0 (by omega)
        obtain ⟨_, hcl0, hcell0⟩ := World.cells?_some h10
        have q0 := hcell0 0 (by omega)
        rw [List.getElem?_eq_getElem (by omega)] at q0
        simpa [Addr.add] using World.cell?_spot q0
      subst hs
      rw [add_plain] at c0
      match cs', hcl with
      | [v0], _ =>
        obtain ⟨a2, l2, c2, e2, hI⟩ := open_intsP h2 (fun q hq => hw q (by
          simp only [DataW.weights, Try.underlying40, List.mem_cons, List.mem_append]
          exact .inr (.inl (weightsAllP (List.mem_map.2 ⟨i, List.mem_range.2 hi, rfl⟩) q hq))))
        simp only [List.cons.injEq, and_true] at e2
        subst e2
        exact ⟨(l2, a2, c2), b, off, rfl, by simpa using c0, hI⟩
    obtain ⟨S, hS⟩ := choose_lt (α := List Int × Option Addr × Nat) each
    refine ⟨some ad, len, cap, fun i => (S i).1, fun i => (S i).2.1, fun i => (S i).2.2, hcs, ⟨?_, fun i hi => ?_⟩, fun i hi => ?_, ?_, fun i hi => ?_⟩
    · by_cases h0 : len = 0
      · exact .inl h0
      · obtain ⟨b, off, rfl, _⟩ := hS 0 (by omega)
        refine .inr ⟨b, off, rfl, fun i hi => ?_⟩
        obtain ⟨b', off', e, r1, _⟩ := hS i hi
        simp only [Addr.mk.injEq, and_true] at e
        obtain ⟨rfl, rfl⟩ := e
        exact r1
    · obtain ⟨_, _, _, _, r2⟩ := hS i hi
      exact r2.1
    · obtain ⟨_, _, _, _, r3⟩ := hS i hi
      exact r3.2.2.2.1
    · have h5 := hw ((((List.range len).map D).length + ((List.range (m - len)).map fun j => D (len + j)).length) * 24) (by simp only [DataW.weights, Try.underlying40, bytesIntsP, List.mem_cons, true_or])
      simp only [List.length_map, List.length_range, reachBytes] at h5
      omega
    · obtain ⟨_, _, _, _, r4⟩ := hS i hi
      exact r4.2.1
end

set_option maxRecDepth 100000 in
/-- A table among the arguments. -/
theorem open_denseP {H : Type} {enc : TypeId × Value → H} {W : World} {base : Nat} {v : Value} {d : DataW H} {p : List MemPlace} (hv : Value.okWide Try.prog W .any base 42 v) (h : DataW.Trod enc Try.prog W 0 (fun _ => true) true 42 v d p) (hw : ∀ n ∈ d.weights Try.prog 42, n ≤ reachBytes) :
    ∃ (a : Option Addr) (N c : Nat) (R : Nat → List It) (la : Nat → Option Addr) (lc : Nat → Nat) (g : Option Addr) (M e : Nat) (Q : Nat → List Int) (lg : Nat → Option Addr) (ld : Nat → Nat), v = .agg #[.slice a N c, .slice g M e] ∧ (RsAt W a N R la lc ∧ (∀ i, i < N → la i = none → (R i).length = 0 ∧ lc i = 0) ∧ N ≤ 5864062014634 ∧ ∀ i, i < N → (R i).length ≤ 8796093021952) ∧ (RiAt W g M Q lg ld ∧ (∀ i, i < M → lg i = none → (Q i).length = 0 ∧ ld i = 0) ∧ M ≤ 5864062014634 ∧ ∀ i, i < M → (Q i).length ≤ 17592186044416) := by
  obtain ⟨cs, rfl, hsz⟩ := okWide_struct Try.underlying42 hv
  obtain ⟨fuel, hf⟩ := h
  obtain ⟨xs, k, hk, hxy, hcl, hxl, hfs⟩ := DataW.trod_struct Try.underlying42 hf
  rw [cellsDense] at hsz
  obtain ⟨l, rfl⟩ : ∃ l : List Value, cs = l.toArray := ⟨cs.toList, by simp⟩
  simp only [Value.cells] at hfs hcl
  have hl : l.length = 2 := by simpa using hsz
  match xs, hxl, l, hl with
  | [y0, y1], _, [v0, v1], _ =>
    have g0 := hfs 0 _ rfl
    have g1 := hfs 1 _ rfl
    simp [cellsRowsA, cellsRowsI] at g0 g1
    simp only [Prod.mk.injEq] at hxy
    have hwj : ∀ (j : Nat) (t : TypeId) (y : DataW H × List MemPlace), ((Try.prog.fieldsOf 42).toList.map (·.type))[j]? = some t → ([y0, y1].map (·.1))[j]? = some y.1 → ∀ n ∈ y.1.weights Try.prog t, n ≤ reachBytes := fun j t y h1 h2 q hq => hw q (by
      rw [hxy.1]
      simp only [DataW.weights, Try.underlying42]
      simp only [Program.fieldsOf, Try.underlying42] at h1
      exact DataW.weights_mem_each (j := j) (t := t) (d := y.1) h1 h2 q hq)
    have hw0 := hwj 0 39 y0 (by kernel_rfl) rfl
    have hw1 := hwj 1 40 y1 (by kernel_rfl) rfl
    obtain ⟨a, N, c, R, la, lc, e0, h0⟩ := open_rowsA g0 hw0
    obtain ⟨g, M, e, Q, lg, ld, e1, h1⟩ := open_rowsI g1 hw1
    simp only [List.cons.injEq, and_true] at e0 e1
    subst e0 e1
    exact ⟨a, N, c, R, la, lc, g, M, e, Q, lg, ld, rfl, h0, h1⟩

end Go.Proofs.Ytgmljpkenipgjaa.J
