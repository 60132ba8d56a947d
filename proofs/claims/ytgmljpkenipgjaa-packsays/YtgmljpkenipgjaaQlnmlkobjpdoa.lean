import Derived.Test.YtgmljpkenipgjaaQlmljjcjnkfdh
import Derived.Test.YtgmljpkenipgjaaQoolelimaifpo
import Derived.Laws.StructEq
import Derived.BigQuiet
import Derived.Deep.QuietTactic

/-
  pack: the program's mostOften of lists of states, by a nonterminal (printed by tools/pk_mostl.py).
-/
namespace Go.Proofs.Ytgmljpkenipgjaa.J
open Go.RowKit Go.Maps Go.Shelf Pk

attribute [local go_sem] Oper.semAt_some

/-- The states to which lists lead by a nonterminal. -/
def colL (Q : Nat → List Int) (N nn : Nat) : List Int := (List.range N).map fun i => (Q i).getD nn 0
theorem colL_snoc {Q : Nat → List Int} {N nn k : Nat} (h : k < N) : (colL Q N nn).take (k + 1) = (colL Q N nn).take k ++ [(Q k).getD nn 0] := by
  unfold colL
  rw [← List.map_take, ← List.map_take, List.take_range, List.take_range, show min (k + 1) N = k + 1 by omega, show min k N = k by omega, List.range_succ, List.map_append]
  rfl
set_option maxRecDepth 100000 in
theorem colF_any (a : Option Addr) (c nb nn : Nat) (l : List Int) (X : World) (hl : IntsAt X a l) (hc : X.cell? ⟨nb, 0, none⟩ = some (.int .i64 (nn : Int))) (hn : nn < l.length) :
    Calls Try.prog 52 #[.slice a l.length c, .pointer (some ⟨nb, 0, none⟩)] X fun e y => e = .returned (.int .i64 (l.getD nn 0)) ∧ X.grownBy y none := by
  obtain ⟨b, o, rfl, t0⟩ : ∃ b o, a = some ⟨b, o, none⟩ ∧ X.cell? ⟨b, o + nn, none⟩ = some (.int .i64 (l.getD nn 0)) := by
    rcases hl with h | ⟨b, o, e, h⟩
    · rw [h] at hn; cases hn
    · exact ⟨b, o, e, h nn hn⟩
  obtain ⟨n, hnn⟩ : ∃ v, v = l.length := ⟨_, rfl⟩
  rw [← hnn] at hn ⊢
  obtain ⟨v, hv⟩ : ∃ v, v = l.getD nn 0 := ⟨_, rfl⟩
  rw [← hv] at t0 ⊢
  have h0 : (0 : Int) ≤ (nn : Int) := by omega
  have h1 : (nn : Int) < (n : Int) := by omega
  clear hl hnn hv
  go_enter Try.func52, Try.ntmps52
  go_wp2_with fail
  go_ret
  exact ⟨rfl, grown_refl _ _⟩

set_option maxRecDepth 100000 in
set_option maxHeartbeats 4000000 in
theorem mostL_any (a : Option Addr) (N c nb nn : Nat) (Q : Nat → List Int) (ua : Nat → Option Addr) (uc : Nat → Nat) (w : World) (hl : RiAt w a N Q ua uc) (hcn : w.cell? ⟨nb, 0, none⟩ = some (.int .i64 (nn : Int))) (hlen : N ≤ 1048576) (hqn : ∀ i, i < N → nn < (Q i).length) (hin : InM (colL Q N nn)) :
    Calls Try.prog 51 #[.func (.func 52) #[] #[.pointer (some ⟨nb, 0, none⟩)], .slice a N c] w fun e y => e = .returned (.int .i64 (mostF (colL Q N nn))) ∧ w.grownBy y none := by
  obtain ⟨n, hn⟩ : ∃ v, v = N := ⟨_, rfl⟩
  have HN : Hid (n = N) := hn
  have HL : Hid (∀ X, w.grownBy X none → RiAt X a N Q ua uc) := fun X hX => hl.kept hX
  have HCN : Hid (∀ X, w.grownBy X none → X.cell? ⟨nb, 0, none⟩ = some (.int .i64 (nn : Int))) := fun X hX => hX.cell hcn (by simp)
  have HQN := hidM hqn
  have HIN := hidM hin
  have HMF : Hid (∀ m, IsMost (colL Q N nn) m → m = mostF (colL Q N nn)) := fun m h => h.unique (mostF_is hin)
  have HRL : Hid ((colL Q N nn).length = n) := by show _ = _; unfold colL; rw [List.length_map, List.length_range, hn]
  obtain ⟨mf, hmf⟩ : ∃ v, v = mostF (colL Q N nn) := ⟨_, rfl⟩
  rw [← hmf] at HMF ⊢
  rw [← hn] at hlen ⊢
  have HM0 : Hid (MiMap (w.alloc (.map #[] 0)) w.heap.size 0 (cntF ((colL Q N nn).take 0))) := by
    have h := MiMap.made w
    have e : cntF ((colL Q N nn).take 0) = fun _ => 0 := by
      funext x
      rw [List.take_zero]
      unfold cntF
      split <;> rfl
    show MiMap _ _ _ _
    rw [e]
    exact h
  have HG0 : Hid (w.grownBy (w.alloc (.map #[] 0)) none) := World.grownBy_alloc _ _ none
  obtain ⟨mb, hmb⟩ : ∃ v, v = w.heap.size := ⟨_, rfl⟩
  have HMB : Hid (w.heap.size ≤ mb) := by show _ ≤ _; omega
  rw [← hmb] at HM0
  clear hl hin hn hmf hcn hqn
  have hmm := @run_makeMap Try.prog
  go_enter Try.func51, Try.ntmps51
  go_wp2_with fail
  rw [← hmb]
  clear hmb
  go_loopg [6, 13] n (fun gk v6 v13 wr => ∃ (k q : Nat) (m : Int), k ≤ n ∧ gk = n - k ∧ v6 = .int .i64 m ∧ v13 = .int .i64 k ∧ q ≤ k ∧ -1 ≤ m ∧ m ≤ 256 ∧ Hid (IsMost ((colL Q N nn).take k) m) ∧ MiMap wr mb q (cntF ((colL Q N nn).take k)) ∧ w.grownBy wr none)
  case atStart => exact ⟨0, 0, -1, Nat.zero_le _, rfl, rfl, rfl, Nat.le_refl _, by omega, by omega, IsMost.start, HM0.out, HG0.out⟩
  case round =>
    clear HM0 HG0
    obtain ⟨k, q, m, hk, hgk, rfl, rfl, hqk, hm1, hm2, HIS, hmp, hg⟩ := hrel
    have HGK : Hid (gk = n - k) := hgk
    have HG := hidM hg
    have HMP := hidM hmp
    clear hgk
    by_cases hkn : k < n
    · have hkd : decide (k < n) = true := decide_eq_true hkn
      have hk0 : (0 : Int) ≤ (k : Int) := by omega
      have hk1 : (k : Int) < (n : Int) := by omega
      have hkN : k < N := by rw [← HN.out]; exact hkn
      obtain ⟨lb, lo, rfl, t0⟩ : ∃ b o, a = some ⟨b, o, none⟩ ∧ wr.cell? ⟨b, o + k, none⟩ = some (.slice (ua k) (Q k).length (uc k)) := by
        rcases (HL.out wr hg).1 with h | ⟨b, o, e, h⟩
        · omega
        · exact ⟨b, o, e, h k hkN⟩
      have hsn : (colL Q N nn).take (k + 1) = (colL Q N nn).take k ++ [(Q k).getD nn 0] := colL_snoc hkN
      have hti : (Q k).getD nn 0 = -1 ∨ (0 ≤ (Q k).getD nn 0 ∧ (Q k).getD nn 0 ≤ 256) := by
        refine HIN.out _ ?_
        unfold colL
        rw [List.mem_map]
        exact ⟨k, List.mem_range.2 hkN, rfl⟩
      have HC := hidM (colF_any (ua k) (uc k) nb nn (Q k) wr ((HL.out wr hg).2 k hkN) (HCN.out wr hg) (HQN.out k hkN))
      obtain ⟨t, ht⟩ : ∃ t, t = (Q k).getD nn 0 := ⟨_, rfl⟩
      rw [← ht] at HC hsn hti
      obtain ⟨ln, hln⟩ : ∃ v, v = (Q k).length := ⟨_, rfl⟩
      rw [← hln] at HC t0
      have HSN := hidM hsn
      clear ht hsn hg hmp hln
      go_wp2_with fail
      refine Calls.mono HC.out ?_
      rintro e y ⟨rfl, hy⟩
      have hgy : wr.grownBy y none := hy
      have HGY : Hid (w.grownBy y none) := grown_trans HG.out hgy
      have hmy : MiMap y mb q (cntF ((colL Q N nn).take k)) := HMP.out.kept hgy (by simp)
      have HMY := hidM hmy
      clear hy hgy HC t0
      by_cases htn : t = -1
      · subst htn
        have HIS2 : Hid (IsMost ((colL Q N nn).take (k + 1)) m) := by
          show IsMost _ _
          rw [HSN.out]; exact HIS.out.skip
        have HM2 : Hid (MiMap y mb q (cntF ((colL Q N nn).take (k + 1)))) := by
          show MiMap _ _ _ _
          rw [HSN.out, cntF_none]; exact hmy
        have e1 : ((-1 : Int) == -1) = true := rfl
        clear hmy
        go_wp2_with fail
        go_roundg (n - (k + 1))
        case measure => have := HGK.out; omega
        case rel => exact ⟨k + 1, q, m, by omega, rfl, rfl, by go_num, by omega, hm1, hm2, HIS2.out, HM2.out, HGY.out⟩
      · have e1 : (t == -1) = false := beq_eq_false_iff_ne.2 htn
        have htr : 0 ≤ t ∧ t ≤ 256 := by
          rcases hti with h | h
          · exact absurd h htn
          · exact h
        have l1 := hmy.look (x := t) (wfI_of ⟨by omega, htr.2⟩)
        obtain ⟨w2, u1, hm3, hg3⟩ := hmy.update (by unfold maxLen; omega) (x := t) (wfI_of ⟨by omega, htr.2⟩) (cntF ((colL Q N nn).take k) t + 1)
        have hb1 := cntF_nn ((colL Q N nn).take k) t
        have hb2 := cntF_le ((colL Q N nn).take k) t
        have hb3 : ((colL Q N nn).take k).length ≤ n := by rw [List.length_take]; omega
        have hwr : IntKind.i64.wrap (cntF ((colL Q N nn).take k) t + 1) = cntF ((colL Q N nn).take k) t + 1 := by rw [IntKind.wrap_i64]; omega
        have hF : (fun z => if z = t then cntF ((colL Q N nn).take k) t + 1 else cntF ((colL Q N nn).take k) z) = cntF ((colL Q N nn).take (k + 1)) := by
          funext z
          rw [HSN.out]
          by_cases e : z = t
          · subst e
            rw [if_pos rfl, cntF_snoc_eq htn]
          · rw [if_neg e, cntF_snoc_ne e]
        rw [hF] at hm3
        have l2 := hm3.look (x := t) (wfI_of ⟨by omega, htr.2⟩)
        have l3 := hm3.look (x := m) (wfI_of ⟨hm1, hm2⟩)
        obtain ⟨f0, hf0⟩ : ∃ v, v = cntF ((colL Q N nn).take k) t := ⟨_, rfl⟩
        rw [← hf0] at l1 u1 hwr
        have HTK := hidM (fun hc => by have h := HIS.out.take (t := t) htn hc; rw [← HSN.out] at h; exact h)
        have HKP := hidM (fun hc => by have h := HIS.out.keep (t := t) htn hc; rw [← HSN.out] at h; exact h)
        rw [← HSN.out] at HTK HKP
        obtain ⟨f1, hf1⟩ : ∃ v, v = cntF ((colL Q N nn).take (k + 1)) t := ⟨_, rfl⟩
        obtain ⟨f2, hf2⟩ : ∃ v, v = cntF ((colL Q N nn).take (k + 1)) m := ⟨_, rfl⟩
        rw [← hf1] at l2 HTK HKP
        rw [← hf2] at l3 HTK HKP
        have HM3 := hidM hm3
        have HG3 : Hid (w.grownBy w2 none) := grown_new HGY.out hg3 HMB.out
        clear hm3 hg3 hmy hf0 hf1 hf2 hb1 hb2 hb3 hF hti
        by_cases g1 : f2 < f1
        · have gd1 : decide (f2 < f1) = true := decide_eq_true g1
          have HIS2 : Hid (IsMost ((colL Q N nn).take (k + 1)) t) := HTK.out (.inl g1)
          clear g1
          go_wp2_with fail
          go_roundg (n - (k + 1))
          case measure => have := HGK.out; omega
          case rel => exact ⟨k + 1, q + 1, t, by omega, rfl, rfl, by go_num, by omega, by omega, htr.2, HIS2.out, HM3.out, HG3.out⟩
        · have gd1 : decide (f2 < f1) = false := decide_eq_false g1
          by_cases g2 : f1 = f2
          · have gd2 : (f1 == f2) = true := by simpa using g2
            by_cases g3 : t < m
            · have gd3 : decide (t < m) = true := decide_eq_true g3
              have HIS2 : Hid (IsMost ((colL Q N nn).take (k + 1)) t) := HTK.out (.inr ⟨g2, g3⟩)
              clear g1 g2 g3
              go_wp2_with fail
              go_roundg (n - (k + 1))
              case measure => have := HGK.out; omega
              case rel => exact ⟨k + 1, q + 1, t, by omega, rfl, rfl, by go_num, by omega, by omega, htr.2, HIS2.out, HM3.out, HG3.out⟩
            · have gd3 : decide (t < m) = false := decide_eq_false g3
              have HIS2 : Hid (IsMost ((colL Q N nn).take (k + 1)) m) := HKP.out (by omega)
              clear g1 g2 g3
              go_wp2_with fail
              go_roundg (n - (k + 1))
              case measure => have := HGK.out; omega
              case rel => exact ⟨k + 1, q + 1, m, by omega, rfl, rfl, by go_num, by omega, hm1, hm2, HIS2.out, HM3.out, HG3.out⟩
          · have gd2 : (f1 == f2) = false := beq_eq_false_iff_ne.2 g2
            have HIS2 : Hid (IsMost ((colL Q N nn).take (k + 1)) m) := HKP.out (by omega)
            clear g1 g2
            go_wp2_with fail
            go_roundg (n - (k + 1))
            case measure => have := HGK.out; omega
            case rel => exact ⟨k + 1, q + 1, m, by omega, rfl, rfl, by go_num, by omega, hm1, hm2, HIS2.out, HM3.out, HG3.out⟩
    · have hkd : decide (k < n) = false := decide_eq_false hkn
      have HF : Hid (m = mf) := HMF.out m (by
        have h := HIS.out
        rw [List.take_of_length_le (by rw [HRL.out]; omega)] at h
        exact h)
      clear hg hmp
      go_wp2_with fail
      go_ret
      exact ⟨congrArg (fun v => Ending.returned (Value.int .i64 v)) HF.out, HG.out⟩

end Go.Proofs.Ytgmljpkenipgjaa.J

/-
  pack: the law's stays: rows, and what stands behind them, are as they were.
-/
namespace Go.Proofs.Ytgmljpkenipgjaa.J
open Go.RowKit Go.Maps Go.Shelf Pk

attribute [local go_sem] Oper.semAt_some

end Go.Proofs.Ytgmljpkenipgjaa.J

/-
  pack: the program's isHalf of actions, and what an action may be.
-/
namespace Go.Proofs.Ytgmljpkenipgjaa.J
open Go.RowKit Go.Maps Go.Shelf Pk

attribute [local go_sem] Oper.semAt_some

set_option maxRecDepth 100000 in
theorem isAction_any (kind tv : Int) (sb n : Nat) (X : World) (hc : X.cell? ⟨sb, 0, none⟩ = some (.int .i64 (n : Int))) (r : Bool) (hr : r = true ↔ StandOk kind tv n) :
    Calls Try.prog 44 #[.agg #[.int .i64 kind, .int .i64 tv], .pointer (some ⟨sb, 0, none⟩)] X fun e y => e = .returned (.bool r) ∧ X.grownBy y none := by
  have HM : Hid (∀ W, Calls Try.prog 45 #[.agg #[.int .i64 kind, .int .i64 tv], .int .i64 (n : Int)] W fun e y => e = .returned (.bool r) ∧ W.grownBy y none) := fun W => mayStand_any kind tv n W r hr
  have c1 : ∀ o, (X.alloc o).cell? ⟨sb, 0, none⟩ = some (.int .i64 (n : Int)) := fun o => (World.grownBy_alloc X o none).cell hc (by simp)
  have HG : Hid (∀ o, X.grownBy (X.alloc o) none) := fun o => World.grownBy_alloc _ _ none
  clear hr hc
  go_enter Try.func44, Try.ntmps44
  go_wp2_with fail
  refine Calls.mono (HM.out _) ?_
  rintro e y ⟨rfl, hy⟩
  have HY : Hid (X.grownBy y none) := grown_trans (HG.out _) hy
  clear hy
  go_wp2_with fail
  go_ret
  exact ⟨rfl, HY.out⟩

set_option maxRecDepth 100000 in
set_option maxHeartbeats 4000000 in
theorem isHalfA_any (sb ns : Nat) (a : Option Addr) (N c : Nat) (Q : Nat → List It) (ua : Nat → Option Addr) (uc : Nat → Nat) (w : World) (hs : w.cell? ⟨sb, 0, none⟩ = some (.int .i64 (ns : Int))) (hR : RsAt w a N Q ua uc) (hN : N ≤ 17592186044416) (hl : ∀ i, i < N → (Q i).length ≤ 17592186044416) (r : Bool) (hr : r = true ↔ HalfOk N (fun i => (Q i).length) ∧ ∀ i, i < N → ∀ x ∈ Q i, StandOk x.1 x.2 ns) :
    Calls Try.prog 46 #[.func (.func 44) #[] #[.pointer (some ⟨sb, 0, none⟩)], .slice a N c] w fun e y => e = .returned (.bool r) ∧ w.grownBy y none := by
  have HT : Hid ((HalfOk N (fun i => (Q i).length) ∧ ∀ i, i < N → ∀ x ∈ Q i, StandOk x.1 x.2 ns) → true = r) := fun h => (hr.2 h).symm
  have HN : Hid (¬ (HalfOk N (fun i => (Q i).length) ∧ ∀ i, i < N → ∀ x ∈ Q i, StandOk x.1 x.2 ns) → false = r) := fun h => by
    cases hrr : r with
    | false => rfl
    | true => exact absurd (hr.1 hrr) h
  have HR : Hid (∀ X, w.grownBy X none → RsAt X a N Q ua uc) := fun X hX => hR.kept hX
  have HS : Hid (∀ X, w.grownBy X none → X.cell? ⟨sb, 0, none⟩ = some (.int .i64 (ns : Int))) := fun X hX => hX.cell hs (by simp)
  have HL := hidH hl
  clear hr hR hs hl
  by_cases h0 : N = 0
  · subst h0
    have HF : Hid (false = r) := HN.out (fun h => by have := h.1.1; omega)
    go_enter Try.func46, Try.ntmps46
    go_wp2_with fail
    go_ret
    exact ⟨congrArg (fun v => Ending.returned (Value.bool v)) HF.out, grown_refl _ _⟩
  · obtain ⟨ra, ro, rfl, hc⟩ : ∃ ra ro, a = some ⟨ra, ro, none⟩ ∧ ∀ i, i < N → w.cell? ⟨ra, ro + i, none⟩ = some (.slice (ua i) (Q i).length (uc i)) := by
      rcases (HR.out w (grown_refl _ _)).1 with h | h
      · exact absurd h h0
      · exact h
    have c0 := hc 0 (by omega)
    rw [Nat.add_zero] at c0
    have HC : Hid (∀ X, w.grownBy X none → ∀ i, i < N → X.cell? ⟨ra, ro + i, none⟩ = some (.slice (ua i) (Q i).length (uc i))) := fun X hX i hi => hX.cell (hc i hi) (by simp)
    obtain ⟨n0, hn0⟩ : ∃ v, v = (Q 0).length := ⟨_, rfl⟩
    have HN0 : Hid (n0 = (Q 0).length) := hn0
    obtain ⟨u0, hu0⟩ : ∃ v, v = ua 0 := ⟨_, rfl⟩
    obtain ⟨d0, hd0⟩ : ∃ v, v = uc 0 := ⟨_, rfl⟩
    rw [← hn0, ← hu0, ← hd0] at c0
    have HC0 : Hid (∀ X, w.grownBy X none → X.cell? ⟨ra, ro, none⟩ = some (.slice u0 n0 d0)) := fun X hX => hX.cell c0 (by simp)
    have hNi : (0 : Int) < (N : Int) := by omega
    have hNe : ((N : Int) == 0) = false := beq_eq_false_iff_ne.2 (by omega)
    have hNe' : (N == 0) = false := beq_eq_false_iff_ne.2 h0
    clear hn0 hu0 hd0 hc
    by_cases h1 : n0 = 0
    · have HF : Hid (false = r) := HN.out (fun h => by have h2 := h.1.2.1; have h3 := HN0.out; simp only [] at h2; omega)
      subst h1
      go_enter Try.func46, Try.ntmps46
      go_wp2_with fail
      go_ret
      exact ⟨congrArg (fun v => Ending.returned (Value.bool v)) HF.out, grown_refl _ _⟩
    · have e1 : ((n0 : Int) == 0) = false := beq_eq_false_iff_ne.2 (by omega)
      have e1' : (n0 == 0) = false := beq_eq_false_iff_ne.2 h1
      by_cases h2 : 65 < n0
      · have HF : Hid (false = r) := HN.out (fun h => by have h2 := h.1.2.2.1; have h3 := HN0.out; simp only [] at h2; omega)
        have d2 : decide (65 < n0) = true := decide_eq_true h2
        have d2' : decide ((65 : Int) < (n0 : Int)) = true := decide_eq_true (by omega)
        clear h1 h2
        go_enter Try.func46, Try.ntmps46
        go_wp2_with fail
        go_ret
        exact ⟨congrArg (fun v => Ending.returned (Value.bool v)) HF.out, grown_refl _ _⟩
      · have d2 : decide (65 < n0) = false := decide_eq_false h2
        have d2' : decide ((65 : Int) < (n0 : Int)) = false := decide_eq_false (by omega)
        have HB : Hid (0 < n0 ∧ n0 ≤ 65) := ⟨by omega, by omega⟩
        clear h1 h2
        go_enter Try.func46, Try.ntmps46
        go_wp2_with fail
        clear c0
        go_loopg [28] N (fun gk v wr => ∃ k : Nat, k ≤ N ∧ gk = N - k ∧ v = .int .i64 k ∧ Hid (∀ i, i < k → (Q i).length = n0 ∧ ∀ x ∈ Q i, StandOk x.1 x.2 ns) ∧ w.grownBy wr none)
        case atStart => exact ⟨0, Nat.zero_le _, rfl, rfl, fun i hi => absurd hi (Nat.not_lt_zero _), grown_refl _ _⟩
        case round =>
          obtain ⟨k, hk, hgk, rfl, HD, hg⟩ := hrel
          have HGK : Hid (gk = N - k) := hgk
          have HG := hidH hg
          have c0 := HC0.out wr hg
          clear hgk
          by_cases hkn : k < N
          · have hkd : decide (k < N) = true := decide_eq_true hkn
            have hk0 : (0 : Int) ≤ (k : Int) := by omega
            have hk1 : (k : Int) < (N : Int) := by omega
            have ck := HC.out wr hg k hkn
            obtain ⟨n1, hn1⟩ : ∃ v, v = (Q k).length := ⟨_, rfl⟩
            have HN1 : Hid (n1 = (Q k).length) := hn1
            have hnb : n1 ≤ 17592186044416 := by rw [hn1]; exact HL.out k hkn
            obtain ⟨uk, huk⟩ : ∃ v, v = ua k := ⟨_, rfl⟩
            have HIT : Hid (∀ X, w.grownBy X none → ItsAt X uk (Q k)) := by rw [huk]; exact fun X hX => (HR.out X hX).2 k hkn
            rw [← hn1, ← huk] at ck
            clear hn1 huk
            by_cases hne : n1 = n0
            · have f1 : (n0 != n0) = false := bne_self_eq_false _
              have f1' : ((n0 : Int) != (n0 : Int)) = false := bne_self_eq_false _
              subst hne
              clear hg
              go_wp2_with fail
              clear c0 ck
              go_loopg [41] n1 (fun gk v wr => ∃ j : Nat, j ≤ n1 ∧ gk = n1 - j ∧ v = .int .i64 j ∧ Hid (∀ x ∈ (Q k).take j, StandOk x.1 x.2 ns) ∧ w.grownBy wr none)
              case atStart => exact ⟨0, Nat.zero_le _, rfl, rfl, fun x hx => by simp at hx, HG.out⟩
              case round =>
                clear HG
                obtain ⟨j, hj, hgj, rfl, HX, hg⟩ := hrel
                have HGJ : Hid (gk = n1 - j) := hgj
                have HG := hidH hg
                clear hgj
                by_cases hjn : j < n1
                · have hjd : decide (j < n1) = true := decide_eq_true hjn
                  have hj0 : (0 : Int) ≤ (j : Int) := by omega
                  have hj1 : (j : Int) < (n1 : Int) := by omega
                  have hjl : j < (Q k).length := by rw [← HN1.out]; exact hjn
                  have cs := HS.out wr hg
                  have HMM : Hid ((Q k).getD j (0, 0) ∈ Q k) := by rw [List.getD_eq_getElem?_getD, List.getElem?_eq_getElem hjl]; exact List.getElem_mem _
                  have HTK : Hid (∀ x ∈ (Q k).take (j + 1), x ∈ (Q k).take j ∨ x = (Q k).getD j (0, 0)) := fun x hx => by
                    rw [List.take_add_one, List.getElem?_eq_getElem hjl, Option.toList_some, List.mem_append] at hx
                    rcases hx with hx | hx
                    · exact .inl hx
                    · refine .inr ?_
                      rw [List.getD_eq_getElem?_getD, List.getElem?_eq_getElem hjl]
                      simpa using hx
                  obtain ⟨lb, lo, rfl, t0, t1⟩ : ∃ b o, uk = some ⟨b, o, none⟩ ∧ wr.cell? ⟨b, o + j * 2, none⟩ = some (.int .i64 ((Q k).getD j (0, 0)).1) ∧ wr.cell? ⟨b, o + j * 2 + 1, none⟩ = some (.int .i64 ((Q k).getD j (0, 0)).2) := by
                    rcases HIT.out wr hg with h | ⟨b, o, e, h⟩
                    · rw [h] at hjl; cases hjl
                    · exact ⟨b, o, e, (h j hjl).1, (h j hjl).2⟩
                  obtain ⟨z, hz⟩ : ∃ v, v = (Q k).getD j (0, 0) := ⟨_, rfl⟩
                  rw [← hz] at t0 t1 HMM HTK
                  obtain ⟨r1, hr1⟩ : ∃ r : Bool, r = true ↔ StandOk z.1 z.2 ns := by
                    by_cases h : StandOk z.1 z.2 ns
                    · exact ⟨true, by simp [h]⟩
                    · exact ⟨false, by simp [h]⟩
                  have HR1 := hidH hr1
                  have HCC := hidH (fun o => isAction_any z.1 z.2 sb ns (wr.alloc o) ((World.grownBy_alloc wr o none).cell cs (by simp)) r1 hr1)
                  clear hz hr1 cs hg
                  go_wp2_with fail
                  refine Calls.mono (HCC.out _) ?_
                  rintro e y ⟨rfl, hy⟩
                  have HY : Hid (w.grownBy y none) := grown_trans (grown_trans HG.out (World.grownBy_alloc _ _ none)) hy
                  clear hy HCC
                  cases r1 with
                  | false =>
                    have HF : Hid (false = r) := HN.out (fun h => absurd (HR1.out.2 (h.2 k hkn z HMM.out)) (by decide))
                    go_wp2_with fail
                    go_ret
                    exact ⟨congrArg (fun v => Ending.returned (Value.bool v)) HF.out, HY.out⟩
                  | true =>
                    have HZ : Hid (StandOk z.1 z.2 ns) := HR1.out.1 rfl
                    go_wp2_with fail
                    go_roundg (n1 - (j + 1))
                    case measure => have := HGJ.out; omega
                    case rel => exact ⟨j + 1, by omega, rfl, by go_num, fun x hx => by
                      rcases HTK.out x hx with h | h
                      · exact HX.out x h
                      · rw [h]; exact HZ.out, HY.out⟩
                · have hjd : decide (j < n1) = false := decide_eq_false hjn
                  have HDK : Hid (∀ i, i < k + 1 → (Q i).length = n1 ∧ ∀ x ∈ Q i, StandOk x.1 x.2 ns) := fun i hi => by
                    by_cases e : i = k
                    · subst e
                      have h1 := HX.out
                      rw [List.take_of_length_le (by have := HN1.out; omega)] at h1
                      exact ⟨HN1.out.symm, h1⟩
                    · exact HD.out i (by omega)
                  clear hg
                  go_wp2_with fail
                  go_roundg (N - (k + 1))
                  case measure => have := HGK.out; omega
                  case rel => exact ⟨k + 1, by omega, rfl, by go_num, HDK.out, HG.out⟩
            · have f1 : (n1 != n0) = true := by rw [bne_iff_ne]; exact hne
              have f1' : ((n1 : Int) != (n0 : Int)) = true := by rw [bne_iff_ne]; omega
              have HF : Hid (false = r) := HN.out (fun h => by
                have h1 := h.1.2.2.2 k hkn
                have h2 := HN0.out
                have h3 := HN1.out
                simp only [] at h1
                omega)
              clear hg hne
              go_wp2_with fail
              go_ret
              exact ⟨congrArg (fun v => Ending.returned (Value.bool v)) HF.out, HG.out⟩
          · have hkd : decide (k < N) = false := decide_eq_false hkn
            have HF : Hid (true = r) := HT.out ⟨⟨by omega, by have := HB.out; have := HN0.out; show 0 < (Q 0).length; omega, by have := HB.out; have := HN0.out; show (Q 0).length ≤ 65; omega, fun i hi => by
              have h1 := (HD.out i (by omega)).1
              have h2 := HN0.out
              show (Q i).length = (Q 0).length
              omega⟩, fun i hi => (HD.out i (by omega)).2⟩
            clear hg
            go_wp2_with fail
            go_ret
            exact ⟨congrArg (fun v => Ending.returned (Value.bool v)) HF.out, HG.out⟩

end Go.Proofs.Ytgmljpkenipgjaa.J

/-
  pack: the program's mayBePacked.
-/
namespace Go.Proofs.Ytgmljpkenipgjaa.J
open Go.RowKit Go.Maps Go.Shelf Pk

attribute [local go_sem] Oper.semAt_some

/-- May a table be packed? -/
def MayT (N M : Nat) (R : Nat → List It) (Q : Nat → List Int) : Prop := N ≤ 256 ∧ M = N ∧ (HalfOk N (fun i => (R i).length) ∧ ∀ i, i < N → ∀ x ∈ R i, StandOk x.1 x.2 N) ∧ (HalfOk N (fun i => (Q i).length) ∧ ∀ i, i < N → ∀ x ∈ Q i, GotoOk x N)

set_option maxRecDepth 100000 in
set_option maxHeartbeats 4000000 in
theorem mayBe_any (a g : Option Addr) (N M c d : Nat) (R : Nat → List It) (Q : Nat → List Int) (la lg : Nat → Option Addr) (lc ld : Nat → Nat) (w : World) (hR : RsAt w a N R la lc) (hQ : RiAt w g M Q lg ld) (hN : N ≤ 17592186044416) (hM : M ≤ 17592186044416) (hl : ∀ i, i < N → (R i).length ≤ 17592186044416) (hl2 : ∀ i, i < M → (Q i).length ≤ 17592186044416) (r : Bool) (hr : r = true ↔ MayT N M R Q) :
    Calls Try.prog 34 #[.agg #[.slice a N c, .slice g M d]] w fun e y => e = .returned (.bool r) ∧ w.grownBy y none := by
  have HT : Hid (MayT N M R Q → true = r) := fun h => (hr.2 h).symm
  have HN : Hid (¬ MayT N M R Q → false = r) := fun h => by
    cases hrr : r with
    | false => rfl
    | true => exact absurd (hr.1 hrr) h
  clear hr
  obtain ⟨X, hX⟩ : ∃ X, X = (w.alloc (.cells #[.slice a N c, .slice g M d] 42)).alloc (.cells #[.int .i64 (N : Int)] 3) := ⟨_, rfl⟩
  obtain ⟨sb, hsb⟩ : ∃ v, v = w.heap.size + 1 := ⟨_, rfl⟩
  have hgx : w.grownBy X none := by rw [hX]; exact grown_trans (World.grownBy_alloc _ _ none) (World.grownBy_alloc _ _ none)
  have HGX := hidH hgx
  have hb : X.heap[sb]? = some (.cells #[.int .i64 (N : Int)] 3 (0, 0)) := by
    have h := heap_alloc_last (w.alloc (.cells #[.slice a N c, .slice g M d] 42)) (.cells #[.int .i64 (N : Int)] 3)
    have e : (w.alloc (.cells #[.slice a N c, .slice g M d] 42)).heap.size = sb := by rw [hsb]; simp
    rw [hX, ← e]
    exact h
  have HS : Hid (∀ Y, X.grownBy Y none → Y.cell? ⟨sb, 0, none⟩ = some (.int .i64 (N : Int))) := fun Y hY => hY.cell (by rw [cell_of_row _ _ _ _ _ _ hb]; rfl) (by simp)
  have HB : Hid (∀ Y, X.grownBy Y none → Y.cell? ⟨w.heap.size, 0, none⟩ = some (.slice a N c) ∧ Y.cell? ⟨w.heap.size, 1, none⟩ = some (.slice g M d)) := fun Y hY => by
    have h0 : Y.heap[w.heap.size]? = some (.cells #[.slice a N c, .slice g M d] 42 (0, 0)) := box_kept (by rw [hX]; exact box_kept (heap_alloc_last w _) (World.grownBy_alloc _ _ none)) hY
    exact ⟨by rw [cell_of_row _ _ _ _ _ _ h0]; rfl, by rw [cell_of_row _ _ _ _ _ _ h0]; rfl⟩
  obtain ⟨q0, q1⟩ := HB.out X (grown_refl _ _)
  have s0 := HS.out X (grown_refl _ _)
  rw [hX] at q0 q1 s0
  rw [hsb] at s0
  by_cases h1 : 256 < N
  · have d1 : decide ((256 : Int) < (N : Int)) = true := decide_eq_true (by omega)
    have d1' : decide (256 < N) = true := decide_eq_true h1
    have HF : Hid (false = r) := HN.out (fun h => by have := h.1; omega)
    clear hR hQ hl hl2 h1 hb hgx hX hsb
    go_enter Try.func34, Try.ntmps34
    go_wp2_with fail
    go_ret
    exact ⟨congrArg (fun v => Ending.returned (Value.bool v)) HF.out, grown_trans (World.grownBy_alloc _ _ none) (World.grownBy_alloc _ _ none)⟩
  · have d1 : decide ((256 : Int) < (N : Int)) = false := decide_eq_false (by omega)
    have d1' : decide (256 < N) = false := decide_eq_false h1
    by_cases h2 : M = N
    · subst h2
      have e1 : ((M : Int) != (M : Int)) = false := bne_self_eq_false _
      have e1' : (M != M) = false := bne_self_eq_false _
      obtain ⟨r1, hr1⟩ : ∃ r : Bool, r = true ↔ HalfOk M (fun i => (R i).length) ∧ ∀ i, i < M → ∀ x ∈ R i, StandOk x.1 x.2 M := by
        by_cases h : HalfOk M (fun i => (R i).length) ∧ ∀ i, i < M → ∀ x ∈ R i, StandOk x.1 x.2 M
        · exact ⟨true, by simp only [true_iff]; exact h⟩
        · exact ⟨false, by simp only [Bool.false_eq_true, false_iff]; exact h⟩
      obtain ⟨r2, hr2⟩ : ∃ r : Bool, r = true ↔ HalfOk M (fun i => (Q i).length) ∧ ∀ i, i < M → ∀ x ∈ Q i, GotoOk x M := by
        by_cases h : HalfOk M (fun i => (Q i).length) ∧ ∀ i, i < M → ∀ x ∈ Q i, GotoOk x M
        · exact ⟨true, by simp only [true_iff]; exact h⟩
        · exact ⟨false, by simp only [Bool.false_eq_true, false_iff]; exact h⟩
      have HR1 := hidH hr1
      have HR2 := hidH hr2
      have HC1 := hidH (isHalfA_any sb M a M c R la lc X (HS.out X (grown_refl _ _)) (hR.kept hgx) hN hl r1 hr1)
      have HC2 := hidH (fun Y (hY : X.grownBy Y none) => isHalfI_any sb M g M d Q lg ld Y (HS.out Y hY) (hQ.kept (grown_trans hgx hY)) hN hl2 r2 hr2)
      clear hR hQ hl hl2 hb hgx hr1 hr2
      go_enter Try.func34, Try.ntmps34
      go_wp2_with fail
      rw [← hX, ← hsb]
      clear hX hsb q0 q1 s0
      refine Calls.mono HC1.out ?_
      rintro e y ⟨rfl, hy⟩
      have HY := hidH hy
      obtain ⟨q0, q1⟩ := HB.out y hy
      have HC3 := hidH (HC2.out y hy)
      clear hy HC1 HC2
      cases r1 with
      | false =>
        have HF : Hid (false = r) := HN.out (fun h => absurd (HR1.out.2 h.2.2.1) (by decide))
        go_wp2_with fail
        go_ret
        exact ⟨congrArg (fun v => Ending.returned (Value.bool v)) HF.out, grown_trans HGX.out HY.out⟩
      | true =>
        go_wp2_with fail
        refine Calls.mono HC3.out ?_
        rintro e z ⟨rfl, hz⟩
        have HZ : Hid (w.grownBy z none) := grown_trans (grown_trans HGX.out HY.out) hz
        have HF : Hid (r2 = r) := by
          cases r2 with
          | false => exact HN.out (fun h => absurd (HR2.out.2 h.2.2.2) (by decide))
          | true => exact HT.out ⟨by omega, rfl, HR1.out.1 (by first | rfl | trivial), HR2.out.1 (by first | rfl | trivial)⟩
        clear hz HC3
        go_wp2_with fail
        go_ret
        exact ⟨congrArg (fun v => Ending.returned (Value.bool v)) HF.out, HZ.out⟩
    · have e1 : ((M : Int) != (N : Int)) = true := by rw [bne_iff_ne]; omega
      have e1' : (M != N) = true := by rw [bne_iff_ne]; exact h2
      have HF : Hid (false = r) := HN.out (fun h => h2 h.2.1)
      clear hR hQ hl hl2 h1 h2 hb hgx hX hsb
      go_enter Try.func34, Try.ntmps34
      go_wp2_with fail
      go_ret
      exact ⟨congrArg (fun v => Ending.returned (Value.bool v)) HF.out, grown_trans (World.grownBy_alloc _ _ none) (World.grownBy_alloc _ _ none)⟩

end Go.Proofs.Ytgmljpkenipgjaa.J
