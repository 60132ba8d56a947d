import Derived.Test.YtgmljpkenipgjaaQlnmlkobjpdoa
import Derived.Test.YtgmljpkenipgjaaQghebplnneajb
import Derived.Test.YtgmljpkenipgjaaQoolelimaifpo
import Derived.Test.YtgmljpkenipgjaaQgjimidgjjnjb
import Derived.Deep.RegionHeld3
import Derived.BigQuiet

/-
  pack: the document's May (printed by tools/pk_dmay.py).
-/
namespace Go.Proofs.Ytgmljpkenipgjaa.J
open Go.RowKit Go.Maps Go.Shelf Pk

attribute [local go_sem] Oper.semAt_some

theorem takeD {l : List Int} {j : Nat} (h : j < l.length) : ∀ x ∈ l.take (j + 1), x ∈ l.take j ∨ x = l.getD j 0 := fun x hx => by
  rw [List.take_add_one, List.getElem?_eq_getElem h, Option.toList_some, List.mem_append] at hx
  rcases hx with hx | hx
  · exact .inl hx
  · refine .inr ?_
    rw [List.getD_eq_getElem?_getD, List.getElem?_eq_getElem h]
    simpa using hx
theorem takeE {l : List It} {j : Nat} (h : j < l.length) : ∀ x ∈ l.take (j + 1), x ∈ l.take j ∨ x = l.getD j (0, 0) := fun x hx => by
  rw [List.take_add_one, List.getElem?_eq_getElem h, Option.toList_some, List.mem_append] at hx
  rcases hx with hx | hx
  · exact .inl hx
  · refine .inr ?_
    rw [List.getD_eq_getElem?_getD, List.getElem?_eq_getElem h]
    simpa using hx
theorem getD_memE {l : List It} {j : Nat} (h : j < l.length) : l.getD j (0, 0) ∈ l := by rw [List.getD_eq_getElem?_getD, List.getElem?_eq_getElem h]; exact List.getElem_mem _
theorem getD_memI {l : List Int} {j : Nat} (h : j < l.length) : l.getD j 0 ∈ l := by rw [List.getD_eq_getElem?_getD, List.getElem?_eq_getElem h]; exact List.getElem_mem _

set_option maxRecDepth 100000 in
set_option maxHeartbeats 8000000 in
theorem rpMay_any (a g : Option Addr) (N M c d : Nat) (R : Nat → List It) (Q : Nat → List Int) (la lg : Nat → Option Addr) (lc ld : Nat → Nat) (w : World) (hR : RsAt w a N R la lc) (hQ : RiAt w g M Q lg ld) (hN : N ≤ 17592186044416) (hM : M ≤ 17592186044416) (hl : ∀ i, i < N → (R i).length ≤ 17592186044416) (hl2 : ∀ i, i < M → (Q i).length ≤ 17592186044416) (r : Bool) (hr : r = true ↔ MayT N M R Q) :
    Calls Try.prog 27 #[.agg #[.slice a N c, .slice g M d]] w fun e y => e = .returned (.bool r) ∧ w.grownBy y none := by
  have HT : Hid (MayT N M R Q → true = r) := fun h => (hr.2 h).symm
  have HN : Hid (¬ MayT N M R Q → false = r) := fun h => by
    cases hrr : r with
    | false => rfl
    | true => exact absurd (hr.1 hrr) h
  clear hr
  obtain ⟨X, hX⟩ : ∃ X, X = w.alloc (.cells #[.slice a N c, .slice g M d] 42) := ⟨_, rfl⟩
  have hgx : w.grownBy X none := by rw [hX]; exact World.grownBy_alloc _ _ none
  have HGX := hidH hgx
  have HB : Hid (∀ Y, X.grownBy Y none → Y.cell? ⟨w.heap.size, 0, none⟩ = some (.slice a N c) ∧ Y.cell? ⟨w.heap.size, 1, none⟩ = some (.slice g M d)) := fun Y hY => by
    have h0 : Y.heap[w.heap.size]? = some (.cells #[.slice a N c, .slice g M d] 42 (0, 0)) := box_kept (by rw [hX]; exact heap_alloc_last w _) hY
    exact ⟨by rw [cell_of_row _ _ _ _ _ _ h0]; rfl, by rw [cell_of_row _ _ _ _ _ _ h0]; rfl⟩
  have HR : Hid (∀ Y, X.grownBy Y none → RsAt Y a N R la lc) := fun Y hY => hR.kept (grown_trans hgx hY)
  have HQ : Hid (∀ Y, X.grownBy Y none → RiAt Y g M Q lg ld) := fun Y hY => hQ.kept (grown_trans hgx hY)
  have HL := hidH hl
  have HL2 := hidH hl2
  obtain ⟨q0, q1⟩ := HB.out X (grown_refl _ _)
  rw [hX] at q0 q1
  clear hR hQ hl hl2 hgx
  by_cases h0 : N < 1
  · have HF : Hid (false = r) := HN.out (fun h => by have := h.2.2.1.1.1; omega)
    have e0 : N = 0 := by omega
    subst e0
    go_enter Try.func27, Try.ntmps27
    go_wp2_with fail
    go_ret
    exact ⟨congrArg (fun v => Ending.returned (Value.bool v)) HF.out, World.grownBy_alloc _ _ none⟩
  have d0 : decide ((N : Int) < 1) = false := decide_eq_false (by omega)
  have d0' : decide (N < 1) = false := decide_eq_false h0
  have d0'' : decide (N = 0) = false := decide_eq_false (by omega)
  by_cases h1 : 256 < N
  · have d1 : decide ((256 : Int) < (N : Int)) = true := decide_eq_true (by omega)
    have d1' : decide (256 < N) = true := decide_eq_true h1
    have HF : Hid (false = r) := HN.out (fun h => by have := h.1; omega)
    clear h0 h1
    go_enter Try.func27, Try.ntmps27
    go_wp2_with fail
    go_ret
    exact ⟨congrArg (fun v => Ending.returned (Value.bool v)) HF.out, World.grownBy_alloc _ _ none⟩
  have d1 : decide ((256 : Int) < (N : Int)) = false := decide_eq_false (by omega)
  have d1' : decide (256 < N) = false := decide_eq_false h1
  by_cases h2 : M = N
  case neg =>
    have e1 : ((M : Int) != (N : Int)) = true := by rw [bne_iff_ne]; omega
    have e1' : (M != N) = true := by rw [bne_iff_ne]; exact h2
    have HF : Hid (false = r) := HN.out (fun h => h2 h.2.1)
    clear h0 h1 h2
    go_enter Try.func27, Try.ntmps27
    go_wp2_with fail
    go_ret
    exact ⟨congrArg (fun v => Ending.returned (Value.bool v)) HF.out, World.grownBy_alloc _ _ none⟩
  subst h2
  have e1 : ((M : Int) != (M : Int)) = false := bne_self_eq_false _
  have e1' : (M != M) = false := bne_self_eq_false _
  have HM6 : Hid (0 < M ∧ M ≤ 256) := ⟨by omega, by omega⟩
  obtain ⟨ra, ro, rfl, hc⟩ : ∃ ra ro, a = some ⟨ra, ro, none⟩ ∧ ∀ i, i < M → X.cell? ⟨ra, ro + i, none⟩ = some (.slice (la i) (R i).length (lc i)) := by
    rcases (HR.out X (grown_refl _ _)).1 with h | h
    · omega
    · exact h
  obtain ⟨rg, og, rfl, hg⟩ : ∃ rg og, g = some ⟨rg, og, none⟩ ∧ ∀ i, i < M → X.cell? ⟨rg, og + i, none⟩ = some (.slice (lg i) (Q i).length (ld i)) := by
    rcases (HQ.out X (grown_refl _ _)).1 with h | h
    · omega
    · exact h
  have HCA : Hid (∀ Y, X.grownBy Y none → ∀ i, i < M → Y.cell? ⟨ra, ro + i, none⟩ = some (.slice (la i) (R i).length (lc i))) := fun Y hY i hi => hY.cell (hc i hi) (by simp)
  have HCG : Hid (∀ Y, X.grownBy Y none → ∀ i, i < M → Y.cell? ⟨rg, og + i, none⟩ = some (.slice (lg i) (Q i).length (ld i))) := fun Y hY i hi => hY.cell (hg i hi) (by simp)
  have c0 := hc 0 (by omega)
  have g0 := hg 0 (by omega)
  rw [Nat.add_zero, hX] at c0 g0
  obtain ⟨t, ht⟩ : ∃ t, t = (R 0).length := ⟨_, rfl⟩
  obtain ⟨s, hs⟩ : ∃ s, s = (Q 0).length := ⟨_, rfl⟩
  have HTT : Hid (t = (R 0).length) := ht
  have HSS : Hid (s = (Q 0).length) := hs
  obtain ⟨u0, hu0⟩ : ∃ v, v = la 0 := ⟨_, rfl⟩
  obtain ⟨u1, hu1⟩ : ∃ v, v = lc 0 := ⟨_, rfl⟩
  obtain ⟨u2, hu2⟩ : ∃ v, v = lg 0 := ⟨_, rfl⟩
  obtain ⟨u3, hu3⟩ : ∃ v, v = ld 0 := ⟨_, rfl⟩
  rw [← ht, ← hu0, ← hu1] at c0
  rw [← hs, ← hu2, ← hu3] at g0
  have hMi : (0 : Int) < (M : Int) := by omega
  clear hc hg ht hs hu0 hu1 hu2 hu3 h0 h1
  by_cases kt : t < 1
  · have et : t = 0 := by omega
    subst et
    clear kt
    have HF : Hid (false = r) := HN.out (fun h => by have h1 := h.2.2.1.1.2.1; have h2 := HTT.out; simp only [] at h1; omega)
    go_enter Try.func27, Try.ntmps27
    go_wp2_with fail
    go_ret
    exact ⟨congrArg (fun v => Ending.returned (Value.bool v)) HF.out, World.grownBy_alloc _ _ none⟩
  have dt0 : decide ((t : Int) < 1) = false := decide_eq_false (by omega)
  have dt1 : decide (t < 1) = false := decide_eq_false kt
  have dt2 : decide (t = 0) = false := decide_eq_false (by omega)
  by_cases jt : 65 < t
  · have dt3 : decide ((65 : Int) < (t : Int)) = true := decide_eq_true (by omega)
    have dt4 : decide (65 < t) = true := decide_eq_true jt
    have HF : Hid (false = r) := HN.out (fun h => by have h1 := h.2.2.1.1.2.2.1; have h2 := HTT.out; simp only [] at h1; omega)
    clear kt jt
    go_enter Try.func27, Try.ntmps27
    go_wp2_with fail
    go_ret
    exact ⟨congrArg (fun v => Ending.returned (Value.bool v)) HF.out, World.grownBy_alloc _ _ none⟩
  have dt3 : decide ((65 : Int) < (t : Int)) = false := decide_eq_false (by omega)
  have dt4 : decide (65 < t) = false := decide_eq_false jt
  by_cases ks : s < 1
  · have es : s = 0 := by omega
    subst es
    clear ks
    have HF : Hid (false = r) := HN.out (fun h => by have h1 := h.2.2.2.1.2.1; have h2 := HSS.out; simp only [] at h1; omega)
    go_enter Try.func27, Try.ntmps27
    go_wp2_with fail
    go_ret
    exact ⟨congrArg (fun v => Ending.returned (Value.bool v)) HF.out, World.grownBy_alloc _ _ none⟩
  have ds0 : decide ((s : Int) < 1) = false := decide_eq_false (by omega)
  have ds1 : decide (s < 1) = false := decide_eq_false ks
  have ds2 : decide (s = 0) = false := decide_eq_false (by omega)
  by_cases js : 65 < s
  · have ds3 : decide ((65 : Int) < (s : Int)) = true := decide_eq_true (by omega)
    have ds4 : decide (65 < s) = true := decide_eq_true js
    have HF : Hid (false = r) := HN.out (fun h => by have h1 := h.2.2.2.1.2.2.1; have h2 := HSS.out; simp only [] at h1; omega)
    clear ks js
    go_enter Try.func27, Try.ntmps27
    go_wp2_with fail
    go_ret
    exact ⟨congrArg (fun v => Ending.returned (Value.bool v)) HF.out, World.grownBy_alloc _ _ none⟩
  have ds3 : decide ((65 : Int) < (s : Int)) = false := decide_eq_false (by omega)
  have ds4 : decide (65 < s) = false := decide_eq_false js
  have HTB : Hid ((0 < t ∧ t ≤ 65) ∧ (0 < s ∧ s ≤ 65)) := ⟨⟨by omega, by omega⟩, ⟨by omega, by omega⟩⟩
  clear kt jt ks js
  go_enter Try.func27, Try.ntmps27
  go_wp2_with fail
  rw [← hX]
  clear hX q0 q1 c0 g0 dt0 dt1 dt2 dt3 dt4 ds0 ds1 ds2 ds3 ds4 d0 d0' d0'' d1 d1' e1 e1'
  go_loopg [6] M (fun gk v wr => ∃ k : Nat, k ≤ M ∧ gk = M - k ∧ v = .int .i64 k ∧ Hid (∀ i, i < k → (R i).length = t ∧ (Q i).length = s ∧ (∀ x ∈ R i, StandOk x.1 x.2 M) ∧ ∀ x ∈ Q i, GotoOk x M) ∧ X.grownBy wr none)
  case atStart => exact ⟨0, Nat.zero_le _, rfl, rfl, fun i hi => absurd hi (Nat.not_lt_zero _), grown_refl _ _⟩
  case round =>
    obtain ⟨i, hi, hgi, rfl, HD, hg⟩ := hrel
    have HGI : Hid (gk = M - i) := hgi
    have HG := hidH hg
    obtain ⟨q0, q1⟩ := HB.out wr hg
    clear hgi
    by_cases hin : i < M
    case neg =>
      have hid : decide (i < M) = false := decide_eq_false hin
      have hid' : decide ((i : Int) < (M : Int)) = false := decide_eq_false (by omega)
      have HF : Hid (true = r) := HT.out ⟨HM6.out.2, rfl, ⟨⟨HM6.out.1, by have h1 := HTB.out; have h2 := HTT.out; simp only []; omega, by have h1 := HTB.out; have h2 := HTT.out; simp only []; omega, fun j hj => by have h1 := (HD.out j (by omega)).1; have h2 := HTT.out; simp only []; omega⟩, fun j hj => (HD.out j (by omega)).2.2.1⟩, ⟨⟨HM6.out.1, by have h1 := HTB.out; have h2 := HSS.out; simp only []; omega, by have h1 := HTB.out; have h2 := HSS.out; simp only []; omega, fun j hj => by have h1 := (HD.out j (by omega)).2.1; have h2 := HSS.out; simp only []; omega⟩, fun j hj => (HD.out j (by omega)).2.2.2⟩⟩
      clear hg hin
      go_wp2_with fail
      go_ret
      exact ⟨congrArg (fun v => Ending.returned (Value.bool v)) HF.out, grown_trans HGX.out HG.out⟩
    have hid : decide (i < M) = true := decide_eq_true hin
    have hi0 : (0 : Int) ≤ (i : Int) := by omega
    have hi1 : (i : Int) < (M : Int) := by omega
    have ca := HCA.out wr hg i hin
    have cg := HCG.out wr hg i hin
    obtain ⟨n1, hn1⟩ : ∃ v, v = (R i).length := ⟨_, rfl⟩
    have HN1 : Hid (n1 = (R i).length) := hn1
    obtain ⟨n2, hn2⟩ : ∃ v, v = (Q i).length := ⟨_, rfl⟩
    have HN2 : Hid (n2 = (Q i).length) := hn2
    obtain ⟨ui, hui⟩ : ∃ v, v = la i := ⟨_, rfl⟩
    obtain ⟨vi, hvi⟩ : ∃ v, v = lg i := ⟨_, rfl⟩
    obtain ⟨uc, huc⟩ : ∃ v, v = lc i := ⟨_, rfl⟩
    obtain ⟨vc, hvc⟩ : ∃ v, v = ld i := ⟨_, rfl⟩
    have HIA : Hid (∀ Y, X.grownBy Y none → ItsAt Y ui (R i)) := by rw [hui]; exact fun Y hY => (HR.out Y hY).2 i hin
    have HIG : Hid (∀ Y, X.grownBy Y none → IntsAt Y vi (Q i)) := by rw [hvi]; exact fun Y hY => (HQ.out Y hY).2 i hin
    rw [← hn1, ← hui, ← huc] at ca
    rw [← hn2, ← hvi, ← hvc] at cg
    have HCI : Hid (∀ Y, wr.grownBy Y none → Y.cell? ⟨ra, ro + i, none⟩ = some (.slice ui n1 uc) ∧ Y.cell? ⟨rg, og + i, none⟩ = some (.slice vi n2 vc)) := fun Y hY => ⟨hY.cell ca (by simp), hY.cell cg (by simp)⟩
    clear hn1 hn2 hui hvi huc hvc
    by_cases b1 : n1 = t
    case neg =>
      have f1 : (n1 != t) = true := by rw [bne_iff_ne]; exact b1
      have f1' : ((n1 : Int) != (t : Int)) = true := by rw [bne_iff_ne]; omega
      have HF : Hid (false = r) := HN.out (fun h => by have h1 := h.2.2.1.1.2.2.2 i hin; have h2 := HTT.out; have h3 := HN1.out; simp only [] at h1; omega)
      clear hg b1
      go_wp2_with fail
      go_ret
      exact ⟨congrArg (fun v => Ending.returned (Value.bool v)) HF.out, grown_trans HGX.out HG.out⟩
    subst b1
    have f1 : (n1 != n1) = false := bne_self_eq_false _
    have f1' : ((n1 : Int) != (n1 : Int)) = false := bne_self_eq_false _
    by_cases b2 : n2 = s
    case neg =>
      have f2 : (n2 != s) = true := by rw [bne_iff_ne]; exact b2
      have f2' : ((n2 : Int) != (s : Int)) = true := by rw [bne_iff_ne]; omega
      have HF : Hid (false = r) := HN.out (fun h => by have h1 := h.2.2.2.1.2.2.2 i hin; have h2 := HSS.out; have h3 := HN2.out; simp only [] at h1; omega)
      clear hg b2
      go_wp2_with fail
      go_ret
      exact ⟨congrArg (fun v => Ending.returned (Value.bool v)) HF.out, grown_trans HGX.out HG.out⟩
    subst b2
    have f2 : (n2 != n2) = false := bne_self_eq_false _
    have f2' : ((n2 : Int) != (n2 : Int)) = false := bne_self_eq_false _
    clear hg
    go_wp2_with fail
    clear ca cg q0 q1
    have hn65 : n1 ≤ 65 := HTB.out.1.2
    have hn66 : n2 ≤ 65 := HTB.out.2.2
    generalize wr = W1 at *
    go_loopg [7] n1 (fun gk v wr => ∃ j : Nat, j ≤ n1 ∧ gk = n1 - j ∧ v = .int .i64 j ∧ Hid (∀ x ∈ (R i).take j, StandOk x.1 x.2 M) ∧ W1.grownBy wr none)
    case atStart => exact ⟨0, Nat.zero_le _, rfl, rfl, fun x hx => by simp at hx, grown_refl _ _⟩
    case round =>
      obtain ⟨j, hj, hgj, rfl, HXX, hgy⟩ := hrel
      have HGJ : Hid (gk = n1 - j) := hgj
      have HGY := hidH hgy
      have HGW : Hid (X.grownBy wr none) := grown_trans HG.out hgy
      clear hgj
      by_cases hjn : j < n1
      · have hjd : decide (j < n1) = true := decide_eq_true hjn
        have hj0 : (0 : Int) ≤ (j : Int) := by omega
        have hj1 : (j : Int) < (n1 : Int) := by omega
        have hjl : j < (R i).length := by rw [← HN1.out]; exact hjn
        have HMM : Hid ((R i).getD j (0, 0) ∈ R i) := getD_memE hjl
        have HTK : Hid (∀ x ∈ (R i).take (j + 1), x ∈ (R i).take j ∨ x = (R i).getD j (0, 0)) := takeE hjl
        obtain ⟨q0, q1⟩ := HB.out wr HGW.out
        obtain ⟨ca, cg⟩ := HCI.out wr hgy
        obtain ⟨lb, lo, rfl, t0, t1⟩ := its_get (HIA.out wr HGW.out) hjl
        obtain ⟨x, hx⟩ : ∃ x, x = (R i).getD j (0, 0) := ⟨_, rfl⟩
        rw [← hx] at t0 t1 HMM HTK
        obtain ⟨kind, tv⟩ := x
        simp only [] at t0 t1
        clear hx hgy q1 cg
        by_cases k0 : kind = 0
        · subst k0
          by_cases z0 : tv = 0
          · subst z0
            have HZ : Hid (StandOk 0 0 M) := by show StandOk _ _ _; unfold StandOk; omega
            go_wp2_with fail
            go_roundg (n1 - (j + 1))
            case measure => have := HGJ.out; omega
            case rel => exact ⟨j + 1, by omega, rfl, by go_num, fun x hx => by
              rcases HTK.out x hx with h | h
              · exact HXX.out x h
              · subst h; exact HZ.out, grown_trans HGY.out (World.grownBy_alloc _ _ none)⟩
          · have y0 : (tv == 0) = false := beq_eq_false_iff_ne.2 z0
            have HZ : Hid (¬ StandOk 0 tv M) := by show ¬ StandOk _ _ _; unfold StandOk; omega
            have HF : Hid (false = r) := HN.out (fun h => HZ.out (h.2.2.1.2 i hin _ HMM.out))
            clear z0
            go_wp2_with fail
            go_ret
            exact ⟨congrArg (fun v => Ending.returned (Value.bool v)) HF.out, grown_trans (grown_trans HGX.out HGW.out) (World.grownBy_alloc _ _ none)⟩
        by_cases k3 : kind = 3
        · subst k3
          by_cases z0 : tv = 0
          · subst z0
            have HZ : Hid (StandOk 3 0 M) := by show StandOk _ _ _; unfold StandOk; omega
            go_wp2_with fail
            go_roundg (n1 - (j + 1))
            case measure => have := HGJ.out; omega
            case rel => exact ⟨j + 1, by omega, rfl, by go_num, fun x hx => by
              rcases HTK.out x hx with h | h
              · exact HXX.out x h
              · subst h; exact HZ.out, grown_trans HGY.out (World.grownBy_alloc _ _ none)⟩
          · have y0 : (tv == 0) = false := beq_eq_false_iff_ne.2 z0
            have HZ : Hid (¬ StandOk 3 tv M) := by show ¬ StandOk _ _ _; unfold StandOk; omega
            have HF : Hid (false = r) := HN.out (fun h => HZ.out (h.2.2.1.2 i hin _ HMM.out))
            clear z0
            go_wp2_with fail
            go_ret
            exact ⟨congrArg (fun v => Ending.returned (Value.bool v)) HF.out, grown_trans (grown_trans HGX.out HGW.out) (World.grownBy_alloc _ _ none)⟩
        by_cases k4 : kind = 4
        · subst k4
          by_cases z0 : tv = 0
          · subst z0
            have HZ : Hid (StandOk 4 0 M) := by show StandOk _ _ _; unfold StandOk; omega
            go_wp2_with fail
            go_roundg (n1 - (j + 1))
            case measure => have := HGJ.out; omega
            case rel => exact ⟨j + 1, by omega, rfl, by go_num, fun x hx => by
              rcases HTK.out x hx with h | h
              · exact HXX.out x h
              · subst h; exact HZ.out, grown_trans HGY.out (World.grownBy_alloc _ _ none)⟩
          · have y0 : (tv == 0) = false := beq_eq_false_iff_ne.2 z0
            have HZ : Hid (¬ StandOk 4 tv M) := by show ¬ StandOk _ _ _; unfold StandOk; omega
            have HF : Hid (false = r) := HN.out (fun h => HZ.out (h.2.2.1.2 i hin _ HMM.out))
            clear z0
            go_wp2_with fail
            go_ret
            exact ⟨congrArg (fun v => Ending.returned (Value.bool v)) HF.out, grown_trans (grown_trans HGX.out HGW.out) (World.grownBy_alloc _ _ none)⟩
        by_cases k1 : kind = 1
        · subst k1
          by_cases z0 : tv = 0
          · subst z0
            have y1 : decide ((0 : Int) < (M : Int)) = true := decide_eq_true hMi
            have y1n : decide (0 < M) = true := decide_eq_true (by omega)
            have HZ : Hid (StandOk 1 0 M) := by show StandOk _ _ _; unfold StandOk; omega
            go_wp2_with fail
            go_roundg (n1 - (j + 1))
            case measure => have := HGJ.out; omega
            case rel => exact ⟨j + 1, by omega, rfl, by go_num, fun x hx => by
              rcases HTK.out x hx with h | h
              · exact HXX.out x h
              · subst h; exact HZ.out, grown_trans HGY.out (World.grownBy_alloc _ _ none)⟩
          · have y0 : (tv == 0) = false := beq_eq_false_iff_ne.2 z0
            by_cases z1 : 0 ≤ tv
            · have y1 : decide (0 ≤ tv) = true := decide_eq_true z1
              by_cases z2 : tv < (M : Int)
              · have y2 : decide (tv < (M : Int)) = true := decide_eq_true z2
                have HZ : Hid (StandOk 1 tv M) := by show StandOk _ _ _; unfold StandOk; omega
                clear z0 z1 z2
                go_wp2_with fail
                go_roundg (n1 - (j + 1))
                case measure => have := HGJ.out; omega
                case rel => exact ⟨j + 1, by omega, rfl, by go_num, fun x hx => by
                  rcases HTK.out x hx with h | h
                  · exact HXX.out x h
                  · subst h; exact HZ.out, grown_trans HGY.out (World.grownBy_alloc _ _ none)⟩
              · have y2 : decide (tv < (M : Int)) = false := decide_eq_false z2
                have HZ : Hid (¬ StandOk 1 tv M) := by show ¬ StandOk _ _ _; unfold StandOk; omega
                have HF : Hid (false = r) := HN.out (fun h => HZ.out (h.2.2.1.2 i hin _ HMM.out))
                clear z0 z1 z2
                go_wp2_with fail
                go_ret
                exact ⟨congrArg (fun v => Ending.returned (Value.bool v)) HF.out, grown_trans (grown_trans HGX.out HGW.out) (World.grownBy_alloc _ _ none)⟩
            · have y1 : decide (0 ≤ tv) = false := decide_eq_false z1
              have HZ : Hid (¬ StandOk 1 tv M) := by show ¬ StandOk _ _ _; unfold StandOk; omega
              have HF : Hid (false = r) := HN.out (fun h => HZ.out (h.2.2.1.2 i hin _ HMM.out))
              clear z0 z1
              go_wp2_with fail
              go_ret
              exact ⟨congrArg (fun v => Ending.returned (Value.bool v)) HF.out, grown_trans (grown_trans HGX.out HGW.out) (World.grownBy_alloc _ _ none)⟩
        by_cases k2 : kind = 2
        · subst k2
          by_cases z0 : tv = 0
          · subst z0
            have HZ : Hid (¬ StandOk 2 0 M) := by show ¬ StandOk _ _ _; unfold StandOk; omega
            have HF : Hid (false = r) := HN.out (fun h => HZ.out (h.2.2.1.2 i hin _ HMM.out))
            go_wp2_with fail
            go_ret
            exact ⟨congrArg (fun v => Ending.returned (Value.bool v)) HF.out, grown_trans (grown_trans HGX.out HGW.out) (World.grownBy_alloc _ _ none)⟩
          · have y0 : (tv == 0) = false := beq_eq_false_iff_ne.2 z0
            by_cases z1 : 1 ≤ tv
            · have y1 : decide (1 ≤ tv) = true := decide_eq_true z1
              by_cases z2 : tv ≤ 96
              · have y2 : decide (tv ≤ 96) = true := decide_eq_true z2
                have HZ : Hid (StandOk 2 tv M) := by show StandOk _ _ _; unfold StandOk; omega
                clear z0 z1 z2
                go_wp2_with fail
                go_roundg (n1 - (j + 1))
                case measure => have := HGJ.out; omega
                case rel => exact ⟨j + 1, by omega, rfl, by go_num, fun x hx => by
                  rcases HTK.out x hx with h | h
                  · exact HXX.out x h
                  · subst h; exact HZ.out, grown_trans HGY.out (World.grownBy_alloc _ _ none)⟩
              · have y2 : decide (tv ≤ 96) = false := decide_eq_false z2
                have HZ : Hid (¬ StandOk 2 tv M) := by show ¬ StandOk _ _ _; unfold StandOk; omega
                have HF : Hid (false = r) := HN.out (fun h => HZ.out (h.2.2.1.2 i hin _ HMM.out))
                clear z0 z1 z2
                go_wp2_with fail
                go_ret
                exact ⟨congrArg (fun v => Ending.returned (Value.bool v)) HF.out, grown_trans (grown_trans HGX.out HGW.out) (World.grownBy_alloc _ _ none)⟩
            · have y1 : decide (1 ≤ tv) = false := decide_eq_false z1
              have HZ : Hid (¬ StandOk 2 tv M) := by show ¬ StandOk _ _ _; unfold StandOk; omega
              have HF : Hid (false = r) := HN.out (fun h => HZ.out (h.2.2.1.2 i hin _ HMM.out))
              clear z0 z1
              go_wp2_with fail
              go_ret
              exact ⟨congrArg (fun v => Ending.returned (Value.bool v)) HF.out, grown_trans (grown_trans HGX.out HGW.out) (World.grownBy_alloc _ _ none)⟩
        have x0 : (kind == 0) = false := beq_eq_false_iff_ne.2 k0
        have x1 : (kind == 1) = false := beq_eq_false_iff_ne.2 k1
        have x2 : (kind == 2) = false := beq_eq_false_iff_ne.2 k2
        have x3 : (kind == 3) = false := beq_eq_false_iff_ne.2 k3
        have x4 : (kind == 4) = false := beq_eq_false_iff_ne.2 k4
        by_cases z0 : tv = 0
        · subst z0
          have HZ : Hid (¬ StandOk kind 0 M) := by show ¬ StandOk _ _ _; unfold StandOk; omega
          have HF : Hid (false = r) := HN.out (fun h => HZ.out (h.2.2.1.2 i hin _ HMM.out))
          clear k0 k1 k2 k3 k4
          go_wp2_with fail
          go_ret
          exact ⟨congrArg (fun v => Ending.returned (Value.bool v)) HF.out, grown_trans (grown_trans HGX.out HGW.out) (World.grownBy_alloc _ _ none)⟩
        · have y0 : (tv == 0) = false := beq_eq_false_iff_ne.2 z0
          have HZ : Hid (¬ StandOk kind tv M) := by show ¬ StandOk _ _ _; unfold StandOk; omega
          have HF : Hid (false = r) := HN.out (fun h => HZ.out (h.2.2.1.2 i hin _ HMM.out))
          clear z0 k0 k1 k2 k3 k4
          go_wp2_with fail
          go_ret
          exact ⟨congrArg (fun v => Ending.returned (Value.bool v)) HF.out, grown_trans (grown_trans HGX.out HGW.out) (World.grownBy_alloc _ _ none)⟩
      · have hjd : decide (j < n1) = false := decide_eq_false hjn
        have HAL : Hid (∀ x ∈ R i, StandOk x.1 x.2 M) := fun x hx => HXX.out x (by rw [List.take_of_length_le (by have := HN1.out; omega)]; exact hx)
        clear hgy hjn HXX
        go_wp2_with fail
        clear hjd
        generalize wr = W2 at *
        go_loopg [10] n2 (fun gk v wr => ∃ j : Nat, j ≤ n2 ∧ gk = n2 - j ∧ v = .int .i64 j ∧ Hid (∀ x ∈ (Q i).take j, GotoOk x M) ∧ W2.grownBy wr none)
        case atStart => exact ⟨0, Nat.zero_le _, rfl, rfl, fun x hx => by simp at hx, grown_refl _ _⟩
        case round =>
          obtain ⟨j, hj, hgj, rfl, HXX, hgz⟩ := hrel
          have HGJ : Hid (gk = n2 - j) := hgj
          have HGZ : Hid (X.grownBy wr none) := grown_trans HGW.out hgz
          have HGZ2 := hidH hgz
          clear hgj
          by_cases hjn : j < n2
          · have hjd : decide (j < n2) = true := decide_eq_true hjn
            have hj0 : (0 : Int) ≤ (j : Int) := by omega
            have hj1 : (j : Int) < (n2 : Int) := by omega
            have hjl : j < (Q i).length := by rw [← HN2.out]; exact hjn
            have HMM : Hid ((Q i).getD j 0 ∈ Q i) := getD_memI hjl
            have HTK : Hid (∀ x ∈ (Q i).take (j + 1), x ∈ (Q i).take j ∨ x = (Q i).getD j 0) := takeD hjl
            obtain ⟨q0, q1⟩ := HB.out wr HGZ.out
            obtain ⟨ca, cg⟩ := HCI.out wr (grown_trans HGY.out hgz)
            obtain ⟨lb, lo, rfl, t0⟩ := ints_get (HIG.out wr HGZ.out) hjl
            obtain ⟨z, hz⟩ : ∃ z, z = (Q i).getD j 0 := ⟨_, rfl⟩
            rw [← hz] at t0 HMM HTK
            clear hz hgz q0 ca
            by_cases a1 : z < -1
            · have y1 : decide (z < -1) = true := decide_eq_true a1
              have HF : Hid (false = r) := HN.out (fun h => by have h1 := h.2.2.2.2 i hin z HMM.out; unfold GotoOk at h1; omega)
              clear a1 hjn
              go_wp2_with fail
              go_ret
              exact ⟨congrArg (fun v => Ending.returned (Value.bool v)) HF.out, grown_trans HGX.out HGZ.out⟩
            · have y1 : decide (z < -1) = false := decide_eq_false a1
              by_cases a2 : (M : Int) ≤ z
              · have y2 : decide ((M : Int) ≤ z) = true := decide_eq_true a2
                have HF : Hid (false = r) := HN.out (fun h => by have h1 := h.2.2.2.2 i hin z HMM.out; unfold GotoOk at h1; omega)
                clear a1 a2 hjn
                go_wp2_with fail
                go_ret
                exact ⟨congrArg (fun v => Ending.returned (Value.bool v)) HF.out, grown_trans HGX.out HGZ.out⟩
              · have y2 : decide ((M : Int) ≤ z) = false := decide_eq_false a2
                have HZ : Hid (GotoOk z M) := by show GotoOk _ _; unfold GotoOk; omega
                clear a1 a2
                go_wp2_with fail
                go_roundg (n2 - (j + 1))
                case measure => have := HGJ.out; omega
                case rel => exact ⟨j + 1, by omega, rfl, by go_num, fun x hx => by
                    rcases HTK.out x hx with h | h
                    · exact HXX.out x h
                    · subst h; exact HZ.out, HGZ2.out⟩
          · have hjd : decide (j < n2) = false := decide_eq_false hjn
            have HBL : Hid (∀ x ∈ Q i, GotoOk x M) := fun x hx => HXX.out x (by rw [List.take_of_length_le (by have := HN2.out; omega)]; exact hx)
            clear hgz hjn HXX
            go_wp2_with fail
            go_roundg (M - (i + 1))
            case measure => have := HGI.out; omega
            case rel => exact ⟨i + 1, by omega, rfl, by go_num, fun k hk => by
                by_cases e : k = i
                · subst e; exact ⟨HN1.out.symm, HN2.out.symm, HAL.out, HBL.out⟩
                · exact HD.out k (by omega), HGZ.out⟩

end Go.Proofs.Ytgmljpkenipgjaa.J

/-
  pack: the document's Pack: the rows of gotos: a loop as a declaration of its own (printed by tools/pk_rpb.py).
-/
namespace Go.Proofs.Ytgmljpkenipgjaa.J
open Go.RowKit Go.Maps Go.Shelf Pk

attribute [local go_sem] Oper.semAt_some

noncomputable def rpB : Code := ((Try.f20.body.map loopsJ).getD []).getD 3 .skip

/-- A nonterminal's gotos in the first j lists. -/
def colP (Q : Nat → List Int) (nn j : Nat) : List Int := (List.range j).map fun i => (Q i).getD nn 0
theorem colT_snoc (Q : Nat → List Int) (nn : Nat) (m : Int) (j : Nat) : colT Q nn m (j + 1) = colT Q nn m j ++ (if keepG m ((Q j).getD nn 0) = true then [((j : Int), (Q j).getD nn 0)] else []) := rfl
theorem keepG_doc (m t : Int) (h : -1 ≤ t) : keepG m t = true ↔ 0 ≤ t ∧ t ≠ m := by
  unfold keepG
  by_cases h1 : t = -1 <;> by_cases h2 : t = m <;> simp [h1, h2] <;> omega

end Go.Proofs.Ytgmljpkenipgjaa.J

/-
  pack: the document's Pack (printed by tools/pk_rpk.py).
-/
namespace Go.Proofs.Ytgmljpkenipgjaa.J
open Go.RowKit Go.Maps Go.Shelf Pk

attribute [local go_sem] Oper.semAt_some

theorem defL_len (R : Nat → List It) (k : Nat) : (defL R k).length = k := by unfold defL; simp
theorem tgtL_len (Q : Nat → List Int) (N k : Nat) : (tgtL Q N k).length = k := by unfold tgtL; simp

/-- What the document's Pack tells. -/
def RpTold (N M : Nat) (R : Nat → List It) (Q : Nat → List Int) (w : World) (e : Ending) (y : World) : Prop := (¬ MayT N M R Q ∧ e = .returned (.tuple #[.agg nilP, .int .i64 1]) ∧ w.grownBy y none) ∨ (MayT N M R Q ∧ ∃ (da : Option Addr) (dc : Nat) (ua : Nat → Option Addr) (uc : Nat → Nat) (ga : Option Addr) (gc : Nat) (va : Nat → Option Addr) (vc : Nat → Nat), e = .returned (.tuple #[.agg #[.slice da (defL R N).length dc, .slice (ua 0) (lay (fun i => rowA (R i)) N).bs.length (uc 0), .slice (ua 1) (lay (fun i => rowA (R i)) N).va.length (uc 1), .slice (ua 2) (lay (fun i => rowA (R i)) N).ow.length (uc 2), .slice ga (tgtL Q N (Q 0).length).length gc, .slice (va 0) (lay (fun i => colA Q N i) (Q 0).length).bs.length (vc 0), .slice (va 1) (lay (fun i => colA Q N i) (Q 0).length).va.length (vc 1), .slice (va 2) (lay (fun i => colA Q N i) (Q 0).length).ow.length (vc 2)], .int .i64 0]) ∧ y.ownsRow w.heap.size 3 1 (.slice da (defL R N).length dc) (defL R N).length (zV (defL R N)) ∧ TrZ y w.heap.size 3 (lyS (lay (fun i => rowA (R i)) N)) ua uc ∧ y.ownsRow w.heap.size 3 1 (.slice ga (tgtL Q N (Q 0).length).length gc) (tgtL Q N (Q 0).length).length (zV (tgtL Q N (Q 0).length)) ∧ TrZ y w.heap.size 3 (lyS (lay (fun i => colA Q N i) (Q 0).length)) va vc ∧ w.grownBy y none)

end Go.Proofs.Ytgmljpkenipgjaa.J

/-
  pack: the law's same, over two tables that are the same (printed by tools/pk_sad.py).
-/
namespace Go.Proofs.Ytgmljpkenipgjaa.J
open Go.RowKit Go.Maps Go.Shelf Pk

attribute [local go_sem] Oper.semAt_some

end Go.Proofs.Ytgmljpkenipgjaa.J

/-
  pack: the law's dense lays a row of []api.Action: a region as a declaration of its own (printed by tools/pk_denr.py).
-/
namespace Go.Proofs.Ytgmljpkenipgjaa.J
open Go.RowKit Go.Maps Go.Shelf Pk

attribute [local go_sem] Oper.semAt_some
attribute [local go_sem ↓] Go.wp_at_zero Go.wp_at_succ

noncomputable def plR5 : Code := ((Try.f18.body.map (regionsJ 5)).getD []).getD 0 .skip

set_option maxRecDepth 100000 in
set_option maxHeartbeats 8000000 in
theorem pl_r5 {K : Act → World → Prop} {V : World} {B db ob lb lo N c k n1 cp1 kc : Nat} {ka a1 : Option Addr} {xs rs : List Value} {cs : Array Value}
    {v0 v2 v5 v6 v7 v8 v9 v10 v11 v12 v13 v14 v15 v16 v17 v18 v19 v20 v21 v22 v23 v24 v25 v26 v27 v28 v29 v30 v31 v32 v33 v34 v35 v36 v37 v38 v39 v40 v41 v42 v43 v44 : Value}
    (q0 : V.cell? ⟨ob, 0, none⟩ = some (.slice ka k kc)) (q1 : V.cell? ⟨db, 0, none⟩ = some (.slice (some ⟨lb, lo, none⟩) N c)) (q2 : V.cell? ⟨lb, lo + k, none⟩ = some (.slice a1 n1 cp1)) (hk1 : (k : Int) < (N : Int))
    (hnil : a1 = none → n1 = 0 ∧ cp1 = 0) (hxs : xs.length = n1 * 2) (hsr : ∀ Y, V.grownBy Y none → ∀ ad, a1 = some ad → ∀ j u, xs[j]? = some u → Y.cell? (ad.add j) = some u) (hon : ∀ u ∈ xs, u.oneCell' = true)
    (hn1 : n1 * 16 ≤ 140737488355328) (hk : k ≤ 5864062014634) (hO : V.ownsRow B 56 1 (.slice ka k kc) k rs) (hB : B ≤ V.heap.size) (hbox : V.heap[ob]? = some (.cells cs 42 (0, 0))) (hc0 : cs[0]? = some (.slice ka k kc))
    (hexit : ∀ (Y wB : World) (a6 : Option Addr) (c6 g9 k9 : Nat) (u13 u14 u15 u16 u17 u18 u19 u20 u21 u22 u23 u24 : Value), V.grownBy Y none → Y.ownsRow V.heap.size 52 2 (.slice a6 n1 c6) n1 xs → Y.grownBy wB (Value.slice ka k kc).ownBlock → wB.ownsRow B 56 1 (.slice (some ⟨g9, 0, none⟩) (k + 1) k9) (k + 1) (rs ++ [.slice a6 n1 c6]) → K ⟨List.toArray (v0 :: .pointer (some ⟨db, 0, none⟩) :: v2 :: .pointer (some ⟨ob, 0, none⟩) :: .int .i64 (k : Int) :: v5 :: v6 :: v7 :: v8 :: v9 :: v10 :: v11 :: v12 :: u13 :: u14 :: u15 :: u16 :: u17 :: u18 :: u19 :: u20 :: u21 :: u22 :: u23 :: u24 :: v25 :: v26 :: v27 :: v28 :: v29 :: v30 :: v31 :: v32 :: v33 :: v34 :: v35 :: v36 :: v37 :: v38 :: v39 :: v40 :: v41 :: v42 :: v43 :: v44 :: []), []⟩ (wB.setCell ⟨ob, 0, none⟩ (.slice (some ⟨g9, 0, none⟩) (k + 1) k9))) :
    Code.wp Try.prog plR5 (OnEndJ K) ⟨List.toArray (v0 :: .pointer (some ⟨db, 0, none⟩) :: v2 :: .pointer (some ⟨ob, 0, none⟩) :: .int .i64 (k : Int) :: v5 :: v6 :: v7 :: v8 :: v9 :: v10 :: v11 :: v12 :: v13 :: v14 :: v15 :: v16 :: v17 :: v18 :: v19 :: v20 :: v21 :: v22 :: v23 :: v24 :: v25 :: v26 :: v27 :: v28 :: v29 :: v30 :: v31 :: v32 :: v33 :: v34 :: v35 :: v36 :: v37 :: v38 :: v39 :: v40 :: v41 :: v42 :: v43 :: v44 :: []), []⟩ V := by
  obtain ⟨i0, hi0, hz0, hz1, hz2⟩ := info_parts infoActD
  obtain ⟨i1, hi1, hy0, hy1, hy2⟩ := info_parts infoRowAD
  have hk0 : (0 : Int) ≤ (k : Int) := by omega
  have HSR := hidD hsr
  have HNL := hidD hnil
  have HXL := hidD hxs
  have HON := hidD hon
  have HEX := hidD hexit
  have q0a : ∀ o', (V.alloc o').cell? ⟨ob, 0, none⟩ = some (.slice ka k kc) := fun o' => (World.grownBy_alloc _ o' none).cell q0 (by simp)
  have q1a : ∀ o', (V.alloc o').cell? ⟨db, 0, none⟩ = some (.slice (some ⟨lb, lo, none⟩) N c) := fun o' => (World.grownBy_alloc _ o' none).cell q1 (by simp)
  have q2a : ∀ o', (V.alloc o').cell? ⟨lb, lo + k, none⟩ = some (.slice a1 n1 cp1) := fun o' => (World.grownBy_alloc _ o' none).cell q2 (by simp)
  have HE0 : Hid (∀ Y, (V.alloc (.cells #[] 52)).grownBy Y none → Y.ownsRow V.heap.size 52 2 (.slice (some ⟨V.heap.size, 0, none⟩) 0 0) 0 []) := fun Y hY => keep0 ⟨rfl, .inr ⟨V.heap.size, 0, #[], rfl, Nat.le_refl _, heap_alloc_last V _, Nat.le_refl _, Nat.zero_le _, rfl, rfl⟩⟩ hY
  have HSZ : Hid (∀ Y, V.grownBy Y none → V.heap.size ≤ Y.heap.size) := fun Y hY => hY.size
  have HOO : Hid (∀ Y, V.grownBy Y none → Y.ownsRow B 56 1 (.slice ka k kc) k rs ∧ B ≤ Y.heap.size ∧ Y.cell? ⟨ob, 0, none⟩ = some (.slice ka k kc)) := fun Y hY => ⟨keep0 hO hY, Nat.le_trans hB hY.size, hY.cell q0 (by simp)⟩
  have HST : Hid (∀ Y Z, V.grownBy Y none → Y.grownBy Z (Value.slice ka k kc).ownBlock → Z.cell? ⟨ob, 0, none⟩ = some (.slice ka k kc) ∧ Z.frozen? ⟨ob, 0, none⟩ = false) := fun Y Z hY hZ => by
    have h1 := box_under (keep0 hO hY) (box_kept hbox hY) (by decide) hZ
    exact ⟨by rw [cell_of_row _ _ _ _ _ _ h1]; exact hc0, frozen_of_row _ _ _ _ _ h1⟩
  clear hnil hxs hsr hon hexit hO hB hbox hc0
  conv => arg 2; whnf
  go_region_law (first
    | (refine step_append_srcW rfl (.tmp 15) (.tmp 20) 56 rfl V.heap.size 52 i0 (.agg #[.int .i64 0, .int .i64 0]) 2 16 Try.underlying56 hi0 hz0 hz1 hz2 rfl (by decide) (.slice (some ⟨V.heap.size, 0, none⟩) 0 0) 0 [] (by first | (simp [Act.eval]; done) | simp [Act.eval, Act.put]) (HE0.out _ (by repeat (first | exact grown_refl _ _ | refine grown_trans ?_ (grown_drewN _ _) | refine grown_trans ?_ (World.grownBy_alloc _ _ none)))) a1 n1 cp1 xs (by first | (simp [Act.eval]; done) | simp [Act.eval, Act.put]) HNL.out HXL.out (HSR.out _ (by repeat (first | exact grown_refl _ _ | refine grown_trans ?_ (grown_drewN _ _) | refine grown_trans ?_ (World.grownBy_alloc _ _ none)))) HON.out (by unfold maxLen; omega) (by omega) (HSZ.out _ (by repeat (first | exact grown_refl _ _ | refine grown_trans ?_ (grown_drewN _ _) | refine grown_trans ?_ (World.grownBy_alloc _ _ none)))) ?_; intro v6 wA hoA hgA; rw [Nat.zero_add, List.nil_append] at hoA; obtain ⟨a6, c6, rfl⟩ := owns_slice hoA; have HGA : Hid (V.grownBy wA none) := grown_new (by repeat (first | exact grown_refl _ _ | refine grown_trans ?_ (grown_drewN _ _) | refine grown_trans ?_ (World.grownBy_alloc _ _ none))) hgA (Nat.le_refl _); have HRA := hidD hoA; have z0 := (HOO.out wA HGA.out).2.2; have z0a : ∀ o', (wA.alloc o').cell? ⟨ob, 0, none⟩ = some (.slice ka k kc) := fun o' => (World.grownBy_alloc _ o' none).cell z0 (by simp); clear hoA hgA)
    | (refine step_append_liesW _ rfl (.tmp 14) (.tmp 22) 39 rfl B 56 i1 (.slice none 0 0) 1 24 Try.underlying39 hi1 hy0 hy1 hy2 rfl (by decide) (.slice ka k kc) k rs (by first | (simp [Act.eval]; done) | simp [Act.eval, Act.put]) (HOO.out _ (grown_trans HGA.out (by repeat (first | exact grown_refl _ _ | refine grown_trans ?_ (grown_drewN _ _) | refine grown_trans ?_ (World.grownBy_alloc _ _ none))))).1 ⟨wA.heap.size, 0, none⟩ 1 1 [.slice a6 n1 c6] (by first | (simp [Act.eval]; done) | simp [Act.eval, Act.put]) rfl (World.news_of_block (heap_alloc_last wA _)) (by simp [Value.oneCell']) (by decide) (by unfold maxLen; omega) (by omega) (HOO.out _ (grown_trans HGA.out (by repeat (first | exact grown_refl _ _ | refine grown_trans ?_ (grown_drewN _ _) | refine grown_trans ?_ (World.grownBy_alloc _ _ none))))).2.1 ?_; intro g9 k9 wB hoB hgB hatB; have HGB := hidD hgB; have HOB := hidD hoB; obtain ⟨y0, y1⟩ := HST.out _ wB (grown_trans HGA.out (by repeat (first | exact grown_refl _ _ | refine grown_trans ?_ (grown_drewN _ _) | refine grown_trans ?_ (World.grownBy_alloc _ _ none)))) hgB; clear hoB hgB hatB)
    | fail)
  all_goals exact HEX.out _ _ _ _ _ _ _ _ _ _ _ _ _ _ _ _ _ _ (grown_trans HGA.out (by repeat (first | exact grown_refl _ _ | refine grown_trans ?_ (grown_drewN _ _) | refine grown_trans ?_ (World.grownBy_alloc _ _ none)))) (keep0 HRA.out (by repeat (first | exact grown_refl _ _ | refine grown_trans ?_ (grown_drewN _ _) | refine grown_trans ?_ (World.grownBy_alloc _ _ none)))) HGB.out HOB.out

theorem pl_r5q {Q0 : Exit → Act → World → Prop} {V : World} {B db ob lb lo N c k n1 cp1 kc : Nat} {ka a1 : Option Addr} {xs rs : List Value} {cs : Array Value}
    {v0 v2 v5 v6 v7 v8 v9 v10 v11 v12 v13 v14 v15 v16 v17 v18 v19 v20 v21 v22 v23 v24 v25 v26 v27 v28 v29 v30 v31 v32 v33 v34 v35 v36 v37 v38 v39 v40 v41 v42 v43 v44 : Value}
    (q0 : V.cell? ⟨ob, 0, none⟩ = some (.slice ka k kc)) (q1 : V.cell? ⟨db, 0, none⟩ = some (.slice (some ⟨lb, lo, none⟩) N c)) (q2 : V.cell? ⟨lb, lo + k, none⟩ = some (.slice a1 n1 cp1)) (hk1 : (k : Int) < (N : Int))
    (hnil : a1 = none → n1 = 0 ∧ cp1 = 0) (hxs : xs.length = n1 * 2) (hsr : ∀ Y, V.grownBy Y none → ∀ ad, a1 = some ad → ∀ j u, xs[j]? = some u → Y.cell? (ad.add j) = some u) (hon : ∀ u ∈ xs, u.oneCell' = true)
    (hn1 : n1 * 16 ≤ 140737488355328) (hk : k ≤ 5864062014634) (hO : V.ownsRow B 56 1 (.slice ka k kc) k rs) (hB : B ≤ V.heap.size) (hbox : V.heap[ob]? = some (.cells cs 42 (0, 0))) (hc0 : cs[0]? = some (.slice ka k kc))
    (hexit : ∀ (Y wB : World) (a6 : Option Addr) (c6 g9 k9 : Nat) (u13 u14 u15 u16 u17 u18 u19 u20 u21 u22 u23 u24 : Value), V.grownBy Y none → Y.ownsRow V.heap.size 52 2 (.slice a6 n1 c6) n1 xs → Y.grownBy wB (Value.slice ka k kc).ownBlock → wB.ownsRow B 56 1 (.slice (some ⟨g9, 0, none⟩) (k + 1) k9) (k + 1) (rs ++ [.slice a6 n1 c6]) → Q0 .normal ⟨List.toArray (v0 :: .pointer (some ⟨db, 0, none⟩) :: v2 :: .pointer (some ⟨ob, 0, none⟩) :: .int .i64 (k : Int) :: v5 :: v6 :: v7 :: v8 :: v9 :: v10 :: v11 :: v12 :: u13 :: u14 :: u15 :: u16 :: u17 :: u18 :: u19 :: u20 :: u21 :: u22 :: u23 :: u24 :: v25 :: v26 :: v27 :: v28 :: v29 :: v30 :: v31 :: v32 :: v33 :: v34 :: v35 :: v36 :: v37 :: v38 :: v39 :: v40 :: v41 :: v42 :: v43 :: v44 :: []), []⟩ (wB.setCell ⟨ob, 0, none⟩ (.slice (some ⟨g9, 0, none⟩) (k + 1) k9))) :
    Code.wp Try.prog plR5 Q0 ⟨List.toArray (v0 :: .pointer (some ⟨db, 0, none⟩) :: v2 :: .pointer (some ⟨ob, 0, none⟩) :: .int .i64 (k : Int) :: v5 :: v6 :: v7 :: v8 :: v9 :: v10 :: v11 :: v12 :: v13 :: v14 :: v15 :: v16 :: v17 :: v18 :: v19 :: v20 :: v21 :: v22 :: v23 :: v24 :: v25 :: v26 :: v27 :: v28 :: v29 :: v30 :: v31 :: v32 :: v33 :: v34 :: v35 :: v36 :: v37 :: v38 :: v39 :: v40 :: v41 :: v42 :: v43 :: v44 :: []), []⟩ V :=
  wp_mono (pl_r5 (K := fun a w => Q0 .normal a w) q0 q1 q2 hk1 hnil hxs hsr hon hn1 hk hO hB hbox hc0 hexit) fun e a w h => by
    cases e <;> first | exact h | exact h.elim

end Go.Proofs.Ytgmljpkenipgjaa.J

/-
  pack: the law's dense lays a row of []int: a region as a declaration of its own (printed by tools/pk_denr.py).
-/
namespace Go.Proofs.Ytgmljpkenipgjaa.J
open Go.RowKit Go.Maps Go.Shelf Pk

attribute [local go_sem] Oper.semAt_some
attribute [local go_sem ↓] Go.wp_at_zero Go.wp_at_succ

noncomputable def plR9 : Code := ((Try.f18.body.map (regionsJ 9)).getD []).getD 0 .skip

set_option maxRecDepth 100000 in
set_option maxHeartbeats 8000000 in
theorem pl_r9 {K : Act → World → Prop} {V : World} {B db ob lb lo N c k n1 cp1 kc : Nat} {ka a1 : Option Addr} {xs rs : List Value} {cs : Array Value}
    {v0 v2 v4 v6 v7 v8 v9 v10 v11 v12 v13 v14 v15 v16 v17 v18 v19 v20 v21 v22 v23 v24 v25 v26 v27 v28 v29 v30 v31 v32 v33 v34 v35 v36 v37 v38 v39 v40 v41 v42 v43 v44 : Value}
    (q0 : V.cell? ⟨ob, 1, none⟩ = some (.slice ka k kc)) (q1 : V.cell? ⟨db, 1, none⟩ = some (.slice (some ⟨lb, lo, none⟩) N c)) (q2 : V.cell? ⟨lb, lo + k, none⟩ = some (.slice a1 n1 cp1)) (hk1 : (k : Int) < (N : Int))
    (hnil : a1 = none → n1 = 0 ∧ cp1 = 0) (hxs : xs.length = n1 * 1) (hsr : ∀ Y, V.grownBy Y none → ∀ ad, a1 = some ad → ∀ j u, xs[j]? = some u → Y.cell? (ad.add j) = some u) (hon : ∀ u ∈ xs, u.oneCell' = true)
    (hn1 : n1 * 8 ≤ 140737488355328) (hk : k ≤ 5864062014634) (hO : V.ownsRow B 24 1 (.slice ka k kc) k rs) (hB : B ≤ V.heap.size) (hbox : V.heap[ob]? = some (.cells cs 42 (0, 0))) (hc0 : cs[1]? = some (.slice ka k kc))
    (hexit : ∀ (Y wB : World) (a6 : Option Addr) (c6 g9 k9 : Nat) (u32 u33 u34 u35 u36 u37 u38 u39 u40 u41 u42 u43 : Value), V.grownBy Y none → Y.ownsRow V.heap.size 3 1 (.slice a6 n1 c6) n1 xs → Y.grownBy wB (Value.slice ka k kc).ownBlock → wB.ownsRow B 24 1 (.slice (some ⟨g9, 0, none⟩) (k + 1) k9) (k + 1) (rs ++ [.slice a6 n1 c6]) → K ⟨List.toArray (v0 :: .pointer (some ⟨db, 0, none⟩) :: v2 :: .pointer (some ⟨ob, 0, none⟩) :: v4 :: .int .i64 (k : Int) :: v6 :: v7 :: v8 :: v9 :: v10 :: v11 :: v12 :: v13 :: v14 :: v15 :: v16 :: v17 :: v18 :: v19 :: v20 :: v21 :: v22 :: v23 :: v24 :: v25 :: v26 :: v27 :: v28 :: v29 :: v30 :: v31 :: u32 :: u33 :: u34 :: u35 :: u36 :: u37 :: u38 :: u39 :: u40 :: u41 :: u42 :: u43 :: v44 :: []), []⟩ (wB.setCell ⟨ob, 1, none⟩ (.slice (some ⟨g9, 0, none⟩) (k + 1) k9))) :
    Code.wp Try.prog plR9 (OnEndJ K) ⟨List.toArray (v0 :: .pointer (some ⟨db, 0, none⟩) :: v2 :: .pointer (some ⟨ob, 0, none⟩) :: v4 :: .int .i64 (k : Int) :: v6 :: v7 :: v8 :: v9 :: v10 :: v11 :: v12 :: v13 :: v14 :: v15 :: v16 :: v17 :: v18 :: v19 :: v20 :: v21 :: v22 :: v23 :: v24 :: v25 :: v26 :: v27 :: v28 :: v29 :: v30 :: v31 :: v32 :: v33 :: v34 :: v35 :: v36 :: v37 :: v38 :: v39 :: v40 :: v41 :: v42 :: v43 :: v44 :: []), []⟩ V := by
  obtain ⟨i0, hi0, hz0, hz1, hz2⟩ := info_parts infoIntD
  obtain ⟨i1, hi1, hy0, hy1, hy2⟩ := info_parts infoRowID
  have hk0 : (0 : Int) ≤ (k : Int) := by omega
  have HSR := hidD hsr
  have HNL := hidD hnil
  have HXL := hidD hxs
  have HON := hidD hon
  have HEX := hidD hexit
  have q0a : ∀ o', (V.alloc o').cell? ⟨ob, 1, none⟩ = some (.slice ka k kc) := fun o' => (World.grownBy_alloc _ o' none).cell q0 (by simp)
  have q1a : ∀ o', (V.alloc o').cell? ⟨db, 1, none⟩ = some (.slice (some ⟨lb, lo, none⟩) N c) := fun o' => (World.grownBy_alloc _ o' none).cell q1 (by simp)
  have q2a : ∀ o', (V.alloc o').cell? ⟨lb, lo + k, none⟩ = some (.slice a1 n1 cp1) := fun o' => (World.grownBy_alloc _ o' none).cell q2 (by simp)
  have HE0 : Hid (∀ Y, (V.alloc (.cells #[] 3)).grownBy Y none → Y.ownsRow V.heap.size 3 1 (.slice (some ⟨V.heap.size, 0, none⟩) 0 0) 0 []) := fun Y hY => keep0 ⟨rfl, .inr ⟨V.heap.size, 0, #[], rfl, Nat.le_refl _, heap_alloc_last V _, Nat.le_refl _, Nat.zero_le _, rfl, rfl⟩⟩ hY
  have HSZ : Hid (∀ Y, V.grownBy Y none → V.heap.size ≤ Y.heap.size) := fun Y hY => hY.size
  have HOO : Hid (∀ Y, V.grownBy Y none → Y.ownsRow B 24 1 (.slice ka k kc) k rs ∧ B ≤ Y.heap.size ∧ Y.cell? ⟨ob, 1, none⟩ = some (.slice ka k kc)) := fun Y hY => ⟨keep0 hO hY, Nat.le_trans hB hY.size, hY.cell q0 (by simp)⟩
  have HST : Hid (∀ Y Z, V.grownBy Y none → Y.grownBy Z (Value.slice ka k kc).ownBlock → Z.cell? ⟨ob, 1, none⟩ = some (.slice ka k kc) ∧ Z.frozen? ⟨ob, 1, none⟩ = false) := fun Y Z hY hZ => by
    have h1 := box_under (keep0 hO hY) (box_kept hbox hY) (by decide) hZ
    exact ⟨by rw [cell_of_row _ _ _ _ _ _ h1]; exact hc0, frozen_of_row _ _ _ _ _ h1⟩
  clear hnil hxs hsr hon hexit hO hB hbox hc0
  conv => arg 2; whnf
  go_region_law (first
    | (refine step_append_srcW rfl (.tmp 34) (.tmp 39) 24 rfl V.heap.size 3 i0 (.int .i64 0) 1 8 Try.underlying24 hi0 hz0 hz1 hz2 rfl (by decide) (.slice (some ⟨V.heap.size, 0, none⟩) 0 0) 0 [] (by first | (simp [Act.eval]; done) | simp [Act.eval, Act.put]) (HE0.out _ (by repeat (first | exact grown_refl _ _ | refine grown_trans ?_ (grown_drewN _ _) | refine grown_trans ?_ (World.grownBy_alloc _ _ none)))) a1 n1 cp1 xs (by first | (simp [Act.eval]; done) | simp [Act.eval, Act.put]) HNL.out HXL.out (HSR.out _ (by repeat (first | exact grown_refl _ _ | refine grown_trans ?_ (grown_drewN _ _) | refine grown_trans ?_ (World.grownBy_alloc _ _ none)))) HON.out (by unfold maxLen; omega) (by omega) (HSZ.out _ (by repeat (first | exact grown_refl _ _ | refine grown_trans ?_ (grown_drewN _ _) | refine grown_trans ?_ (World.grownBy_alloc _ _ none)))) ?_; intro v6 wA hoA hgA; rw [Nat.zero_add, List.nil_append] at hoA; obtain ⟨a6, c6, rfl⟩ := owns_slice hoA; have HGA : Hid (V.grownBy wA none) := grown_new (by repeat (first | exact grown_refl _ _ | refine grown_trans ?_ (grown_drewN _ _) | refine grown_trans ?_ (World.grownBy_alloc _ _ none))) hgA (Nat.le_refl _); have HRA := hidD hoA; have z0 := (HOO.out wA HGA.out).2.2; have z0a : ∀ o', (wA.alloc o').cell? ⟨ob, 1, none⟩ = some (.slice ka k kc) := fun o' => (World.grownBy_alloc _ o' none).cell z0 (by simp); clear hoA hgA)
    | (refine step_append_liesW _ rfl (.tmp 33) (.tmp 41) 40 rfl B 24 i1 (.slice none 0 0) 1 24 Try.underlying40 hi1 hy0 hy1 hy2 rfl (by decide) (.slice ka k kc) k rs (by first | (simp [Act.eval]; done) | simp [Act.eval, Act.put]) (HOO.out _ (grown_trans HGA.out (by repeat (first | exact grown_refl _ _ | refine grown_trans ?_ (grown_drewN _ _) | refine grown_trans ?_ (World.grownBy_alloc _ _ none))))).1 ⟨wA.heap.size, 0, none⟩ 1 1 [.slice a6 n1 c6] (by first | (simp [Act.eval]; done) | simp [Act.eval, Act.put]) rfl (World.news_of_block (heap_alloc_last wA _)) (by simp [Value.oneCell']) (by decide) (by unfold maxLen; omega) (by omega) (HOO.out _ (grown_trans HGA.out (by repeat (first | exact grown_refl _ _ | refine grown_trans ?_ (grown_drewN _ _) | refine grown_trans ?_ (World.grownBy_alloc _ _ none))))).2.1 ?_; intro g9 k9 wB hoB hgB hatB; have HGB := hidD hgB; have HOB := hidD hoB; obtain ⟨y0, y1⟩ := HST.out _ wB (grown_trans HGA.out (by repeat (first | exact grown_refl _ _ | refine grown_trans ?_ (grown_drewN _ _) | refine grown_trans ?_ (World.grownBy_alloc _ _ none)))) hgB; clear hoB hgB hatB)
    | fail)
  all_goals exact HEX.out _ _ _ _ _ _ _ _ _ _ _ _ _ _ _ _ _ _ (grown_trans HGA.out (by repeat (first | exact grown_refl _ _ | refine grown_trans ?_ (grown_drewN _ _) | refine grown_trans ?_ (World.grownBy_alloc _ _ none)))) (keep0 HRA.out (by repeat (first | exact grown_refl _ _ | refine grown_trans ?_ (grown_drewN _ _) | refine grown_trans ?_ (World.grownBy_alloc _ _ none)))) HGB.out HOB.out

theorem pl_r9q {Q0 : Exit → Act → World → Prop} {V : World} {B db ob lb lo N c k n1 cp1 kc : Nat} {ka a1 : Option Addr} {xs rs : List Value} {cs : Array Value}
    {v0 v2 v4 v6 v7 v8 v9 v10 v11 v12 v13 v14 v15 v16 v17 v18 v19 v20 v21 v22 v23 v24 v25 v26 v27 v28 v29 v30 v31 v32 v33 v34 v35 v36 v37 v38 v39 v40 v41 v42 v43 v44 : Value}
    (q0 : V.cell? ⟨ob, 1, none⟩ = some (.slice ka k kc)) (q1 : V.cell? ⟨db, 1, none⟩ = some (.slice (some ⟨lb, lo, none⟩) N c)) (q2 : V.cell? ⟨lb, lo + k, none⟩ = some (.slice a1 n1 cp1)) (hk1 : (k : Int) < (N : Int))
    (hnil : a1 = none → n1 = 0 ∧ cp1 = 0) (hxs : xs.length = n1 * 1) (hsr : ∀ Y, V.grownBy Y none → ∀ ad, a1 = some ad → ∀ j u, xs[j]? = some u → Y.cell? (ad.add j) = some u) (hon : ∀ u ∈ xs, u.oneCell' = true)
    (hn1 : n1 * 8 ≤ 140737488355328) (hk : k ≤ 5864062014634) (hO : V.ownsRow B 24 1 (.slice ka k kc) k rs) (hB : B ≤ V.heap.size) (hbox : V.heap[ob]? = some (.cells cs 42 (0, 0))) (hc0 : cs[1]? = some (.slice ka k kc))
    (hexit : ∀ (Y wB : World) (a6 : Option Addr) (c6 g9 k9 : Nat) (u32 u33 u34 u35 u36 u37 u38 u39 u40 u41 u42 u43 : Value), V.grownBy Y none → Y.ownsRow V.heap.size 3 1 (.slice a6 n1 c6) n1 xs → Y.grownBy wB (Value.slice ka k kc).ownBlock → wB.ownsRow B 24 1 (.slice (some ⟨g9, 0, none⟩) (k + 1) k9) (k + 1) (rs ++ [.slice a6 n1 c6]) → Q0 .normal ⟨List.toArray (v0 :: .pointer (some ⟨db, 0, none⟩) :: v2 :: .pointer (some ⟨ob, 0, none⟩) :: v4 :: .int .i64 (k : Int) :: v6 :: v7 :: v8 :: v9 :: v10 :: v11 :: v12 :: v13 :: v14 :: v15 :: v16 :: v17 :: v18 :: v19 :: v20 :: v21 :: v22 :: v23 :: v24 :: v25 :: v26 :: v27 :: v28 :: v29 :: v30 :: v31 :: u32 :: u33 :: u34 :: u35 :: u36 :: u37 :: u38 :: u39 :: u40 :: u41 :: u42 :: u43 :: v44 :: []), []⟩ (wB.setCell ⟨ob, 1, none⟩ (.slice (some ⟨g9, 0, none⟩) (k + 1) k9))) :
    Code.wp Try.prog plR9 Q0 ⟨List.toArray (v0 :: .pointer (some ⟨db, 0, none⟩) :: v2 :: .pointer (some ⟨ob, 0, none⟩) :: v4 :: .int .i64 (k : Int) :: v6 :: v7 :: v8 :: v9 :: v10 :: v11 :: v12 :: v13 :: v14 :: v15 :: v16 :: v17 :: v18 :: v19 :: v20 :: v21 :: v22 :: v23 :: v24 :: v25 :: v26 :: v27 :: v28 :: v29 :: v30 :: v31 :: v32 :: v33 :: v34 :: v35 :: v36 :: v37 :: v38 :: v39 :: v40 :: v41 :: v42 :: v43 :: v44 :: []), []⟩ V :=
  wp_mono (pl_r9 (K := fun a w => Q0 .normal a w) q0 q1 q2 hk1 hnil hxs hsr hon hn1 hk hO hB hbox hc0 hexit) fun e a w h => by
    cases e <;> first | exact h | exact h.elim

end Go.Proofs.Ytgmljpkenipgjaa.J

/-
  pack: the law's dense: a table copied (printed by tools/pk_dense.py).
-/
namespace Go.Proofs.Ytgmljpkenipgjaa.J
open Go.RowKit Go.Maps Go.Shelf Pk

attribute [local go_sem] Oper.semAt_some

/-- A box beside a store into another. -/
theorem box_set_other {X : World} {b b' : Nat} {o : Obj} (h : X.heap[b']? = some o) (hne : b' ≠ b) (i : Nat) (u : Value) : (X.setCell ⟨b, i, none⟩ u).heap[b']? = some o := ((grown_setCell (w := X) b i u).block b' (Array.getElem?_eq_some_iff.1 h).1 (fun e => hne (by simpa using e))).trans h
theorem zV_one (l : List Int) : ∀ u ∈ zV l, u.oneCell' = true := fun u hu => by
  unfold zV at hu
  obtain ⟨z, _, rfl⟩ := List.mem_map.1 hu
  rfl
theorem ints_cells {w : World} {a : Option Addr} {l : List Int} (h : IntsAt w a l) : ∀ x, a = some x → ∀ j u, (zV l)[j]? = some u → w.cell? (x.add j) = some u := by
  intro x hx j u hu
  rcases h with h | ⟨b, off, e, hc⟩
  · rw [h] at hu; simp [zV] at hu
  · rw [hx] at e
    simp only [Option.some.injEq] at e
    subst e
    rw [Addr.add_mid]
    have hj : j < l.length := by have := (List.getElem?_eq_some_iff.1 hu).1; unfold zV at this; simpa using this
    rw [zV_at hj] at hu
    rw [← Option.some.inj hu]
    exact hc j hj
/-- What dense tells: a table of one's own. -/
def DenTold (w : World) (N M : Nat) (R : Nat → List It) (Q : Nat → List Int) (e : Ending) (y : World) : Prop := ∃ ka kc ga gc ua uc va vc, e = .returned (.agg #[.slice ka N kc, .slice ga M gc]) ∧ RsAt y ka N R ua uc ∧ RiAt y ga M Q va vc ∧ w.grownBy y none
theorem results_dense (tmps : Array Value) (w : World) (g : Nat) (cs : Array Value) (h2 : tmps.getD 2 undef = .pointer (some ⟨g, 0, none⟩)) (hg : w.heap[g]? = some (.cells cs 42 (0, 0))) (hs : cs.size = 2) :
    (results Try.f18 tmps).run Try.prog w = .ok (.agg cs) w := by
  have h2' : tmps[2]?.getD undef = .pointer (some ⟨g, 0, none⟩) := by simpa using h2
  have hl := run_loadVar_row (P := Try.prog) w g 42 42 cs (0, 0) _ hg Try.underlying42 rfl (by rw [hs]; kernel_rfl)
  simp [results, Try.results18, h2', asAddr, hl]

set_option maxRecDepth 100000 in
set_option maxHeartbeats 8000000 in
theorem dense_any (a g : Option Addr) (N M c d : Nat) (R : Nat → List It) (Q : Nat → List Int) (la lg : Nat → Option Addr) (lc ld : Nat → Nat) (w : World) (hR : RsAt w a N R la lc) (hQ : RiAt w g M Q lg ld) (hnR : ∀ i, i < N → la i = none → (R i).length = 0 ∧ lc i = 0) (hnQ : ∀ i, i < M → lg i = none → (Q i).length = 0 ∧ ld i = 0) (hN : N ≤ 5864062014634) (hM : M ≤ 5864062014634) (hl : ∀ i, i < N → (R i).length ≤ 8796093021952) (hl2 : ∀ i, i < M → (Q i).length ≤ 17592186044416) :
    Calls Try.prog 18 #[.agg #[.slice a N c, .slice g M d]] w fun e y => DenTold w N M R Q e y := by
  have HR : Hid (∀ X, w.grownBy X none → RsAt X a N R la lc) := fun X hX => hR.kept hX
  have HQ : Hid (∀ X, w.grownBy X none → RiAt X g M Q lg ld) := fun X hX => hQ.kept hX
  have HL := hidM hl
  have HL2 := hidM hl2
  have HNR := hidM hnR
  have HNQ := hidM hnQ
  have hB0 : w.grownBy (w.alloc (Obj.cells #[Value.slice a N c, Value.slice g M d] 42)) none := World.grownBy_alloc _ _ none
  have hB1 : w.grownBy ((w.alloc (Obj.cells #[Value.slice a N c, Value.slice g M d] 42)).alloc (Obj.cells #[Value.slice none 0 0, Value.slice none 0 0] 42)) none := grown_trans hB0 (World.grownBy_alloc _ _ none)
  obtain ⟨X, hX⟩ : ∃ X, X = (((w.alloc (Obj.cells #[Value.slice a N c, Value.slice g M d] 42)).alloc (Obj.cells #[Value.slice none 0 0, Value.slice none 0 0] 42)).alloc (Obj.cells #[Value.slice none 0 0, Value.slice none 0 0] 42)) := ⟨_, rfl⟩
  have HGX : Hid (w.grownBy X none) := by show w.grownBy _ _; rw [hX]; exact grown_trans hB1 (World.grownBy_alloc _ _ none)
  have HX0 : Hid (X.heap[w.heap.size]? = some (.cells #[.slice a N c, .slice g M d] 42 (0, 0))) := by show _ = _; rw [hX]; exact box_kept (box_kept (heap_alloc_last w _) (World.grownBy_alloc _ _ none)) (World.grownBy_alloc _ _ none)
  have HX1 : Hid (X.heap[w.heap.size + 1]? = some (.cells #[.slice none 0 0, .slice none 0 0] 42 (0, 0))) := by
    show _ = _
    rw [hX]
    have h := heap_alloc_last (w.alloc (Obj.cells #[Value.slice a N c, Value.slice g M d] 42)) (Obj.cells #[Value.slice none 0 0, Value.slice none 0 0] 42)
    rw [show (w.alloc (Obj.cells #[Value.slice a N c, Value.slice g M d] 42)).heap.size = w.heap.size + 1 by simp] at h
    exact box_kept h (World.grownBy_alloc _ _ none)
  have HX2 : Hid (X.heap[w.heap.size + 1 + 1]? = some (.cells #[.slice none 0 0, .slice none 0 0] 42 (0, 0))) := by
    show _ = _
    rw [hX]
    have h := heap_alloc_last ((w.alloc (Obj.cells #[Value.slice a N c, Value.slice g M d] 42)).alloc (Obj.cells #[Value.slice none 0 0, Value.slice none 0 0] 42)) (Obj.cells #[Value.slice none 0 0, Value.slice none 0 0] 42)
    rw [show ((w.alloc (Obj.cells #[Value.slice a N c, Value.slice g M d] 42)).alloc (Obj.cells #[Value.slice none 0 0, Value.slice none 0 0] 42)).heap.size = w.heap.size + 1 + 1 by simp] at h
    exact h
  clear hR hQ hl hl2 hB0 hB1 hnR hnQ
  go_enter Try.func18, Try.ntmps18
  go_wp2_with fail
  rw [← hX]
  clear hX
  obtain ⟨db, hdb⟩ : ∃ v, v = w.heap.size := ⟨_, rfl⟩
  have HDB : Hid (db = w.heap.size) := hdb
  rw [← hdb] at HX0 HX1 HX2 ⊢
  clear hdb
  go_loopg [4] N (fun gk v4 wr => ∃ (k : Nat) (ka : Option Addr) (kc : Nat) (ua : Nat → Option Addr) (uc : Nat → Nat), k ≤ N ∧ gk = N - k ∧ v4 = .int .i64 k ∧ LvP wr db 56 52 2 ka kc k (fun j => (R j).length) (fun j => itsV (R j)) ua uc ∧ wr.heap[db + 1 + 1]? = some (.cells #[.slice ka k kc, .slice none 0 0] 42 (0, 0)) ∧ wr.heap[db + 1]? = some (.cells #[.slice none 0 0, .slice none 0 0] 42 (0, 0)) ∧ wr.heap[db]? = some (.cells #[.slice a N c, .slice g M d] 42 (0, 0)) ∧ w.grownBy wr none)
  case atStart => exact ⟨0, none, 0, fun _ => none, fun _ => 0, Nat.zero_le _, rfl, rfl, LvP.nothing _ _ _ _ _ _ _, HX2.out, HX1.out, HX0.out, HGX.out⟩
  case round =>
    clear HX0 HX1 HX2 HGX
    obtain ⟨k, ka, kc, ua, uc, hk, hgk, rfl, hp, hb2, hb1, hb0, hg⟩ := hrel
    have HGK : Hid (gk = N - k) := hgk
    have HP := hidM hp
    have HB2 := hidM hb2
    have HB1 := hidM hb1
    have HB0 := hidM hb0
    have HG := hidM hg
    have q0 : wr.cell? ⟨db, 0, none⟩ = some (.slice a N c) := by rw [cell_of_row _ _ _ _ _ _ hb0]; rfl
    have q1 : wr.cell? ⟨db, 1, none⟩ = some (.slice g M d) := by rw [cell_of_row _ _ _ _ _ _ hb0]; rfl
    have p0 : wr.cell? ⟨db + 1 + 1, 0, none⟩ = some (.slice ka k kc) := by rw [cell_of_row _ _ _ _ _ _ hb2]; rfl
    have hdw : db ≤ wr.heap.size := by rw [HDB.out]; exact hg.size
    clear hgk hp hb0 hb1 hb2
    by_cases hlt : k < N
    · have hkd : decide (k < N) = true := decide_eq_true hlt
      have hk0 : (0 : Int) ≤ (k : Int) := by omega
      have hk1 : (k : Int) < (N : Int) := by omega
      obtain ⟨lb, lo, rfl, c1⟩ : ∃ lb lo, a = some ⟨lb, lo, none⟩ ∧ wr.cell? ⟨lb, lo + k, none⟩ = some (.slice (la k) (R k).length (lc k)) := by
        rcases (HR.out wr hg).1 with h | ⟨lb, lo, e, h⟩
        · omega
        · exact ⟨lb, lo, e, h k hlt⟩
      have hbd := HL.out k hlt
      have hk5 : k ≤ 5864062014634 := by omega
      clear hg
      conv in (Code.region 5 _ _) => change plR5
      go_wp2_with fail
      refine pl_r5q (B := db) (xs := itsV (R k)) (cs := #[.slice ka k kc, .slice none 0 0]) p0 q0 c1 hk1 (HNR.out k hlt) (itsV_length _) (fun Y hY => its_cells ((HR.out Y (grown_trans HG.out hY)).2 k hlt)) (itsV_one _) (by omega) hk5 HP.out.out hdw HB2.out rfl ?_
      intro Y wB a6 c6 g9 k9 z13 z14 z15 z16 z17 z18 z19 z20 z21 z22 z23 z24 hY hr6 hgB hoB
      have h1 := HP.out.kept hY
      have h2 := h1.push (by decide) (owns_lowP hr6 hdw) hgB hoB
      have e2 := box_under h1.out (box_kept HB2.out hY) (by decide) hgB
      have HP2 := hidM (h2.box (Y := wB.setCell ⟨db + 1 + 1, 0, none⟩ (.slice (some ⟨g9, 0, none⟩) (k + 1) k9)) e2 (by decide) (by decide) (grown_setCell _ _ _))
      have HE2 : Hid ((wB.setCell ⟨db + 1 + 1, 0, none⟩ (.slice (some ⟨g9, 0, none⟩) (k + 1) k9)).heap[db + 1 + 1]? = some (.cells #[.slice (some ⟨g9, 0, none⟩) (k + 1) k9, .slice none 0 0] 42 (0, 0))) := heap_setCell_same _ _ 0 _ _ (.slice (some ⟨g9, 0, none⟩) (k + 1) k9) e2
      have HGB : Hid (w.grownBy wB none) := grown_row (grown_trans HG.out hY) h1.out (by rw [HDB.out]; exact Nat.le_refl _) hgB
      have HE1 := hidM (box_under h1.out (box_kept HB1.out hY) (by decide) hgB)
      have HE0 := hidM (box_under h1.out (box_kept HB0.out hY) (by decide) hgB)
      clear h1 h2 e2 hY hr6 hgB hoB c1
      go_wp2_with fail
      go_roundg (N - (k + 1))
      case measure => have := HGK.out; omega
      case rel => exact ⟨k + 1, _, _, _, _, by omega, rfl, by go_num, HP2.out, HE2.out, box_set_other HE1.out (by omega) _ _, box_set_other HE0.out (by omega) _ _, grown_new HGB.out (grown_setCell _ _ _) (by have := HDB.out; omega)⟩
    · have hkd : decide (k < N) = false := decide_eq_false hlt
      have hkN : k = N := by omega
      subst hkN
      clear hg
      go_wp2_with fail
      clear p0 q0 q1 HGK hdw hkd hlt
      generalize wr = W0 at *
      go_loopg [5] M (fun gk v5 wr => ∃ (j : Nat) (ga : Option Addr) (gc : Nat) (va : Nat → Option Addr) (vc : Nat → Nat), j ≤ M ∧ gk = M - j ∧ v5 = .int .i64 j ∧ LvP wr db 24 3 1 ga gc j (fun j => (Q j).length) (fun j => zV (Q j)) va vc ∧ LvP wr db 56 52 2 ka kc k (fun j => (R j).length) (fun j => itsV (R j)) ua uc ∧ wr.heap[db + 1 + 1]? = some (.cells #[.slice ka k kc, .slice ga j gc] 42 (0, 0)) ∧ wr.heap[db + 1]? = some (.cells #[.slice none 0 0, .slice none 0 0] 42 (0, 0)) ∧ wr.heap[db]? = some (.cells #[.slice a k c, .slice g M d] 42 (0, 0)) ∧ w.grownBy wr none)
      case atStart => exact ⟨0, none, 0, fun _ => none, fun _ => 0, Nat.zero_le _, rfl, rfl, LvP.nothing _ _ _ _ _ _ _, HP.out, HB2.out, HB1.out, HB0.out, HG.out⟩
      case round =>
        clear HB0 HB1 HB2 HG HP
        obtain ⟨j, ga, gc, va, vc, hj, hgj, rfl, hq, hp, hb2, hb1, hb0, hg⟩ := hrel
        have HGJ : Hid (gk = M - j) := hgj
        have HP := hidM hp
        have HV := hidM hq
        have HB2 := hidM hb2
        have HB1 := hidM hb1
        have HB0 := hidM hb0
        have HG := hidM hg
        have q1 : wr.cell? ⟨db, 1, none⟩ = some (.slice g M d) := by rw [cell_of_row _ _ _ _ _ _ hb0]; rfl
        have p0 : wr.cell? ⟨db + 1 + 1, 1, none⟩ = some (.slice ga j gc) := by rw [cell_of_row _ _ _ _ _ _ hb2]; rfl
        have hdw : db ≤ wr.heap.size := by rw [HDB.out]; exact hg.size
        clear hgj hp hq hb0 hb1
        by_cases hlt : j < M
        · have hkd : decide (j < M) = true := decide_eq_true hlt
          have hk0 : (0 : Int) ≤ (j : Int) := by omega
          have hk1 : (j : Int) < (M : Int) := by omega
          obtain ⟨lb, lo, rfl, c1⟩ : ∃ lb lo, g = some ⟨lb, lo, none⟩ ∧ wr.cell? ⟨lb, lo + j, none⟩ = some (.slice (lg j) (Q j).length (ld j)) := by
            rcases (HQ.out wr hg).1 with h | ⟨lb, lo, e, h⟩
            · omega
            · exact ⟨lb, lo, e, h j hlt⟩
          have hbd := HL2.out j hlt
          have hk5 : j ≤ 5864062014634 := by omega
          clear hg hb2
          conv in (Code.region 9 _ _) => change plR9
          go_wp2_with fail
          refine pl_r9q (B := db) (xs := zV (Q j)) (cs := #[.slice ka k kc, .slice ga j gc]) p0 q1 c1 hk1 (HNQ.out j hlt) (by unfold zV; simp) (fun Y hY => ints_cells ((HQ.out Y (grown_trans HG.out hY)).2 j hlt)) (zV_one _) (by omega) hk5 HV.out.out hdw HB2.out rfl ?_
          intro Y wB a6 c6 g9 k9 z13 z14 z15 z16 z17 z18 z19 z20 z21 z22 z23 z24 hY hr6 hgB hoB
          have h1 := HV.out.kept hY
          have h2 := h1.push (by decide) (owns_lowP hr6 hdw) hgB hoB
          have h3 := (HP.out.kept hY).beside h1.out (by decide) (by decide) hgB
          have e2 := box_under h1.out (box_kept HB2.out hY) (by decide) hgB
          have HV2 := hidM (h2.box (Y := wB.setCell ⟨db + 1 + 1, 1, none⟩ (.slice (some ⟨g9, 0, none⟩) (j + 1) k9)) e2 (by decide) (by decide) (grown_setCell _ _ _))
          have HP2 := hidM (h3.box (Y := wB.setCell ⟨db + 1 + 1, 1, none⟩ (.slice (some ⟨g9, 0, none⟩) (j + 1) k9)) e2 (by decide) (by decide) (grown_setCell _ _ _))
          have HE2 : Hid ((wB.setCell ⟨db + 1 + 1, 1, none⟩ (.slice (some ⟨g9, 0, none⟩) (j + 1) k9)).heap[db + 1 + 1]? = some (.cells #[.slice ka k kc, .slice (some ⟨g9, 0, none⟩) (j + 1) k9] 42 (0, 0))) := heap_setCell_same _ _ 1 _ _ (.slice (some ⟨g9, 0, none⟩) (j + 1) k9) e2
          have HGB : Hid (w.grownBy wB none) := grown_row (grown_trans HG.out hY) h1.out (by rw [HDB.out]; exact Nat.le_refl _) hgB
          have HE1 := hidM (box_under h1.out (box_kept HB1.out hY) (by decide) hgB)
          have HE0 := hidM (box_under h1.out (box_kept HB0.out hY) (by decide) hgB)
          clear h1 h2 h3 e2 hY hr6 hgB hoB c1
          go_wp2_with fail
          go_roundg (M - (j + 1))
          case measure => have := HGJ.out; omega
          case rel => exact ⟨j + 1, _, _, _, _, by omega, rfl, by go_num, HV2.out, HP2.out, HE2.out, box_set_other HE1.out (by omega) _ _, box_set_other HE0.out (by omega) _ _, grown_new HGB.out (grown_setCell _ _ _) (by have := HDB.out; omega)⟩
        · have hkd : decide (j < M) = false := decide_eq_false hlt
          have hjM : j = M := by omega
          subst hjM
          have l0 : wr.cell? ⟨db + 1 + 1, 0, none⟩ = some (.slice ka k kc) := by rw [cell_of_row _ _ _ _ _ _ hb2]; rfl
          have s0 : wr.cell? ⟨db + 1, 0, none⟩ = some (.slice none 0 0) := by rw [cell_of_row _ _ _ _ _ _ HB1.out]; rfl
          have s1 : wr.cell? ⟨db + 1, 1, none⟩ = some (.slice none 0 0) := by rw [cell_of_row _ _ _ _ _ _ HB1.out]; rfl
          have f0 : wr.frozen? ⟨db + 1, 0, none⟩ = false := frozen_of_row _ _ _ _ _ HB1.out
          have f1 : wr.frozen? ⟨db + 1, 1, none⟩ = false := frozen_of_row _ _ _ _ _ HB1.out
          clear hg hb2
          go_wp2_with fail
          have h1 : (wr.setCell ⟨db + 1, 0, none⟩ (.slice ka k kc)).heap[db + 1]? = some (.cells #[.slice ka k kc, .slice none 0 0] 42 (0, 0)) := heap_setCell_same _ _ 0 _ _ (.slice ka k kc) HB1.out
          have h2 : ((wr.setCell ⟨db + 1, 0, none⟩ (.slice ka k kc)).setCell ⟨db + 1, 1, none⟩ (.slice ga j gc)).heap[db + 1]? = some (.cells #[.slice ka k kc, .slice ga j gc] 42 (0, 0)) := heap_setCell_same _ _ 1 _ _ (.slice ga j gc) h1
          have h3 := (HP.out.box HB1.out (by decide) (by decide) (grown_setCell (db + 1) 0 (.slice ka k kc))).box h1 (by decide) (by decide) (grown_setCell (db + 1) 1 (.slice ga j gc))
          have h4 := (HV.out.box HB1.out (by decide) (by decide) (grown_setCell (db + 1) 0 (.slice ka k kc))).box h1 (by decide) (by decide) (grown_setCell (db + 1) 1 (.slice ga j gc))
          exact ⟨rfl, _, results_dense _ _ (db + 1) _ rfl h2 rfl, ka, kc, ga, gc, ua, uc, va, vc, rfl, h3.rs, h4.ri, grown_new (grown_new HG.out (grown_setCell _ _ _) (by have := HDB.out; omega)) (grown_setCell _ _ _) (by have := HDB.out; omega)⟩

end Go.Proofs.Ytgmljpkenipgjaa.J

/-
  pack: eight rows of a packed table in memory; what spoiling leaves.
-/
namespace Go.Proofs.Ytgmljpkenipgjaa.J
open Go.RowKit Go.Maps Go.Shelf Pk

attribute [local go_sem] Oper.semAt_some

/-- A world, cut off. -/
def cutW (Z : World) (m : Nat) : World := { Z with heap := Z.heap.extract 0 m }
/-- Only blocks from lo below hi may have turned. -/
def Unch (X Y : World) (lo hi : Nat) : Prop := Y.os = X.os ∧ Y.tape = X.tape ∧ Y.output = X.output ∧ X.heap.size ≤ Y.heap.size ∧ ∀ b, b < X.heap.size → (b < lo ∨ hi ≤ b) → Y.heap[b]? = X.heap[b]?
/-- The rows of what was packed, as the program leaves them. -/
structure PmAt (X : World) (B H : Nat) (L : Nat → List Int) (af : Nat → Option Addr) (cf : Nat → Nat) (m1 b2 m2 : Nat) : Prop where
  d : X.ownsRow B 3 1 (.slice (af 0) (L 0).length (cf 0)) (L 0).length (zV (L 0))
  du : ∀ b, (Value.slice (af 0) (L 0).length (cf 0)).ownBlock = some b → b < m1 ∧ b < b2 ∧ b < H
  a : TrZ X m1 3 (fun j => L (j + 1)) (fun j => af (j + 1)) (fun j => cf (j + 1))
  au : ∀ j, j < 3 → ∀ b, (Value.slice (af (j + 1)) (L (j + 1)).length (cf (j + 1))).ownBlock = some b → b < b2 ∧ b < H
  t : X.ownsRow b2 3 1 (.slice (af 4) (L 4).length (cf 4)) (L 4).length (zV (L 4))
  tu : ∀ b, (Value.slice (af 4) (L 4).length (cf 4)).ownBlock = some b → b < m2 ∧ b < H
  g : TrZ X m2 3 (fun j => L (j + 5)) (fun j => af (j + 5)) (fun j => cf (j + 5))
  gu : ∀ j, j < 3 → ∀ b, (Value.slice (af (j + 5)) (L (j + 5)).length (cf (j + 5))).ownBlock = some b → b < H
  s : B ≤ m1 ∧ B ≤ b2 ∧ b2 ≤ m2 ∧ B ≤ H
/-- The rows of what the document packs. -/
structure PxAt (X : World) (B : Nat) (L : Nat → List Int) (af : Nat → Option Addr) (cf : Nat → Nat) : Prop where
  d : X.ownsRow B 3 1 (.slice (af 0) (L 0).length (cf 0)) (L 0).length (zV (L 0))
  a : TrZ X B 3 (fun j => L (j + 1)) (fun j => af (j + 1)) (fun j => cf (j + 1))
  t : X.ownsRow B 3 1 (.slice (af 4) (L 4).length (cf 4)) (L 4).length (zV (L 4))
  g : TrZ X B 3 (fun j => L (j + 5)) (fun j => af (j + 5)) (fun j => cf (j + 5))
/-- Eight rows of numbers. -/
def InP (X : World) (L : Nat → List Int) (af : Nat → Option Addr) : Prop := ∀ j, j < 8 → IntsAt X (af j) (L j)
theorem inP_of {X : World} {L : Nat → List Int} {af : Nat → Option Addr} (hd : IntsAt X (af 0) (L 0)) (ha : ∀ j, j < 3 → IntsAt X (af (j + 1)) (L (j + 1))) (ht : IntsAt X (af 4) (L 4)) (hg : ∀ j, j < 3 → IntsAt X (af (j + 5)) (L (j + 5))) : InP X L af := fun j hj => by
  match j, hj with
  | 0, _ => exact hd
  | 1, _ => exact ha 0 (by decide)
  | 2, _ => exact ha 1 (by decide)
  | 3, _ => exact ha 2 (by decide)
  | 4, _ => exact ht
  | 5, _ => exact hg 0 (by decide)
  | 6, _ => exact hg 1 (by decide)
  | 7, _ => exact hg 2 (by decide)
section
variable {X Y : World} {B H : Nat} {L : Nat → List Int} {af : Nat → Option Addr} {cf : Nat → Nat} {m1 b2 m2 : Nat}
theorem PmAt.ints (h : PmAt X B H L af cf m1 b2 m2) : InP X L af := inP_of (owned_intsD h.d rfl) (fun _ hj => h.a.ints hj) (owned_intsD h.t rfl) (fun _ hj => h.g.ints hj)
theorem PxAt.ints (h : PxAt X B L af cf) : InP X L af := inP_of (owned_intsD h.d rfl) (fun _ hj => h.a.ints hj) (owned_intsD h.t rfl) (fun _ hj => h.g.ints hj)
theorem PmAt.kept (h : PmAt X B H L af cf m1 b2 m2) (hg : X.grownBy Y none) : PmAt Y B H L af cf m1 b2 m2 := ⟨keep0 h.d hg, h.du, h.a.kept hg, h.au, keep0 h.t hg, h.tu, h.g.kept hg, h.gu, h.s⟩
theorem PxAt.kept (h : PxAt X B L af cf) (hg : X.grownBy Y none) : PxAt Y B L af cf := ⟨keep0 h.d hg, h.a.kept hg, keep0 h.t hg, h.g.kept hg⟩
theorem PmAt.box {b : Nat} {cs : Array Value} {t : TypeId} (h : PmAt X B H L af cf m1 b2 m2) (hb : X.heap[b]? = some (.cells cs t (0, 0))) (ht : t ≠ 3) (hg : X.grownBy Y (some b)) : PmAt Y B H L af cf m1 b2 m2 := ⟨row_beside h.d hb ht hg, h.du, h.a.beside hb ht hg, h.au, row_beside h.t hb ht hg, h.tu, h.g.beside hb ht hg, h.gu, h.s⟩
theorem PxAt.box {b : Nat} {cs : Array Value} {t : TypeId} (h : PxAt X B L af cf) (hb : X.heap[b]? = some (.cells cs t (0, 0))) (ht : t ≠ 3) (hg : X.grownBy Y (some b)) : PxAt Y B L af cf := ⟨row_beside h.d hb ht hg, h.a.beside hb ht hg, row_beside h.t hb ht hg, h.g.beside hb ht hg⟩
/-- What the first spoiling leaves of it. -/
structure PmB (X : World) (B H : Nat) (L : Nat → List Int) (af : Nat → Option Addr) (cf : Nat → Nat) (b2 m2 : Nat) : Prop where
  d : X.ownsRow B 3 1 (.slice (af 0) (L 0).length (cf 0)) (L 0).length (zV (L 0))
  du : ∀ b, (Value.slice (af 0) (L 0).length (cf 0)).ownBlock = some b → b < b2 ∧ b < H
  t : X.ownsRow b2 3 1 (.slice (af 4) (L 4).length (cf 4)) (L 4).length (zV (L 4))
  tu : ∀ b, (Value.slice (af 4) (L 4).length (cf 4)).ownBlock = some b → b < m2 ∧ b < H
  g : TrZ X m2 3 (fun j => L (j + 5)) (fun j => af (j + 5)) (fun j => cf (j + 5))
  gu : ∀ j, j < 3 → ∀ b, (Value.slice (af (j + 5)) (L (j + 5)).length (cf (j + 5))).ownBlock = some b → b < H
  s : B ≤ b2 ∧ b2 ≤ m2 ∧ B ≤ H
/-- And the second. -/
structure PmC (X : World) (B H : Nat) (L : Nat → List Int) (af : Nat → Option Addr) (cf : Nat → Nat) (b2 : Nat) : Prop where
  d : X.ownsRow B 3 1 (.slice (af 0) (L 0).length (cf 0)) (L 0).length (zV (L 0))
  du : ∀ b, (Value.slice (af 0) (L 0).length (cf 0)).ownBlock = some b → b < b2 ∧ b < H
  t : X.ownsRow b2 3 1 (.slice (af 4) (L 4).length (cf 4)) (L 4).length (zV (L 4))
  tu : ∀ b, (Value.slice (af 4) (L 4).length (cf 4)).ownBlock = some b → b < H
  s : B ≤ b2 ∧ B ≤ H
theorem PmB.kept (h : PmB X B H L af cf b2 m2) (hg : X.grownBy Y none) : PmB Y B H L af cf b2 m2 := ⟨keep0 h.d hg, h.du, keep0 h.t hg, h.tu, h.g.kept hg, h.gu, h.s⟩
theorem PmC.kept (h : PmC X B H L af cf b2) (hg : X.grownBy Y none) : PmC Y B H L af cf b2 := ⟨keep0 h.d hg, h.du, keep0 h.t hg, h.tu, h.s⟩
end
section
variable {Z : World} {B H : Nat} {L : Nat → List Int} {af : Nat → Option Addr} {cf : Nat → Nat} {m1 b2 m2 : Nat}
end

/-- The agg of eight rows. -/
abbrev agg8 (n : Nat → Nat) (af : Nat → Option Addr) (cf : Nat → Nat) : Value := .agg #[.slice (af 0) (n 0) (cf 0), .slice (af 1) (n 1) (cf 1), .slice (af 2) (n 2) (cf 2), .slice (af 3) (n 3) (cf 3), .slice (af 4) (n 4) (cf 4), .slice (af 5) (n 5) (cf 5), .slice (af 6) (n 6) (cf 6), .slice (af 7) (n 7) (cf 7)]
open Classical in
/-- The eight lists that Pack tells. -/
noncomputable def pL (N M : Nat) (R : Nat → List It) (Q : Nat → List Int) : Nat → List Int := if MayT N M R Q then fun j => if j = 0 then defL R N else if j < 4 then lyS (lay (fun i => rowA (R i)) N) (j - 1) else if j = 4 then tgtL Q N (Q 0).length else lyS (lay (fun i => colA Q N i) (Q 0).length) (j - 5) else fun _ => []
open Classical in
/-- What Pack tells besides. -/
noncomputable def pE (N M : Nat) (R : Nat → List It) (Q : Nat → List Int) : Int := if MayT N M R Q then 0 else 1
theorem pL_len (N M : Nat) (R : Nat → List It) (Q : Nat → List Int) : ∀ j, j < 8 → (pL N M R Q j).length ≤ 1048576 := fun j hj => by
  unfold pL
  by_cases h : MayT N M R Q
  · rw [if_pos h]
    have hA := QL_len (fun i => rowA (R i)) N
    have hG := QL_len (fun i => colA Q N i) (Q 0).length
    unfold QL at hA hG
    rw [if_pos h.rows] at hA
    rw [if_pos h.cols] at hG
    have hN : N ≤ 256 := h.1
    have hT : (Q 0).length ≤ 65 := h.2.2.2.1.2.2.1
    match j, hj with
    | 0, _ => show (defL R N).length ≤ _; rw [defL_len]; omega
    | 1, _ => exact hA 0 (by decide)
    | 2, _ => exact hA 1 (by decide)
    | 3, _ => exact hA 2 (by decide)
    | 4, _ => show (tgtL Q N (Q 0).length).length ≤ _; rw [tgtL_len]; omega
    | 5, _ => exact hG 0 (by decide)
    | 6, _ => exact hG 1 (by decide)
    | 7, _ => exact hG 2 (by decide)
  · rw [if_neg h]
    exact Nat.zero_le _
/-- Eight addresses, or what else there are eight of. -/
def eight {α : Type} (d : α) (a : Nat → α) (t : α) (g : Nat → α) : Nat → α := fun j => if j = 0 then d else if j < 4 then a (j - 1) else if j = 4 then t else g (j - 5)
theorem tr3 {X : World} {B : Nat} {Q Q' : Nat → List Int} {ua ua' : Nat → Option Addr} {uc uc' : Nat → Nat} (h : TrZ X B 3 Q ua uc) (e : ∀ j, j < 3 → Q' j = Q j ∧ ua' j = ua j ∧ uc' j = uc j := by intro j hj; match j, hj with | 0, _ => exact ⟨rfl, rfl, rfl⟩ | 1, _ => exact ⟨rfl, rfl, rfl⟩ | 2, _ => exact ⟨rfl, rfl, rfl⟩) : TrZ X B 3 Q' ua' uc' := ⟨fun j hj => by rw [(e j hj).1, (e j hj).2.1, (e j hj).2.2]; exact h.inn j hj, fun i j hi hj hne => by rw [(e j hj).1, (e j hj).2.1, (e j hj).2.2, (e i hi).1, (e i hi).2.1, (e i hi).2.2]; exact h.sep i j hi hj hne⟩
theorem pm_uni {N M : Nat} {R : Nat → List It} {Q : Nat → List Int} {w y : World} {e : Ending} (h : PkTold N M R Q w e y) : ∃ (af : Nat → Option Addr) (cf : Nat → Nat) (m1 b2 m2 : Nat), e = .returned (.tuple #[agg8 (fun j => (pL N M R Q j).length) af cf, .int .i64 (pE N M R Q)]) ∧ PmAt y w.heap.size y.heap.size (pL N M R Q) af cf m1 b2 m2 ∧ w.grownBy y none := by
  rcases h with ⟨h1, rfl, h3⟩ | ⟨h1, m1, da, dc, ua, uc, b2, m2, ga, gc, va, vc, rfl, ⟨s1, s2, s3⟩, ⟨ho, hu⟩, ⟨ht, hv⟩, ⟨ho2, hu2⟩, ht2, hg⟩
  · have hno : ∀ b, (Value.slice (none : Option Addr) 0 0).ownBlock = some b → False := fun b e => by simp [Value.ownBlock] at e
    refine ⟨fun _ => none, fun _ => 0, w.heap.size, w.heap.size, w.heap.size, ?_, ?_, h3⟩
    · unfold pL pE
      rw [if_neg h1, if_neg h1]
      rfl
    · unfold pL
      rw [if_neg h1]
      exact ⟨World.ownsRow_nil _ _ _ _, fun b e => (hno b e).elim, ⟨fun _ _ => World.ownsRow_nil _ _ _ _, fun _ _ _ _ _ => .inl rfl⟩, fun _ _ b e => (hno b e).elim, World.ownsRow_nil _ _ _ _, fun b e => (hno b e).elim, ⟨fun _ _ => World.ownsRow_nil _ _ _ _, fun _ _ _ _ _ => .inl rfl⟩, fun _ _ b e => (hno b e).elim, ⟨Nat.le_refl _, Nat.le_refl _, Nat.le_refl _, h3.size⟩⟩
  · refine ⟨eight da ua ga va, eight dc uc gc vc, m1, b2, m2, ?_, ?_, hg⟩
    · unfold pL pE
      rw [if_pos h1, if_pos h1]
      rfl
    · unfold pL
      rw [if_pos h1]
      exact ⟨ho, fun b e => ⟨(hu b e).1, (hu b e).2, owns_under ho b e⟩, tr3 ht, fun j hj b e => by
        match j, hj with
        | 0, _ => exact ⟨hv 0 (by decide) b e, owns_under (ht.inn 0 (by decide)) b e⟩
        | 1, _ => exact ⟨hv 1 (by decide) b e, owns_under (ht.inn 1 (by decide)) b e⟩
        | 2, _ => exact ⟨hv 2 (by decide) b e, owns_under (ht.inn 2 (by decide)) b e⟩, ho2, fun b e => ⟨hu2 b e, owns_under ho2 b e⟩, tr3 ht2, fun j hj b e => by
        match j, hj with
        | 0, _ => exact owns_under (ht2.inn 0 (by decide)) b e
        | 1, _ => exact owns_under (ht2.inn 1 (by decide)) b e
        | 2, _ => exact owns_under (ht2.inn 2 (by decide)) b e, ⟨s1, s2, s3, hg.size⟩⟩
end Go.Proofs.Ytgmljpkenipgjaa.J

/-
  pack: what laid rows say, beside what the table does: pure.
-/
namespace Go.Proofs.Ytgmljpkenipgjaa.J
open Go.RowKit Go.Maps Go.Shelf Pk

theorem rowT_mem {m : Int} {l : List It} {e : It} : ∀ {j : Nat}, e ∈ rowT m l j → ∃ t : Nat, t < j ∧ keepA m (l.getD t (0, 0)) = true ∧ e = ((t : Int), codeF (l.getD t (0, 0)).1 (l.getD t (0, 0)).2)
  | 0, h => by cases h
  | j + 1, h => by
    rw [rowT_snoc] at h
    rcases List.mem_append.1 h with h | h
    · obtain ⟨t, h1, h2⟩ := rowT_mem h
      exact ⟨t, by omega, h2⟩
    · split at h
      · rename_i hk
        exact ⟨j, by omega, hk, by simpa using h⟩
      · cases h
theorem mem_rowT {m : Int} {l : List It} {t : Nat} (hk : keepA m (l.getD t (0, 0)) = true) : ∀ {j : Nat}, t < j → ((t : Int), codeF (l.getD t (0, 0)).1 (l.getD t (0, 0)).2) ∈ rowT m l j
  | j + 1, h => by
    rw [rowT_snoc]
    by_cases e : t = j
    · subst e
      rw [if_pos hk]
      exact List.mem_append_right _ (by simp)
    · exact List.mem_append_left _ (mem_rowT hk (by omega))
theorem colT_mem {Q : Nat → List Int} {nn : Nat} {m : Int} {e : It} : ∀ {j : Nat}, e ∈ colT Q nn m j → ∃ t : Nat, t < j ∧ keepG m ((Q t).getD nn 0) = true ∧ e = ((t : Int), (Q t).getD nn 0)
  | 0, h => by cases h
  | j + 1, h => by
    rw [colT_snoc] at h
    rcases List.mem_append.1 h with h | h
    · obtain ⟨t, h1, h2⟩ := colT_mem h
      exact ⟨t, by omega, h2⟩
    · split at h
      · rename_i hk
        exact ⟨j, by omega, hk, by simpa using h⟩
      · cases h
theorem mem_colT {Q : Nat → List Int} {nn : Nat} {m : Int} {t : Nat} (hk : keepG m ((Q t).getD nn 0) = true) : ∀ {j : Nat}, t < j → ((t : Int), (Q t).getD nn 0) ∈ colT Q nn m j
  | j + 1, h => by
    rw [colT_snoc]
    by_cases e : t = j
    · subst e
      rw [if_pos hk]
      exact List.mem_append_right _ (by simp)
    · exact List.mem_append_left _ (mem_colT hk (by omega))
theorem defL_at (R : Nat → List It) {N q : Nat} (h : q < N) : (defL R N).getD q 0 = mostF (redL (R q)) := by unfold defL; simp [List.getD, h]
theorem tgtL_at (Q : Nat → List Int) (M : Nat) {N q : Nat} (h : q < N) : (tgtL Q M N).getD q 0 = mostF (colL Q M q) := by unfold tgtL; simp [List.getD, h]
/-- By which production a list reduces most, and whether by any. -/
theorem most_red {l : List It} {n : Int} (h : ∀ e ∈ l, StandOk e.1 e.2 n) : (mostF (redL l) = -1 ∧ ∀ e ∈ l, e.1 ≠ 2) ∨ (1 ≤ mostF (redL l) ∧ ∃ e ∈ l, e.1 = 2) := by
  have hin : InM (redL l) := fun x hx => by
    unfold redL at hx
    obtain ⟨e, he, rfl⟩ := List.mem_map.1 hx
    have h1 := h e he
    unfold redF StandOk at *
    split <;> omega
  rcases mostF_is hin with ⟨h1, h2⟩ | ⟨h1, h2, _⟩
  · refine .inl ⟨h1, fun e he e2 => ?_⟩
    have h3 := h2 e.2
    have h4 := h e he
    unfold StandOk at h4
    unfold cntF at h3
    rw [if_neg (by omega)] at h3
    have h5 : e.2 ∈ (redL l).filter fun y => y == e.2 := List.mem_filter.2 ⟨List.mem_map.2 ⟨e, he, by unfold redF; rw [if_pos e2]⟩, by simp⟩
    have h6 := List.length_pos_of_mem h5
    omega
  · right
    unfold cntF at h2
    rw [if_neg h1] at h2
    have h3 : 0 < ((redL l).filter fun y => y == mostF (redL l)).length := by omega
    obtain ⟨x, hx⟩ := List.exists_mem_of_length_pos h3
    obtain ⟨h4, h5⟩ := List.mem_filter.1 hx
    have h6 : x = mostF (redL l) := by simpa using h5
    unfold redL at h4
    obtain ⟨e, he, h7⟩ := List.mem_map.1 h4
    have h8 := h e he
    unfold redF at h7
    unfold StandOk at h8
    by_cases e2 : e.1 = 2
    · rw [if_pos e2] at h7
      exact ⟨by omega, e, he, e2⟩
    · rw [if_neg e2] at h7
      exact absurd (h6.symm.trans h7.symm) h1
/-- What stands in laid values. -/
theorem va_in {R : Nat → List It} {N : Nat} (h : MayLay N R) : ∀ x ∈ (lay R N).va, x = 0 ∨ ∃ i, i < N ∧ ∃ e ∈ R i, x = e.2 := fun x hx => by
  obtain ⟨h1, h2, h3⟩ := fit_all R N h.2
  obtain ⟨q, hq, rfl⟩ := List.getElem_of_mem hx
  have e1 : (lay R N).va.getD q 0 = (lay R N).va[q] := by rw [List.getD_eq_getElem?_getD, List.getElem?_eq_getElem hq]; rfl
  by_cases ho : 0 ≤ (lay R N).ow.getD q (-1)
  · obtain ⟨i, hi, e, he, e2, e3⟩ := h1.own q ho
    have h4 := h1.edge i hi e he
    rw [← e3] at h4
    refine .inr ⟨i, ?_, e, he, by rw [← e1]; exact h4.2.1⟩
    exact (ordA_mem R N i (fun i hi => (h.2 i hi).1)).1 hi
  · exact .inl (by rw [← e1]; exact h1.neg q (by omega))

/-- What a table says by default. -/
def dfl (m : Int) : Int × Int := if 0 < m then (2, m) else (0, 0)
section
variable {N : Nat} {R : Nat → List It} {Q : Nat → List Int} (h : MayT N N R Q)
include h
theorem say_none {q : Nat} (hq : q < N) {p : Int} (hp : ∀ e ∈ rowA (R q), e.1 ≠ p) : actF (defL R N) (lay (fun i => rowA (R i)) N).bs (lay (fun i => rowA (R i)) N).va (lay (fun i => rowA (R i)) N).ow q p = dfl (mostF (redL (R q))) := by
  have F := fitM h.rows
  have h0 := F.not q hq p hp
  unfold actF dfl
  rw [h0, defL_len]
  have e1 : (defL R N).getD ((q : Nat) : Int).toNat 0 = mostF (redL (R q)) := by rw [Int.toNat_natCast]; exact defL_at R hq
  rw [e1]
  by_cases hm : 0 < mostF (redL (R q))
  · rw [if_neg (by simp), if_pos hm, if_pos ⟨by omega, by omega, hm⟩]
  · rw [if_neg (by simp), if_neg hm, if_neg (fun h => hm h.2.2)]
theorem say_act {q t : Nat} (hq : q < N) (ht : t < (R q).length) : actF (defL R N) (lay (fun i => rowA (R i)) N).bs (lay (fun i => rowA (R i)) N).va (lay (fun i => rowA (R i)) N).ow q t = if ((R q).getD t (0, 0)).1 ≠ 0 then (R q).getD t (0, 0) else dfl (mostF (redL (R q))) := by
  have hst := h.2.2.1.2 q hq _ (getD_memE ht)
  have hN : N ≤ 256 := h.1
  by_cases hk : keepA (mostF (redL (R q))) ((R q).getD t (0, 0)) = true
  · have F := fitM h.rows
    have hm : ((t : Int), codeF ((R q).getD t (0, 0)).1 ((R q).getD t (0, 0)).2) ∈ rowA (R q) := mem_rowT hk ht
    have h1 := F.told q hq _ hm
    obtain ⟨a, ha⟩ : ∃ a, a = (R q).getD t (0, 0) := ⟨_, rfl⟩
    rw [← ha] at hst hk h1 ⊢
    obtain ⟨k, v⟩ := a
    have hk2 := (keepA_doc _ _ _).1 hk
    rw [if_pos hk2.1]
    unfold actF
    simp only [] at h1 hst
    rw [h1]
    simp only [if_true]
    unfold StandOk at hst
    rcases hst with ⟨rfl, h2, h3⟩ | ⟨rfl, h2, h3⟩ | ⟨h2, rfl⟩
    · have hc : codeF 1 v = 1 + v := by unfold codeF; rw [if_pos rfl]
      rw [hc, if_neg (by omega), if_pos (by omega)]
      congr 1; omega
    · have hc : codeF 2 v = -1 - v := by unfold codeF; rw [if_neg (by decide), if_pos rfl]
      rw [hc, if_neg (by omega), if_neg (by omega), if_neg (by omega)]
      congr 1; omega
    · rcases h2 with rfl | rfl | rfl
      · exact absurd rfl hk2.1
      · decide
      · decide
  · have hno : ∀ e ∈ rowA (R q), e.1 ≠ (t : Int) := fun e he e2 => by
      obtain ⟨t', h1, h2, rfl⟩ := rowT_mem he
      have : t' = t := by have e3 : (t' : Int) = (t : Int) := e2; omega
      subst this
      exact hk h2
    rw [say_none h hq hno]
    obtain ⟨a, ha⟩ : ∃ a, a = (R q).getD t (0, 0) := ⟨_, rfl⟩
    rw [← ha] at hst hk ⊢
    obtain ⟨k, v⟩ := a
    by_cases hk0 : k = 0
    · rw [if_neg (fun e => e hk0)]
    · have h3 : k = 2 ∧ v = mostF (redL (R q)) := by
        rw [keepA_doc] at hk
        by_cases e2 : k = 2
        · refine ⟨e2, ?_⟩
          by_cases e3 : v = mostF (redL (R q))
          · exact e3
          · exact absurd ⟨hk0, .inr e3⟩ hk
        · exact absurd ⟨hk0, .inl e2⟩ hk
      rw [if_pos hk0]
      unfold StandOk at hst
      simp only [] at hst
      unfold dfl
      rw [← h3.2, h3.1, if_pos (by omega)]
theorem say_far {q : Nat} (hq : q < N) {p : Int} (hp : p < 0 ∨ ((R q).length : Int) ≤ p) : actF (defL R N) (lay (fun i => rowA (R i)) N).bs (lay (fun i => rowA (R i)) N).va (lay (fun i => rowA (R i)) N).ow q p = dfl (mostF (redL (R q))) :=
  say_none h hq fun e he e2 => by
    obtain ⟨t', h1, h2, rfl⟩ := rowT_mem he
    simp only [] at e2
    omega
theorem say_out {q : Int} (hq : q < 0 ∨ (N : Int) ≤ q) (p : Int) : actF (defL R N) (lay (fun i => rowA (R i)) N).bs (lay (fun i => rowA (R i)) N).va (lay (fun i => rowA (R i)) N).ow q p = (0, 0) := by
  have F := fitM h.rows
  have h0 : atF (lay (fun i => rowA (R i)) N).bs (lay (fun i => rowA (R i)) N).va (lay (fun i => rowA (R i)) N).ow q p = (0, false) := by
    unfold atF
    rw [if_neg]
    rw [F.bl]
    omega
  unfold actF
  rw [h0, defL_len, if_neg (by simp), if_neg (by omega)]
theorem goto_say {q n : Nat} (hq : q < N) (hn : n < (Q q).length) (hv : 0 ≤ (Q q).getD n 0) : gotoF (tgtL Q N (Q 0).length) (lay (fun i => colA Q N i) (Q 0).length).bs (lay (fun i => colA Q N i) (Q 0).length).va (lay (fun i => colA Q N i) (Q 0).length).ow q n = (Q q).getD n 0 := by
  have F := fitM h.cols
  have hT : n < (Q 0).length := by have h0 := h.2.2.2.1.2.2.2 q hq; simp only [] at h0; omega
  by_cases hk : keepG (mostF (colL Q N n)) ((Q q).getD n 0) = true
  · have hm : ((q : Int), (Q q).getD n 0) ∈ colA Q N n := mem_colT hk hq
    have h1 := F.told n hT _ hm
    unfold gotoF
    rw [h1]
    rfl
  · have hno : ∀ e ∈ colA Q N n, e.1 ≠ (q : Int) := fun e he e2 => by
      obtain ⟨t', h1, h2, rfl⟩ := colT_mem he
      have : t' = q := by have e3 : (t' : Int) = (q : Int) := e2; omega
      subst this
      exact hk h2
    have h1 := F.not n hT _ hno
    rw [keepG_doc _ _ (by omega)] at hk
    have h2 : (Q q).getD n 0 = mostF (colL Q N n) := by
      by_cases e : (Q q).getD n 0 = mostF (colL Q N n)
      · exact e
      · exact absurd ⟨hv, e⟩ hk
    unfold gotoF
    rw [h1, tgtL_len, if_neg (by simp), if_pos (by omega), Int.toNat_natCast, tgtL_at Q N hT, h2]
theorem goto_out {q : Int} {n : Int} (hn : n < 0 ∨ ((Q 0).length : Int) ≤ n) : gotoF (tgtL Q N (Q 0).length) (lay (fun i => colA Q N i) (Q 0).length).bs (lay (fun i => colA Q N i) (Q 0).length).va (lay (fun i => colA Q N i) (Q 0).length).ow q n = -1 := by
  have F := fitM h.cols
  have h0 : atF (lay (fun i => colA Q N i) (Q 0).length).bs (lay (fun i => colA Q N i) (Q 0).length).va (lay (fun i => colA Q N i) (Q 0).length).ow n q = (0, false) := by
    unfold atF
    rw [if_neg]
    rw [F.bl]
    omega
  unfold gotoF
  rw [h0, tgtL_len, if_neg (by simp), if_neg (by omega)]
end

end Go.Proofs.Ytgmljpkenipgjaa.J

/-
  pack: PackSays: a region that calls, a declaration of its own (printed by tools/pk_says.py).
-/
namespace Go.Proofs.Ytgmljpkenipgjaa.J
open Go.RowKit Go.Maps Go.Shelf Pk

attribute [local go_sem] Oper.semAt_some

noncomputable def plS22 : Code := ((Try.f7.body.map (regionsJ 22)).getD []).getD 0 .skip

set_option maxRecDepth 100000 in
set_option maxHeartbeats 8000000 in
theorem pl_s22 {K : Act → World → Prop} {V : World} {db pb eb eo N dc c q : Nat} {af : Nat → Option Addr} {cf n : Nat → Nat} {ra ro ln lc : Nat} {la : Option Addr} {m k1 t1 : Int} {sm : Bool}
    {v0 v2 v4 v7 v8 v9 v10 v11 v12 v13 v14 v15 v16 v17 v18 v19 v20 v21 v22 v23 v24 v25 v26 v27 v28 v29 v30 v31 v32 v33 v34 v35 v36 v37 v38 v39 v40 v41 v42 v43 v44 v45 v46 v47 v48 v49 v50 v51 v52 v53 v54 v55 v56 v57 v58 v59 v60 v61 v62 v63 v64 v65 v66 v67 v68 v69 v70 v71 v72 v73 v74 v75 v76 v77 v78 v79 v80 v81 v82 v83 v84 v85 v86 v87 v88 v89 v90 v91 v92 v93 v94 v95 v96 v97 v98 v99 v100 v101 v102 v103 v104 v105 v106 v107 v108 v109 v110 v111 v112 v113 v114 v115 v116 v117 v118 v119 v120 v121 v122 v123 v124 v125 v126 v127 v128 v129 v130 v131 v132 v133 v134 v135 v136 v137 v138 v139 v140 v141 v142 v143 v144 v145 v146 v147 v148 v149 v150 v151 v152 v153 v154 v155 v156 v157 v158 v159 v160 v161 v162 v163 v164 v165 v166 v167 v168 v169 v170 v171 v172 v173 v174 v175 v176 v177 v178 v179 v180 v181 v182 v183 v184 v185 v186 v187 v188 v189 v190 v191 v192 v193 v194 v195 v196 v197 v198 v199 v200 v201 v202 v203 v204 v205 v206 v207 v208 v209 v210 v211 v212 v213 v214 v215 v216 : Value}
    (hq : q < N)
    (hp : ∀ X, V.grownBy X none → X.cell? ⟨pb, 0, none⟩ = some (.slice (some ⟨eb, eo, none⟩) N dc) ∧ X.cell? ⟨pb, 1, none⟩ = some (.slice (af 1) (n 1) (cf 1)) ∧ X.cell? ⟨pb, 2, none⟩ = some (.slice (af 2) (n 2) (cf 2)) ∧ X.cell? ⟨pb, 3, none⟩ = some (.slice (af 3) (n 3) (cf 3)) ∧ X.cell? ⟨pb, 4, none⟩ = some (.slice (af 4) (n 4) (cf 4)) ∧ X.cell? ⟨pb, 5, none⟩ = some (.slice (af 5) (n 5) (cf 5)) ∧ X.cell? ⟨pb, 6, none⟩ = some (.slice (af 6) (n 6) (cf 6)) ∧ X.cell? ⟨pb, 7, none⟩ = some (.slice (af 7) (n 7) (cf 7)))
    (hd : ∀ X, V.grownBy X none → X.cell? ⟨db, 0, none⟩ = some (.slice (some ⟨ra, ro, none⟩) N c) ∧ X.cell? ⟨ra, ro + q, none⟩ = some (.slice la ln lc) ∧ X.cell? ⟨eb, eo + q, none⟩ = some (.int .i64 m))
    (hsm : decide (0 < m) = sm)
    (hA : ∀ (X : World) (z : Int), (z = (ln : Int) ∨ z = -1) → V.grownBy X none → Calls Try.prog 23 #[.agg #[.slice (some ⟨eb, eo, none⟩) N dc, .slice (af 1) (n 1) (cf 1), .slice (af 2) (n 2) (cf 2), .slice (af 3) (n 3) (cf 3), .slice (af 4) (n 4) (cf 4), .slice (af 5) (n 5) (cf 5), .slice (af 6) (n 6) (cf 6), .slice (af 7) (n 7) (cf 7)], .int .i64 (q : Int), .int .i64 z] X fun e y => e = .returned (.agg #[.int .i64 k1, .int .i64 t1]) ∧ X.grownBy y none)
    (hexit : ∀ (wz : World) (u128 u129 u130 u131 u132 u133 u134 u135 u136 u137 u138 u139 u140 u141 u142 u143 u144 u145 u146 u147 u148 u149 : Value), V.grownBy wz none → K ⟨List.toArray (v0 :: .pointer (some ⟨db, 0, none⟩) :: v2 :: .pointer (some ⟨pb, 0, none⟩) :: v4 :: .int .i64 (q : Int) :: .bool sm :: v7 :: v8 :: v9 :: v10 :: v11 :: v12 :: v13 :: v14 :: v15 :: v16 :: v17 :: v18 :: v19 :: v20 :: v21 :: v22 :: v23 :: v24 :: v25 :: v26 :: v27 :: v28 :: v29 :: v30 :: v31 :: v32 :: v33 :: v34 :: v35 :: v36 :: v37 :: v38 :: v39 :: v40 :: v41 :: v42 :: v43 :: v44 :: v45 :: v46 :: v47 :: v48 :: v49 :: v50 :: v51 :: v52 :: v53 :: v54 :: v55 :: v56 :: v57 :: v58 :: v59 :: v60 :: v61 :: v62 :: v63 :: v64 :: v65 :: v66 :: v67 :: v68 :: v69 :: v70 :: v71 :: v72 :: v73 :: v74 :: v75 :: v76 :: v77 :: v78 :: v79 :: v80 :: v81 :: v82 :: v83 :: v84 :: v85 :: v86 :: v87 :: v88 :: v89 :: v90 :: v91 :: v92 :: v93 :: v94 :: v95 :: v96 :: v97 :: v98 :: v99 :: v100 :: v101 :: v102 :: v103 :: v104 :: v105 :: v106 :: v107 :: v108 :: v109 :: v110 :: v111 :: v112 :: v113 :: v114 :: v115 :: v116 :: v117 :: v118 :: v119 :: v120 :: v121 :: v122 :: v123 :: v124 :: v125 :: v126 :: v127 :: u128 :: u129 :: u130 :: u131 :: u132 :: u133 :: u134 :: u135 :: u136 :: u137 :: u138 :: u139 :: u140 :: u141 :: u142 :: u143 :: u144 :: u145 :: u146 :: u147 :: u148 :: u149 :: .bool false :: v151 :: v152 :: v153 :: v154 :: v155 :: v156 :: v157 :: v158 :: v159 :: v160 :: v161 :: v162 :: v163 :: v164 :: v165 :: v166 :: v167 :: v168 :: v169 :: v170 :: v171 :: v172 :: v173 :: v174 :: v175 :: v176 :: v177 :: v178 :: v179 :: v180 :: v181 :: v182 :: v183 :: v184 :: v185 :: v186 :: v187 :: v188 :: v189 :: v190 :: v191 :: v192 :: v193 :: v194 :: v195 :: v196 :: v197 :: v198 :: v199 :: v200 :: v201 :: v202 :: v203 :: v204 :: v205 :: v206 :: v207 :: v208 :: v209 :: v210 :: v211 :: v212 :: v213 :: v214 :: v215 :: v216 :: []), []⟩ wz) :
    Code.wp Try.prog plS22 (OnEndJ K) ⟨List.toArray (v0 :: .pointer (some ⟨db, 0, none⟩) :: v2 :: .pointer (some ⟨pb, 0, none⟩) :: v4 :: .int .i64 (q : Int) :: .bool sm :: v7 :: v8 :: v9 :: v10 :: v11 :: v12 :: v13 :: v14 :: v15 :: v16 :: v17 :: v18 :: v19 :: v20 :: v21 :: v22 :: v23 :: v24 :: v25 :: v26 :: v27 :: v28 :: v29 :: v30 :: v31 :: v32 :: v33 :: v34 :: v35 :: v36 :: v37 :: v38 :: v39 :: v40 :: v41 :: v42 :: v43 :: v44 :: v45 :: v46 :: v47 :: v48 :: v49 :: v50 :: v51 :: v52 :: v53 :: v54 :: v55 :: v56 :: v57 :: v58 :: v59 :: v60 :: v61 :: v62 :: v63 :: v64 :: v65 :: v66 :: v67 :: v68 :: v69 :: v70 :: v71 :: v72 :: v73 :: v74 :: v75 :: v76 :: v77 :: v78 :: v79 :: v80 :: v81 :: v82 :: v83 :: v84 :: v85 :: v86 :: v87 :: v88 :: v89 :: v90 :: v91 :: v92 :: v93 :: v94 :: v95 :: v96 :: v97 :: v98 :: v99 :: v100 :: v101 :: v102 :: v103 :: v104 :: v105 :: v106 :: v107 :: v108 :: v109 :: v110 :: v111 :: v112 :: v113 :: v114 :: v115 :: v116 :: v117 :: v118 :: v119 :: v120 :: v121 :: v122 :: v123 :: v124 :: v125 :: v126 :: v127 :: v128 :: v129 :: v130 :: v131 :: v132 :: v133 :: v134 :: v135 :: v136 :: v137 :: v138 :: v139 :: v140 :: v141 :: v142 :: v143 :: v144 :: v145 :: v146 :: v147 :: v148 :: v149 :: v150 :: v151 :: v152 :: v153 :: v154 :: v155 :: v156 :: v157 :: v158 :: v159 :: v160 :: v161 :: v162 :: v163 :: v164 :: v165 :: v166 :: v167 :: v168 :: v169 :: v170 :: v171 :: v172 :: v173 :: v174 :: v175 :: v176 :: v177 :: v178 :: v179 :: v180 :: v181 :: v182 :: v183 :: v184 :: v185 :: v186 :: v187 :: v188 :: v189 :: v190 :: v191 :: v192 :: v193 :: v194 :: v195 :: v196 :: v197 :: v198 :: v199 :: v200 :: v201 :: v202 :: v203 :: v204 :: v205 :: v206 :: v207 :: v208 :: v209 :: v210 :: v211 :: v212 :: v213 :: v214 :: v215 :: v216 :: []), []⟩ V := by
  have mixed : Try.prog.follows .mixedOrders = true := by kernel_rfl
  have HEX := show Hid _ from hexit
  have HKS : Hid (∀ X, V.grownBy X none → (X.cell? ⟨pb, 0, none⟩ = some (.slice (some ⟨eb, eo, none⟩) N dc) ∧ X.cell? ⟨pb, 1, none⟩ = some (.slice (af 1) (n 1) (cf 1)) ∧ X.cell? ⟨pb, 2, none⟩ = some (.slice (af 2) (n 2) (cf 2)) ∧ X.cell? ⟨pb, 3, none⟩ = some (.slice (af 3) (n 3) (cf 3)) ∧ X.cell? ⟨pb, 4, none⟩ = some (.slice (af 4) (n 4) (cf 4)) ∧ X.cell? ⟨pb, 5, none⟩ = some (.slice (af 5) (n 5) (cf 5)) ∧ X.cell? ⟨pb, 6, none⟩ = some (.slice (af 6) (n 6) (cf 6)) ∧ X.cell? ⟨pb, 7, none⟩ = some (.slice (af 7) (n 7) (cf 7))) ∧ X.cell? ⟨db, 0, none⟩ = some (.slice (some ⟨ra, ro, none⟩) N c) ∧ X.cell? ⟨ra, ro + q, none⟩ = some (.slice la ln lc) ∧ X.cell? ⟨eb, eo + q, none⟩ = some (.int .i64 m)) := fun X hX => ⟨hp X hX, hd X hX⟩
  have HUP : Hid (V.grownBy V.drew none) := grown_drewN V 1
  have HA := show Hid _ from hA
  have hq0 : (0 : Int) ≤ (q : Int) := by omega
  have hq1 : (q : Int) < (N : Int) := by omega
  have e0 : (sm != sm) = false := bne_self_eq_false _
  have hE : ∀ Y : World, (binOp .neq 52 (.agg #[.int .i64 k1, .int .i64 t1]) (.agg #[.int .i64 k1, .int .i64 t1])).run Try.prog Y = .ok (.bool false) Y := fun Y => by have h := neq_action k1 t1 k1 t1 Y; simpa using h
  have hgu := guard_action
  clear hA hp hd hexit
  conv => arg 2; whnf
  go_region_held3 (fun X => (X.cell? ⟨pb, 0, none⟩ = some (.slice (some ⟨eb, eo, none⟩) N dc) ∧ X.cell? ⟨pb, 1, none⟩ = some (.slice (af 1) (n 1) (cf 1)) ∧ X.cell? ⟨pb, 2, none⟩ = some (.slice (af 2) (n 2) (cf 2)) ∧ X.cell? ⟨pb, 3, none⟩ = some (.slice (af 3) (n 3) (cf 3)) ∧ X.cell? ⟨pb, 4, none⟩ = some (.slice (af 4) (n 4) (cf 4)) ∧ X.cell? ⟨pb, 5, none⟩ = some (.slice (af 5) (n 5) (cf 5)) ∧ X.cell? ⟨pb, 6, none⟩ = some (.slice (af 6) (n 6) (cf 6)) ∧ X.cell? ⟨pb, 7, none⟩ = some (.slice (af 7) (n 7) (cf 7))) ∧ X.cell? ⟨db, 0, none⟩ = some (.slice (some ⟨ra, ro, none⟩) N c) ∧ X.cell? ⟨ra, ro + q, none⟩ = some (.slice la ln lc) ∧ X.cell? ⟨eb, eo + q, none⟩ = some (.int .i64 m)) (first | exact HKS.out _ HUP.out | exact HKS.out _ HG4.out | go_keep)
    ((first
      | (go_at_call 23; refine Calls.mono (HA.out _ _ (by first | exact .inl rfl | exact .inr rfl) (by first | exact HUP.out | exact HG4.out)) ?_; rintro e w3 ⟨rfl, hg3⟩; have HG4 : Hid (V.grownBy w3 none) := (by first | exact grown_trans HUP.out hg3 | exact grown_trans HG4.out hg3); clear hg3)
      | fail))
  all_goals first | exact HEX.out _ _ _ _ _ _ _ _ _ _ _ _ _ _ _ _ _ _ _ _ _ _ _ HG4.out | exact HEX.out _ _ _ _ _ _ _ _ _ _ _ _ _ _ _ _ _ _ _ _ _ _ _ HUP.out

theorem pl_s22q {Q0 : Exit → Act → World → Prop} {V : World} {db pb eb eo N dc c q : Nat} {af : Nat → Option Addr} {cf n : Nat → Nat} {ra ro ln lc : Nat} {la : Option Addr} {m k1 t1 : Int} {sm : Bool}
    {v0 v2 v4 v7 v8 v9 v10 v11 v12 v13 v14 v15 v16 v17 v18 v19 v20 v21 v22 v23 v24 v25 v26 v27 v28 v29 v30 v31 v32 v33 v34 v35 v36 v37 v38 v39 v40 v41 v42 v43 v44 v45 v46 v47 v48 v49 v50 v51 v52 v53 v54 v55 v56 v57 v58 v59 v60 v61 v62 v63 v64 v65 v66 v67 v68 v69 v70 v71 v72 v73 v74 v75 v76 v77 v78 v79 v80 v81 v82 v83 v84 v85 v86 v87 v88 v89 v90 v91 v92 v93 v94 v95 v96 v97 v98 v99 v100 v101 v102 v103 v104 v105 v106 v107 v108 v109 v110 v111 v112 v113 v114 v115 v116 v117 v118 v119 v120 v121 v122 v123 v124 v125 v126 v127 v128 v129 v130 v131 v132 v133 v134 v135 v136 v137 v138 v139 v140 v141 v142 v143 v144 v145 v146 v147 v148 v149 v150 v151 v152 v153 v154 v155 v156 v157 v158 v159 v160 v161 v162 v163 v164 v165 v166 v167 v168 v169 v170 v171 v172 v173 v174 v175 v176 v177 v178 v179 v180 v181 v182 v183 v184 v185 v186 v187 v188 v189 v190 v191 v192 v193 v194 v195 v196 v197 v198 v199 v200 v201 v202 v203 v204 v205 v206 v207 v208 v209 v210 v211 v212 v213 v214 v215 v216 : Value}
    (hq : q < N)
    (hp : ∀ X, V.grownBy X none → X.cell? ⟨pb, 0, none⟩ = some (.slice (some ⟨eb, eo, none⟩) N dc) ∧ X.cell? ⟨pb, 1, none⟩ = some (.slice (af 1) (n 1) (cf 1)) ∧ X.cell? ⟨pb, 2, none⟩ = some (.slice (af 2) (n 2) (cf 2)) ∧ X.cell? ⟨pb, 3, none⟩ = some (.slice (af 3) (n 3) (cf 3)) ∧ X.cell? ⟨pb, 4, none⟩ = some (.slice (af 4) (n 4) (cf 4)) ∧ X.cell? ⟨pb, 5, none⟩ = some (.slice (af 5) (n 5) (cf 5)) ∧ X.cell? ⟨pb, 6, none⟩ = some (.slice (af 6) (n 6) (cf 6)) ∧ X.cell? ⟨pb, 7, none⟩ = some (.slice (af 7) (n 7) (cf 7)))
    (hd : ∀ X, V.grownBy X none → X.cell? ⟨db, 0, none⟩ = some (.slice (some ⟨ra, ro, none⟩) N c) ∧ X.cell? ⟨ra, ro + q, none⟩ = some (.slice la ln lc) ∧ X.cell? ⟨eb, eo + q, none⟩ = some (.int .i64 m))
    (hsm : decide (0 < m) = sm)
    (hA : ∀ (X : World) (z : Int), (z = (ln : Int) ∨ z = -1) → V.grownBy X none → Calls Try.prog 23 #[.agg #[.slice (some ⟨eb, eo, none⟩) N dc, .slice (af 1) (n 1) (cf 1), .slice (af 2) (n 2) (cf 2), .slice (af 3) (n 3) (cf 3), .slice (af 4) (n 4) (cf 4), .slice (af 5) (n 5) (cf 5), .slice (af 6) (n 6) (cf 6), .slice (af 7) (n 7) (cf 7)], .int .i64 (q : Int), .int .i64 z] X fun e y => e = .returned (.agg #[.int .i64 k1, .int .i64 t1]) ∧ X.grownBy y none)
    (hexit : ∀ (wz : World) (u128 u129 u130 u131 u132 u133 u134 u135 u136 u137 u138 u139 u140 u141 u142 u143 u144 u145 u146 u147 u148 u149 : Value), V.grownBy wz none → Q0 .normal ⟨List.toArray (v0 :: .pointer (some ⟨db, 0, none⟩) :: v2 :: .pointer (some ⟨pb, 0, none⟩) :: v4 :: .int .i64 (q : Int) :: .bool sm :: v7 :: v8 :: v9 :: v10 :: v11 :: v12 :: v13 :: v14 :: v15 :: v16 :: v17 :: v18 :: v19 :: v20 :: v21 :: v22 :: v23 :: v24 :: v25 :: v26 :: v27 :: v28 :: v29 :: v30 :: v31 :: v32 :: v33 :: v34 :: v35 :: v36 :: v37 :: v38 :: v39 :: v40 :: v41 :: v42 :: v43 :: v44 :: v45 :: v46 :: v47 :: v48 :: v49 :: v50 :: v51 :: v52 :: v53 :: v54 :: v55 :: v56 :: v57 :: v58 :: v59 :: v60 :: v61 :: v62 :: v63 :: v64 :: v65 :: v66 :: v67 :: v68 :: v69 :: v70 :: v71 :: v72 :: v73 :: v74 :: v75 :: v76 :: v77 :: v78 :: v79 :: v80 :: v81 :: v82 :: v83 :: v84 :: v85 :: v86 :: v87 :: v88 :: v89 :: v90 :: v91 :: v92 :: v93 :: v94 :: v95 :: v96 :: v97 :: v98 :: v99 :: v100 :: v101 :: v102 :: v103 :: v104 :: v105 :: v106 :: v107 :: v108 :: v109 :: v110 :: v111 :: v112 :: v113 :: v114 :: v115 :: v116 :: v117 :: v118 :: v119 :: v120 :: v121 :: v122 :: v123 :: v124 :: v125 :: v126 :: v127 :: u128 :: u129 :: u130 :: u131 :: u132 :: u133 :: u134 :: u135 :: u136 :: u137 :: u138 :: u139 :: u140 :: u141 :: u142 :: u143 :: u144 :: u145 :: u146 :: u147 :: u148 :: u149 :: .bool false :: v151 :: v152 :: v153 :: v154 :: v155 :: v156 :: v157 :: v158 :: v159 :: v160 :: v161 :: v162 :: v163 :: v164 :: v165 :: v166 :: v167 :: v168 :: v169 :: v170 :: v171 :: v172 :: v173 :: v174 :: v175 :: v176 :: v177 :: v178 :: v179 :: v180 :: v181 :: v182 :: v183 :: v184 :: v185 :: v186 :: v187 :: v188 :: v189 :: v190 :: v191 :: v192 :: v193 :: v194 :: v195 :: v196 :: v197 :: v198 :: v199 :: v200 :: v201 :: v202 :: v203 :: v204 :: v205 :: v206 :: v207 :: v208 :: v209 :: v210 :: v211 :: v212 :: v213 :: v214 :: v215 :: v216 :: []), []⟩ wz) :
    Code.wp Try.prog plS22 Q0 ⟨List.toArray (v0 :: .pointer (some ⟨db, 0, none⟩) :: v2 :: .pointer (some ⟨pb, 0, none⟩) :: v4 :: .int .i64 (q : Int) :: .bool sm :: v7 :: v8 :: v9 :: v10 :: v11 :: v12 :: v13 :: v14 :: v15 :: v16 :: v17 :: v18 :: v19 :: v20 :: v21 :: v22 :: v23 :: v24 :: v25 :: v26 :: v27 :: v28 :: v29 :: v30 :: v31 :: v32 :: v33 :: v34 :: v35 :: v36 :: v37 :: v38 :: v39 :: v40 :: v41 :: v42 :: v43 :: v44 :: v45 :: v46 :: v47 :: v48 :: v49 :: v50 :: v51 :: v52 :: v53 :: v54 :: v55 :: v56 :: v57 :: v58 :: v59 :: v60 :: v61 :: v62 :: v63 :: v64 :: v65 :: v66 :: v67 :: v68 :: v69 :: v70 :: v71 :: v72 :: v73 :: v74 :: v75 :: v76 :: v77 :: v78 :: v79 :: v80 :: v81 :: v82 :: v83 :: v84 :: v85 :: v86 :: v87 :: v88 :: v89 :: v90 :: v91 :: v92 :: v93 :: v94 :: v95 :: v96 :: v97 :: v98 :: v99 :: v100 :: v101 :: v102 :: v103 :: v104 :: v105 :: v106 :: v107 :: v108 :: v109 :: v110 :: v111 :: v112 :: v113 :: v114 :: v115 :: v116 :: v117 :: v118 :: v119 :: v120 :: v121 :: v122 :: v123 :: v124 :: v125 :: v126 :: v127 :: v128 :: v129 :: v130 :: v131 :: v132 :: v133 :: v134 :: v135 :: v136 :: v137 :: v138 :: v139 :: v140 :: v141 :: v142 :: v143 :: v144 :: v145 :: v146 :: v147 :: v148 :: v149 :: v150 :: v151 :: v152 :: v153 :: v154 :: v155 :: v156 :: v157 :: v158 :: v159 :: v160 :: v161 :: v162 :: v163 :: v164 :: v165 :: v166 :: v167 :: v168 :: v169 :: v170 :: v171 :: v172 :: v173 :: v174 :: v175 :: v176 :: v177 :: v178 :: v179 :: v180 :: v181 :: v182 :: v183 :: v184 :: v185 :: v186 :: v187 :: v188 :: v189 :: v190 :: v191 :: v192 :: v193 :: v194 :: v195 :: v196 :: v197 :: v198 :: v199 :: v200 :: v201 :: v202 :: v203 :: v204 :: v205 :: v206 :: v207 :: v208 :: v209 :: v210 :: v211 :: v212 :: v213 :: v214 :: v215 :: v216 :: []), []⟩ V :=
  wp_mono (pl_s22 (K := fun a w => Q0 .normal a w) hq hp hd hsm hA hexit) fun e a w h => by
    cases e <;> first | exact h | exact h.elim

end Go.Proofs.Ytgmljpkenipgjaa.J

/-
  pack: PackSays: a region that calls, a declaration of its own (printed by tools/pk_says.py).
-/
namespace Go.Proofs.Ytgmljpkenipgjaa.J
open Go.RowKit Go.Maps Go.Shelf Pk

attribute [local go_sem] Oper.semAt_some

noncomputable def plS27 : Code := ((Try.f7.body.map (regionsJ 27)).getD []).getD 0 .skip

set_option maxRecDepth 100000 in
set_option maxHeartbeats 8000000 in
theorem pl_s27 {K : Act → World → Prop} {V : World} {db pb eb eo N dc c q : Nat} {af : Nat → Option Addr} {cf n : Nat → Nat} {ra ro rb so ln lc j : Nat} {m : Int}
    {v0 v2 v4 v6 v7 v8 v9 v11 v12 v13 v14 v15 v16 v17 v18 v19 v20 v21 v22 v23 v24 v25 v26 v27 v28 v29 v30 v31 v32 v33 v34 v35 v36 v37 v38 v39 v40 v41 v42 v43 v44 v45 v46 v47 v48 v49 v50 v51 v52 v53 v54 v55 v56 v57 v58 v59 v60 v61 v62 v63 v64 v65 v66 v67 v68 v69 v70 v71 v72 v73 v74 v75 v76 v77 v78 v79 v80 v81 v82 v83 v84 v85 v86 v87 v88 v89 v90 v91 v92 v93 v94 v95 v96 v97 v98 v99 v100 v101 v102 v103 v104 v105 v106 v107 v108 v109 v110 v111 v112 v113 v114 v115 v116 v117 v118 v119 v120 v121 v122 v123 v124 v125 v126 v127 v128 v129 v130 v131 v132 v133 v134 v135 v136 v137 v138 v139 v140 v141 v142 v143 v144 v145 v146 v147 v148 v149 v150 v151 v152 v153 v154 v155 v156 v157 v158 v159 v160 v161 v162 v163 v164 v165 v166 v167 v168 v169 v170 v171 v172 v173 v174 v175 v176 v177 v178 v179 v180 v181 v182 v183 v184 v185 v186 v187 v188 v189 v190 v191 v192 v193 v194 v195 v196 v197 v198 v199 v200 v201 v202 v203 v204 v205 v206 v207 v208 v209 v210 v211 v212 v213 v214 v215 v216 : Value}
    (hq : q < N)
    (hj : j < ln)
    (hp : ∀ X, V.grownBy X none → X.cell? ⟨pb, 0, none⟩ = some (.slice (some ⟨eb, eo, none⟩) N dc) ∧ X.cell? ⟨pb, 1, none⟩ = some (.slice (af 1) (n 1) (cf 1)) ∧ X.cell? ⟨pb, 2, none⟩ = some (.slice (af 2) (n 2) (cf 2)) ∧ X.cell? ⟨pb, 3, none⟩ = some (.slice (af 3) (n 3) (cf 3)) ∧ X.cell? ⟨pb, 4, none⟩ = some (.slice (af 4) (n 4) (cf 4)) ∧ X.cell? ⟨pb, 5, none⟩ = some (.slice (af 5) (n 5) (cf 5)) ∧ X.cell? ⟨pb, 6, none⟩ = some (.slice (af 6) (n 6) (cf 6)) ∧ X.cell? ⟨pb, 7, none⟩ = some (.slice (af 7) (n 7) (cf 7)))
    (hd : ∀ X, V.grownBy X none → X.cell? ⟨db, 1, none⟩ = some (.slice (some ⟨ra, ro, none⟩) N c) ∧ X.cell? ⟨ra, ro + q, none⟩ = some (.slice (some ⟨rb, so, none⟩) ln lc) ∧ X.cell? ⟨rb, so + j, none⟩ = some (.int .i64 m))
    (hA : ∀ X, V.grownBy X none → Calls Try.prog 24 #[.agg #[.slice (some ⟨eb, eo, none⟩) N dc, .slice (af 1) (n 1) (cf 1), .slice (af 2) (n 2) (cf 2), .slice (af 3) (n 3) (cf 3), .slice (af 4) (n 4) (cf 4), .slice (af 5) (n 5) (cf 5), .slice (af 6) (n 6) (cf 6), .slice (af 7) (n 7) (cf 7)], .int .i64 (q : Int), .int .i64 (j : Int)] X fun e y => e = .returned (.int .i64 m) ∧ X.grownBy y none)
    (hm : 0 ≤ m)
    (hexit : ∀ (wz : World) (u161 u162 u163 u164 u165 u166 u167 u168 u169 u170 u171 u172 u173 u174 u175 u176 u177 u178 u179 u180 u181 u182 u183 : Value), V.grownBy wz none → K ⟨List.toArray (v0 :: .pointer (some ⟨db, 0, none⟩) :: v2 :: .pointer (some ⟨pb, 0, none⟩) :: v4 :: .int .i64 (q : Int) :: v6 :: v7 :: v8 :: v9 :: .int .i64 (j : Int) :: v11 :: v12 :: v13 :: v14 :: v15 :: v16 :: v17 :: v18 :: v19 :: v20 :: v21 :: v22 :: v23 :: v24 :: v25 :: v26 :: v27 :: v28 :: v29 :: v30 :: v31 :: v32 :: v33 :: v34 :: v35 :: v36 :: v37 :: v38 :: v39 :: v40 :: v41 :: v42 :: v43 :: v44 :: v45 :: v46 :: v47 :: v48 :: v49 :: v50 :: v51 :: v52 :: v53 :: v54 :: v55 :: v56 :: v57 :: v58 :: v59 :: v60 :: v61 :: v62 :: v63 :: v64 :: v65 :: v66 :: v67 :: v68 :: v69 :: v70 :: v71 :: v72 :: v73 :: v74 :: v75 :: v76 :: v77 :: v78 :: v79 :: v80 :: v81 :: v82 :: v83 :: v84 :: v85 :: v86 :: v87 :: v88 :: v89 :: v90 :: v91 :: v92 :: v93 :: v94 :: v95 :: v96 :: v97 :: v98 :: v99 :: v100 :: v101 :: v102 :: v103 :: v104 :: v105 :: v106 :: v107 :: v108 :: v109 :: v110 :: v111 :: v112 :: v113 :: v114 :: v115 :: v116 :: v117 :: v118 :: v119 :: v120 :: v121 :: v122 :: v123 :: v124 :: v125 :: v126 :: v127 :: v128 :: v129 :: v130 :: v131 :: v132 :: v133 :: v134 :: v135 :: v136 :: v137 :: v138 :: v139 :: v140 :: v141 :: v142 :: v143 :: v144 :: v145 :: v146 :: v147 :: v148 :: v149 :: v150 :: v151 :: v152 :: v153 :: v154 :: v155 :: v156 :: v157 :: v158 :: v159 :: v160 :: u161 :: u162 :: u163 :: u164 :: u165 :: u166 :: u167 :: u168 :: u169 :: u170 :: u171 :: u172 :: u173 :: u174 :: u175 :: u176 :: u177 :: u178 :: u179 :: u180 :: u181 :: u182 :: u183 :: .bool false :: v185 :: v186 :: v187 :: v188 :: v189 :: v190 :: v191 :: v192 :: v193 :: v194 :: v195 :: v196 :: v197 :: v198 :: v199 :: v200 :: v201 :: v202 :: v203 :: v204 :: v205 :: v206 :: v207 :: v208 :: v209 :: v210 :: v211 :: v212 :: v213 :: v214 :: v215 :: v216 :: []), []⟩ wz) :
    Code.wp Try.prog plS27 (OnEndJ K) ⟨List.toArray (v0 :: .pointer (some ⟨db, 0, none⟩) :: v2 :: .pointer (some ⟨pb, 0, none⟩) :: v4 :: .int .i64 (q : Int) :: v6 :: v7 :: v8 :: v9 :: .int .i64 (j : Int) :: v11 :: v12 :: v13 :: v14 :: v15 :: v16 :: v17 :: v18 :: v19 :: v20 :: v21 :: v22 :: v23 :: v24 :: v25 :: v26 :: v27 :: v28 :: v29 :: v30 :: v31 :: v32 :: v33 :: v34 :: v35 :: v36 :: v37 :: v38 :: v39 :: v40 :: v41 :: v42 :: v43 :: v44 :: v45 :: v46 :: v47 :: v48 :: v49 :: v50 :: v51 :: v52 :: v53 :: v54 :: v55 :: v56 :: v57 :: v58 :: v59 :: v60 :: v61 :: v62 :: v63 :: v64 :: v65 :: v66 :: v67 :: v68 :: v69 :: v70 :: v71 :: v72 :: v73 :: v74 :: v75 :: v76 :: v77 :: v78 :: v79 :: v80 :: v81 :: v82 :: v83 :: v84 :: v85 :: v86 :: v87 :: v88 :: v89 :: v90 :: v91 :: v92 :: v93 :: v94 :: v95 :: v96 :: v97 :: v98 :: v99 :: v100 :: v101 :: v102 :: v103 :: v104 :: v105 :: v106 :: v107 :: v108 :: v109 :: v110 :: v111 :: v112 :: v113 :: v114 :: v115 :: v116 :: v117 :: v118 :: v119 :: v120 :: v121 :: v122 :: v123 :: v124 :: v125 :: v126 :: v127 :: v128 :: v129 :: v130 :: v131 :: v132 :: v133 :: v134 :: v135 :: v136 :: v137 :: v138 :: v139 :: v140 :: v141 :: v142 :: v143 :: v144 :: v145 :: v146 :: v147 :: v148 :: v149 :: v150 :: v151 :: v152 :: v153 :: v154 :: v155 :: v156 :: v157 :: v158 :: v159 :: v160 :: v161 :: v162 :: v163 :: v164 :: v165 :: v166 :: v167 :: v168 :: v169 :: v170 :: v171 :: v172 :: v173 :: v174 :: v175 :: v176 :: v177 :: v178 :: v179 :: v180 :: v181 :: v182 :: v183 :: v184 :: v185 :: v186 :: v187 :: v188 :: v189 :: v190 :: v191 :: v192 :: v193 :: v194 :: v195 :: v196 :: v197 :: v198 :: v199 :: v200 :: v201 :: v202 :: v203 :: v204 :: v205 :: v206 :: v207 :: v208 :: v209 :: v210 :: v211 :: v212 :: v213 :: v214 :: v215 :: v216 :: []), []⟩ V := by
  have mixed : Try.prog.follows .mixedOrders = true := by kernel_rfl
  have HEX := show Hid _ from hexit
  have HKS : Hid (∀ X, V.grownBy X none → (X.cell? ⟨pb, 0, none⟩ = some (.slice (some ⟨eb, eo, none⟩) N dc) ∧ X.cell? ⟨pb, 1, none⟩ = some (.slice (af 1) (n 1) (cf 1)) ∧ X.cell? ⟨pb, 2, none⟩ = some (.slice (af 2) (n 2) (cf 2)) ∧ X.cell? ⟨pb, 3, none⟩ = some (.slice (af 3) (n 3) (cf 3)) ∧ X.cell? ⟨pb, 4, none⟩ = some (.slice (af 4) (n 4) (cf 4)) ∧ X.cell? ⟨pb, 5, none⟩ = some (.slice (af 5) (n 5) (cf 5)) ∧ X.cell? ⟨pb, 6, none⟩ = some (.slice (af 6) (n 6) (cf 6)) ∧ X.cell? ⟨pb, 7, none⟩ = some (.slice (af 7) (n 7) (cf 7))) ∧ X.cell? ⟨db, 1, none⟩ = some (.slice (some ⟨ra, ro, none⟩) N c) ∧ X.cell? ⟨ra, ro + q, none⟩ = some (.slice (some ⟨rb, so, none⟩) ln lc) ∧ X.cell? ⟨rb, so + j, none⟩ = some (.int .i64 m)) := fun X hX => ⟨hp X hX, hd X hX⟩
  have HUP : Hid (V.grownBy V.drew none) := grown_drewN V 1
  have HA := show Hid _ from hA
  have hq0 : (0 : Int) ≤ (q : Int) := by omega
  have hq1 : (q : Int) < (N : Int) := by omega
  have hj0 : (0 : Int) ≤ (j : Int) := by omega
  have hj1 : (j : Int) < (ln : Int) := by omega
  have hmd : decide (0 ≤ m) = true := decide_eq_true hm
  have e0 : (m != m) = false := bne_self_eq_false _
  clear hA hp hd hexit
  conv => arg 2; whnf
  go_region_held3 (fun X => (X.cell? ⟨pb, 0, none⟩ = some (.slice (some ⟨eb, eo, none⟩) N dc) ∧ X.cell? ⟨pb, 1, none⟩ = some (.slice (af 1) (n 1) (cf 1)) ∧ X.cell? ⟨pb, 2, none⟩ = some (.slice (af 2) (n 2) (cf 2)) ∧ X.cell? ⟨pb, 3, none⟩ = some (.slice (af 3) (n 3) (cf 3)) ∧ X.cell? ⟨pb, 4, none⟩ = some (.slice (af 4) (n 4) (cf 4)) ∧ X.cell? ⟨pb, 5, none⟩ = some (.slice (af 5) (n 5) (cf 5)) ∧ X.cell? ⟨pb, 6, none⟩ = some (.slice (af 6) (n 6) (cf 6)) ∧ X.cell? ⟨pb, 7, none⟩ = some (.slice (af 7) (n 7) (cf 7))) ∧ X.cell? ⟨db, 1, none⟩ = some (.slice (some ⟨ra, ro, none⟩) N c) ∧ X.cell? ⟨ra, ro + q, none⟩ = some (.slice (some ⟨rb, so, none⟩) ln lc) ∧ X.cell? ⟨rb, so + j, none⟩ = some (.int .i64 m)) (first | exact HKS.out _ HUP.out | exact HKS.out _ HG4.out | go_keep)
    ((first
      | (go_at_call 24; refine Calls.mono (HA.out _ (by first | exact HUP.out | exact HG4.out)) ?_; rintro e w3 ⟨rfl, hg3⟩; have HG4 : Hid (V.grownBy w3 none) := (by first | exact grown_trans HUP.out hg3 | exact grown_trans HG4.out hg3); clear hg3)
      | fail))
  all_goals first | exact HEX.out _ _ _ _ _ _ _ _ _ _ _ _ _ _ _ _ _ _ _ _ _ _ _ _ HG4.out | exact HEX.out _ _ _ _ _ _ _ _ _ _ _ _ _ _ _ _ _ _ _ _ _ _ _ _ HUP.out

theorem pl_s27q {Q0 : Exit → Act → World → Prop} {V : World} {db pb eb eo N dc c q : Nat} {af : Nat → Option Addr} {cf n : Nat → Nat} {ra ro rb so ln lc j : Nat} {m : Int}
    {v0 v2 v4 v6 v7 v8 v9 v11 v12 v13 v14 v15 v16 v17 v18 v19 v20 v21 v22 v23 v24 v25 v26 v27 v28 v29 v30 v31 v32 v33 v34 v35 v36 v37 v38 v39 v40 v41 v42 v43 v44 v45 v46 v47 v48 v49 v50 v51 v52 v53 v54 v55 v56 v57 v58 v59 v60 v61 v62 v63 v64 v65 v66 v67 v68 v69 v70 v71 v72 v73 v74 v75 v76 v77 v78 v79 v80 v81 v82 v83 v84 v85 v86 v87 v88 v89 v90 v91 v92 v93 v94 v95 v96 v97 v98 v99 v100 v101 v102 v103 v104 v105 v106 v107 v108 v109 v110 v111 v112 v113 v114 v115 v116 v117 v118 v119 v120 v121 v122 v123 v124 v125 v126 v127 v128 v129 v130 v131 v132 v133 v134 v135 v136 v137 v138 v139 v140 v141 v142 v143 v144 v145 v146 v147 v148 v149 v150 v151 v152 v153 v154 v155 v156 v157 v158 v159 v160 v161 v162 v163 v164 v165 v166 v167 v168 v169 v170 v171 v172 v173 v174 v175 v176 v177 v178 v179 v180 v181 v182 v183 v184 v185 v186 v187 v188 v189 v190 v191 v192 v193 v194 v195 v196 v197 v198 v199 v200 v201 v202 v203 v204 v205 v206 v207 v208 v209 v210 v211 v212 v213 v214 v215 v216 : Value}
    (hq : q < N)
    (hj : j < ln)
    (hp : ∀ X, V.grownBy X none → X.cell? ⟨pb, 0, none⟩ = some (.slice (some ⟨eb, eo, none⟩) N dc) ∧ X.cell? ⟨pb, 1, none⟩ = some (.slice (af 1) (n 1) (cf 1)) ∧ X.cell? ⟨pb, 2, none⟩ = some (.slice (af 2) (n 2) (cf 2)) ∧ X.cell? ⟨pb, 3, none⟩ = some (.slice (af 3) (n 3) (cf 3)) ∧ X.cell? ⟨pb, 4, none⟩ = some (.slice (af 4) (n 4) (cf 4)) ∧ X.cell? ⟨pb, 5, none⟩ = some (.slice (af 5) (n 5) (cf 5)) ∧ X.cell? ⟨pb, 6, none⟩ = some (.slice (af 6) (n 6) (cf 6)) ∧ X.cell? ⟨pb, 7, none⟩ = some (.slice (af 7) (n 7) (cf 7)))
    (hd : ∀ X, V.grownBy X none → X.cell? ⟨db, 1, none⟩ = some (.slice (some ⟨ra, ro, none⟩) N c) ∧ X.cell? ⟨ra, ro + q, none⟩ = some (.slice (some ⟨rb, so, none⟩) ln lc) ∧ X.cell? ⟨rb, so + j, none⟩ = some (.int .i64 m))
    (hA : ∀ X, V.grownBy X none → Calls Try.prog 24 #[.agg #[.slice (some ⟨eb, eo, none⟩) N dc, .slice (af 1) (n 1) (cf 1), .slice (af 2) (n 2) (cf 2), .slice (af 3) (n 3) (cf 3), .slice (af 4) (n 4) (cf 4), .slice (af 5) (n 5) (cf 5), .slice (af 6) (n 6) (cf 6), .slice (af 7) (n 7) (cf 7)], .int .i64 (q : Int), .int .i64 (j : Int)] X fun e y => e = .returned (.int .i64 m) ∧ X.grownBy y none)
    (hm : 0 ≤ m)
    (hexit : ∀ (wz : World) (u161 u162 u163 u164 u165 u166 u167 u168 u169 u170 u171 u172 u173 u174 u175 u176 u177 u178 u179 u180 u181 u182 u183 : Value), V.grownBy wz none → Q0 .normal ⟨List.toArray (v0 :: .pointer (some ⟨db, 0, none⟩) :: v2 :: .pointer (some ⟨pb, 0, none⟩) :: v4 :: .int .i64 (q : Int) :: v6 :: v7 :: v8 :: v9 :: .int .i64 (j : Int) :: v11 :: v12 :: v13 :: v14 :: v15 :: v16 :: v17 :: v18 :: v19 :: v20 :: v21 :: v22 :: v23 :: v24 :: v25 :: v26 :: v27 :: v28 :: v29 :: v30 :: v31 :: v32 :: v33 :: v34 :: v35 :: v36 :: v37 :: v38 :: v39 :: v40 :: v41 :: v42 :: v43 :: v44 :: v45 :: v46 :: v47 :: v48 :: v49 :: v50 :: v51 :: v52 :: v53 :: v54 :: v55 :: v56 :: v57 :: v58 :: v59 :: v60 :: v61 :: v62 :: v63 :: v64 :: v65 :: v66 :: v67 :: v68 :: v69 :: v70 :: v71 :: v72 :: v73 :: v74 :: v75 :: v76 :: v77 :: v78 :: v79 :: v80 :: v81 :: v82 :: v83 :: v84 :: v85 :: v86 :: v87 :: v88 :: v89 :: v90 :: v91 :: v92 :: v93 :: v94 :: v95 :: v96 :: v97 :: v98 :: v99 :: v100 :: v101 :: v102 :: v103 :: v104 :: v105 :: v106 :: v107 :: v108 :: v109 :: v110 :: v111 :: v112 :: v113 :: v114 :: v115 :: v116 :: v117 :: v118 :: v119 :: v120 :: v121 :: v122 :: v123 :: v124 :: v125 :: v126 :: v127 :: v128 :: v129 :: v130 :: v131 :: v132 :: v133 :: v134 :: v135 :: v136 :: v137 :: v138 :: v139 :: v140 :: v141 :: v142 :: v143 :: v144 :: v145 :: v146 :: v147 :: v148 :: v149 :: v150 :: v151 :: v152 :: v153 :: v154 :: v155 :: v156 :: v157 :: v158 :: v159 :: v160 :: u161 :: u162 :: u163 :: u164 :: u165 :: u166 :: u167 :: u168 :: u169 :: u170 :: u171 :: u172 :: u173 :: u174 :: u175 :: u176 :: u177 :: u178 :: u179 :: u180 :: u181 :: u182 :: u183 :: .bool false :: v185 :: v186 :: v187 :: v188 :: v189 :: v190 :: v191 :: v192 :: v193 :: v194 :: v195 :: v196 :: v197 :: v198 :: v199 :: v200 :: v201 :: v202 :: v203 :: v204 :: v205 :: v206 :: v207 :: v208 :: v209 :: v210 :: v211 :: v212 :: v213 :: v214 :: v215 :: v216 :: []), []⟩ wz) :
    Code.wp Try.prog plS27 Q0 ⟨List.toArray (v0 :: .pointer (some ⟨db, 0, none⟩) :: v2 :: .pointer (some ⟨pb, 0, none⟩) :: v4 :: .int .i64 (q : Int) :: v6 :: v7 :: v8 :: v9 :: .int .i64 (j : Int) :: v11 :: v12 :: v13 :: v14 :: v15 :: v16 :: v17 :: v18 :: v19 :: v20 :: v21 :: v22 :: v23 :: v24 :: v25 :: v26 :: v27 :: v28 :: v29 :: v30 :: v31 :: v32 :: v33 :: v34 :: v35 :: v36 :: v37 :: v38 :: v39 :: v40 :: v41 :: v42 :: v43 :: v44 :: v45 :: v46 :: v47 :: v48 :: v49 :: v50 :: v51 :: v52 :: v53 :: v54 :: v55 :: v56 :: v57 :: v58 :: v59 :: v60 :: v61 :: v62 :: v63 :: v64 :: v65 :: v66 :: v67 :: v68 :: v69 :: v70 :: v71 :: v72 :: v73 :: v74 :: v75 :: v76 :: v77 :: v78 :: v79 :: v80 :: v81 :: v82 :: v83 :: v84 :: v85 :: v86 :: v87 :: v88 :: v89 :: v90 :: v91 :: v92 :: v93 :: v94 :: v95 :: v96 :: v97 :: v98 :: v99 :: v100 :: v101 :: v102 :: v103 :: v104 :: v105 :: v106 :: v107 :: v108 :: v109 :: v110 :: v111 :: v112 :: v113 :: v114 :: v115 :: v116 :: v117 :: v118 :: v119 :: v120 :: v121 :: v122 :: v123 :: v124 :: v125 :: v126 :: v127 :: v128 :: v129 :: v130 :: v131 :: v132 :: v133 :: v134 :: v135 :: v136 :: v137 :: v138 :: v139 :: v140 :: v141 :: v142 :: v143 :: v144 :: v145 :: v146 :: v147 :: v148 :: v149 :: v150 :: v151 :: v152 :: v153 :: v154 :: v155 :: v156 :: v157 :: v158 :: v159 :: v160 :: v161 :: v162 :: v163 :: v164 :: v165 :: v166 :: v167 :: v168 :: v169 :: v170 :: v171 :: v172 :: v173 :: v174 :: v175 :: v176 :: v177 :: v178 :: v179 :: v180 :: v181 :: v182 :: v183 :: v184 :: v185 :: v186 :: v187 :: v188 :: v189 :: v190 :: v191 :: v192 :: v193 :: v194 :: v195 :: v196 :: v197 :: v198 :: v199 :: v200 :: v201 :: v202 :: v203 :: v204 :: v205 :: v206 :: v207 :: v208 :: v209 :: v210 :: v211 :: v212 :: v213 :: v214 :: v215 :: v216 :: []), []⟩ V :=
  wp_mono (pl_s27 (K := fun a w => Q0 .normal a w) hq hj hp hd hA hm hexit) fun e a w h => by
    cases e <;> first | exact h | exact h.elim

end Go.Proofs.Ytgmljpkenipgjaa.J
