import Derived.Test.YtkcdipnobgggkaaQlochjbjjdhjh

/-
  trans: transitions.
-/
namespace Go.Proofs.Ytkcdipnobgggkaa.J
open Go.RowKit Go.Maps Go.Shelf

attribute [local go_sem] Oper.semAt_some

theorem infoTrans : (Try.prog.info? 62).map (fun i => (i.zero, i.size, i.bytes)) = some (some (.agg #[.int .i64 0, .int .i64 0]), 2, 16) := by kernel_rfl
/-- The transitions among edges of a state. -/
def trI (tn : Nat) (l : List (Nat × Nat)) (i : Nat) : List It := (l.filter fun x => decide (tn ≤ x.1)).map fun x => ((i : Int), (x.1 : Int))
theorem trI_snoc (tn : Nat) (l : List (Nat × Nat)) (i s t : Nat) : trI tn (l ++ [(s, t)]) i = trI tn l i ++ (if tn ≤ s then [((i : Int), (s : Int))] else []) := by
  unfold trI
  rw [List.filter_append, List.map_append]
  by_cases h : tn ≤ s
  · rw [if_pos h]; simp [h]
  · rw [if_neg h]; simp [h]
theorem trI_len (tn : Nat) (l : List (Nat × Nat)) (i : Nat) : (trI tn l i).length ≤ l.length := by
  unfold trI
  rw [List.length_map]
  exact List.length_filter_le _ _
/-- The transitions of the states below i. -/
def trT (tn : Nat) (es : List (List (Nat × Nat))) : Nat → List It
  | 0 => []
  | i + 1 => trT tn es i ++ trI tn (es.getD i []) i
theorem take_snocE {l : List (Nat × Nat)} {j s t : Nat} (hj : j < l.length) (he : l.getD j (0, 0) = (s, t)) : l.take (j + 1) = l.take j ++ [(s, t)] := by
  rw [List.take_succ_eq_append_getElem hj]
  rw [List.getD_eq_getElem?_getD, List.getElem?_eq_getElem hj] at he
  exact congrArg _ (congrArg (fun y => [y]) he)
theorem trT_len {tn c : Nat} {es : List (List (Nat × Nat))} : ∀ (i : Nat), (∀ q, q < i → (es.getD q []).length ≤ c) → (trT tn es i).length ≤ i * c
  | 0, _ => by simp [trT]
  | i + 1, h => by
    unfold trT
    rw [List.length_append, Nat.succ_mul]
    have h1 := trT_len (tn := tn) i fun q hq => h q (by omega)
    have h2 := trI_len tn (es.getD i []) i
    have h3 := h i (by omega)
    omega

section
variable (ta na la pa sa : Option Addr) (tc nc lc pc sc : Nat) (n N lb : Nat) (st : Int) (w : World) (tn nn ln : Nat)

/-- What transitions tells. -/
def TrTold (l : List It) (w : World) (e : Ending) (y : World) : Prop := ∃ (a : Option Addr) (c : Nat), e = .returned (.slice a l.length c) ∧ y.ownsRow w.heap.size 62 2 (.slice a l.length c) l.length (itsV l) ∧ w.grownBy y none

set_option maxRecDepth 100000 in
set_option maxHeartbeats 4000000 in
theorem trans_any (B : Nat) (ks : List (List It)) (es : List (List (Nat × Nat))) (kv ev : Nat → Value) (hN : N = ks.length) (hN256 : N ≤ 256) (hP : AutP B w (.slice sa ks.length sc) ks (elF es) kv ev) (hes : ∀ q, q < ks.length → (es.getD q []).length ≤ 130) :
    Calls Try.prog 29 #[.agg #[.slice ta tn tc, .slice na nn nc, .slice la ln lc, .int .i64 st, .slice pa n pc, .slice sa N sc, .map (some lb)]] w fun e y => TrTold (trT tn es N) w e y := by
  have HN : Hid (N = ks.length) := hN
  have HP : Hid (∀ Y, w.grownBy Y none → AutP B Y (.slice sa ks.length sc) ks (elF es) kv ev) := fun Y hY => hP.kept hY
  have HES := show Hid _ from hes
  have HB0 : Hid ((w.alloc (.cells #[.slice ta tn tc, .slice na nn nc, .slice la ln lc, .int .i64 st, .slice pa n pc, .slice sa N sc, .map (some lb)] 72)).heap[w.heap.size]? = some (.cells #[.slice ta tn tc, .slice na nn nc, .slice la ln lc, .int .i64 st, .slice pa n pc, .slice sa N sc, .map (some lb)] 72 (0, 0))) := heap_alloc_last w _
  obtain ⟨i0, hi0, hz0, hz1, hz2⟩ := info_parts infoTrans
  clear hP hes hN
  go_enter Try.func29, Try.ntmps29
  go_wp2_with fail
  obtain ⟨W, hW⟩ : ∃ W, W = w.alloc (.cells #[.slice ta tn tc, .slice na nn nc, .slice la ln lc, .int .i64 st, .slice pa n pc, .slice sa N sc, .map (some lb)] 72) := ⟨_, rfl⟩
  rw [← hW] at HB0 ⊢
  have HGW : Hid (w.grownBy W none) := by rw [hW]; exact World.grownBy_alloc _ _ none
  clear hW
  go_loopg [3, 11] N (fun gk v3 v11 wr => ∃ (i L : Nat) (a : Option Addr) (c : Nat), i ≤ N ∧ gk = N - i ∧ v11 = .int .i64 i ∧ v3 = .slice a L c ∧ L = (trT tn es i).length ∧ wr.ownsRow W.heap.size 62 2 (.slice a L c) L (itsV (trT tn es i)) ∧ W.grownBy wr none)
  case atStart => exact ⟨0, 0, none, 0, Nat.zero_le _, rfl, rfl, rfl, rfl, World.ownsRow_nil _ _ _ _, grown_refl _ _⟩
  case round =>
    obtain ⟨i, L, a, c, hi, hgi, rfl, rfl, hLl, hown, hg⟩ := hrel
    have HGI : Hid (gk = N - i) := hgi
    have HLL : Hid (L = (trT tn es i).length) := hLl
    have HO : Hid (wr.ownsRow W.heap.size 62 2 (.slice a L c) L (itsV (trT tn es i))) := hown
    have HG : Hid (W.grownBy wr none) := hg
    have hLb : L ≤ i * 130 := by rw [hLl]; exact trT_len i fun q hq => HES.out q (by have := HN.out; omega)
    clear hgi hLl hown hg
    generalize wr = Z at *
    by_cases hlt : i < N
    · have hid : decide (i < N) = true := decide_eq_true hlt
      have hi0' : (0 : Int) ≤ (i : Int) := by omega
      have hi1 : (i : Int) < (N : Int) := by omega
      have hik : i < ks.length := by rw [← HN.out]; exact hlt
      have hPZ := HP.out Z (grown_trans HGW.out HG.out)
      obtain ⟨sb, sc', hsv, hs0, hs1⟩ := hPZ.st hik
      simp only [Value.slice.injEq] at hsv
      obtain ⟨rfl, _, rfl⟩ := hsv
      obtain ⟨ka, kc, hkv, _, _⟩ := hPZ.kerAt hik
      obtain ⟨ea, ec, hev, _⟩ := hPZ.edgAt hik
      have HEA : Hid (∀ Y, W.grownBy Y none → ItsAt Y ea (elF es i)) := fun Y hY => by
        obtain ⟨ea2, ec2, h1, h2⟩ := (HP.out Y (grown_trans HGW.out hY)).edgAt hik
        rw [hev] at h1
        simp only [Value.slice.injEq] at h1
        rw [h1.1]; exact h2
      rw [hkv] at hs0
      rw [hev] at hs1
      obtain ⟨kl, hkl⟩ : ∃ k, k = (ks.getD i []).length := ⟨_, rfl⟩
      obtain ⟨E, hE⟩ : ∃ E, E = (elF es i).length := ⟨_, rfl⟩
      rw [← hkl] at hs0
      rw [← hE] at hs1
      have HE : Hid (E = (es.getD i []).length) := by show _ = _; rw [hE]; exact elF_len _ _
      have hEb : E ≤ 130 := by rw [HE.out]; exact HES.out i hik
      clear hkl hE hkv hev hPZ
      go_wp2_with fail
      go_loopg [3, 19] E (fun gk v3 v19 wr => ∃ (j L : Nat) (a : Option Addr) (c : Nat), j ≤ E ∧ gk = E - j ∧ v19 = .int .i64 j ∧ v3 = .slice a L c ∧ L = (trT tn es i ++ trI tn ((es.getD i []).take j) i).length ∧ wr.ownsRow W.heap.size 62 2 (.slice a L c) L (itsV (trT tn es i ++ trI tn ((es.getD i []).take j) i)) ∧ W.grownBy wr none)
      case atStart => exact ⟨0, L, a, c, Nat.zero_le _, rfl, rfl, rfl, by simpa [trI] using HLL.out, by simpa [trI] using keep0 HO.out (World.grownBy_alloc _ _ none), grown_trans HG.out (World.grownBy_alloc _ _ none)⟩
      case round =>
        obtain ⟨j, L2, a2, c2, hj, hgj, rfl, rfl, hL2, hown2, hg2⟩ := hrel
        have HGJ : Hid (gk = E - j) := hgj
        have HL2 : Hid (L2 = (trT tn es i ++ trI tn ((es.getD i []).take j) i).length) := hL2
        have HO2 : Hid (wr.ownsRow W.heap.size 62 2 (.slice a2 L2 c2) L2 (itsV (trT tn es i ++ trI tn ((es.getD i []).take j) i))) := hown2
        have HG2 : Hid (W.grownBy wr none) := hg2
        have hL2b : L2 ≤ i * 130 + 130 := by
          rw [hL2, List.length_append, ← HLL.out]
          have h1 := trI_len tn ((es.getD i []).take j) i
          have h2 : ((es.getD i []).take j).length ≤ j := by rw [List.length_take]; omega
          omega
        clear hgj hL2 hown2 hg2
        by_cases hlj : j < E
        · have hjd : decide (j < E) = true := decide_eq_true hlj
          have hj0 : (0 : Int) ≤ (j : Int) := by omega
          have hj1 : (j : Int) < (E : Int) := by omega
          have hje : j < (es.getD i []).length := by rw [← HE.out]; exact hlj
          obtain ⟨eb, eo, hea, c0, c1⟩ := (HEA.out wr HG2.out).cellAt (i := j) (by rw [elF_len]; exact hje)
          subst hea
          rw [(elF_at hje).2] at c0 c1
          obtain ⟨x, hx⟩ : ∃ x, x = (es.getD i []).getD j (0, 0) := ⟨_, rfl⟩
          rw [← hx] at c0 c1
          obtain ⟨s, t⟩ := x
          simp only at c0 c1
          have HTK : Hid (trI tn ((es.getD i []).take (j + 1)) i = trI tn ((es.getD i []).take j) i ++ (if tn ≤ s then [((i : Int), (s : Int))] else [])) := by
            show _ = _
            rw [take_snocE hje hx.symm, trI_snoc]
          have HA : Hid (W.grownBy (wr.alloc (.cells #[.int .i64 (s : Int), .int .i64 (t : Int)] 60)) none) := grown_trans HG2.out (World.grownBy_alloc _ _ none)
          obtain ⟨k0, k1, k2, k3, k4, k5, k6⟩ := cells7 (box_kept HB0.out HA.out)
          by_cases hts : tn ≤ s
          · have HIT := show Hid _ from isTerm_any ta na la pa (some ⟨sb, 0, none⟩) tc nc lc pc sc n N lb st (wr.alloc (.cells #[.int .i64 (s : Int), .int .i64 (t : Int)] 60)) tn nn ln (s : Int) false (decide_eq_false (by omega)).symm
            clear hx hje
            go_wp2_with fail
            refine Calls.mono HIT.out ?_
            rintro e w5 ⟨rfl, hg5⟩
            have HG5 : Hid (W.grownBy w5 none) := grown_trans HA.out hg5
            have HO5 : Hid (w5.ownsRow W.heap.size 62 2 (.slice a2 L2 c2) L2 (itsV (trT tn es i ++ trI tn ((es.getD i []).take j) i))) := keep0 HO2.out (grown_trans (World.grownBy_alloc _ _ none) hg5)
            have hbx : w5.heap[wr.heap.size]? = some (.cells #[.int .i64 (s : Int), .int .i64 (t : Int)] 60 (0, 0)) := box_kept (heap_alloc_last wr _) hg5
            have r0 : w5.cell? ⟨wr.heap.size, 0, none⟩ = some (.int .i64 (s : Int)) := by rw [cell_of_row _ _ _ _ _ _ hbx]; rfl
            have hsz := HG5.out.size
            clear hg5 hbx HIT k0 k1 k2 k3 k4 k5 k6 c0 c1
            go_wp2_with (at_builtin; refine wpList_append_lies _ rfl (.tmp 28) (.tmp 33) 45 rfl W.heap.size 62 i0 (.agg #[.int .i64 0, .int .i64 0]) 2 16 Try.underlying45 hi0 hz0 hz1 hz2 rfl (by decide) (.slice a2 L2 c2) L2 (itsV (trT tn es i ++ trI tn ((es.getD i []).take j) i)) rfl (HO5.out.alloc _) ⟨w5.heap.size, 0, none⟩ 1 1 [.int .i64 (i : Int), .int .i64 (s : Int)] rfl rfl (World.news_of_block (heap_alloc_last w5 _)) (by simp [Value.oneCell']) (by decide) (by unfold maxLen; omega) (by omega) (by simp; omega) _ rfl ?_)
            intro g7 c7 V hoV hgV _ _
            have HOV : Hid (V.ownsRow W.heap.size 62 2 (.slice (some ⟨g7, 0, none⟩) (L2 + 1) c7) (L2 + 1) (itsV (trT tn es i ++ trI tn ((es.getD i []).take (j + 1)) i))) := by
              rw [HTK.out, if_pos hts, ← List.append_assoc, itsV_append]; exact hoV
            have HLV : Hid (L2 + 1 = (trT tn es i ++ trI tn ((es.getD i []).take (j + 1)) i).length) := by
              show _ = _
              rw [HTK.out, if_pos hts, ← List.append_assoc, List.length_append, ← HL2.out]; rfl
            have HGV : Hid (W.grownBy V none) := grown_owned (grown_trans HG5.out (World.grownBy_alloc _ _ none)) (HO5.out.alloc _) (Nat.le_refl _) hgV
            clear hoV hgV r0
            go_wp2_with fail
            go_roundg (E - (j + 1))
            case measure => have := HGJ.out; omega
            case rel => exact ⟨j + 1, L2 + 1, some ⟨g7, 0, none⟩, c7, by omega, rfl, by go_num, rfl, HLV.out, HOV.out, HGV.out⟩
          · have HIT := show Hid _ from isTerm_any ta na la pa (some ⟨sb, 0, none⟩) tc nc lc pc sc n N lb st (wr.alloc (.cells #[.int .i64 (s : Int), .int .i64 (t : Int)] 60)) tn nn ln (s : Int) true (decide_eq_true (by omega)).symm
            clear hx hje
            go_wp2_with fail
            refine Calls.mono HIT.out ?_
            rintro e w5 ⟨rfl, hg5⟩
            have HG5 : Hid (W.grownBy w5 none) := grown_trans HA.out hg5
            have HO5 : Hid (w5.ownsRow W.heap.size 62 2 (.slice a2 L2 c2) L2 (itsV (trT tn es i ++ trI tn ((es.getD i []).take (j + 1)) i))) := by
              rw [HTK.out, if_neg hts, List.append_nil]; exact keep0 HO2.out (grown_trans (World.grownBy_alloc _ _ none) hg5)
            have HL5 : Hid (L2 = (trT tn es i ++ trI tn ((es.getD i []).take (j + 1)) i).length) := by
              show _ = _
              rw [HTK.out, if_neg hts, List.append_nil]; exact HL2.out
            clear hg5 HIT k0 k1 k2 k3 k4 k5 k6 c0 c1
            go_wp2_with fail
            go_roundg (E - (j + 1))
            case measure => have := HGJ.out; omega
            case rel => exact ⟨j + 1, L2, a2, c2, by omega, rfl, by go_num, rfl, HL5.out, HO5.out, HG5.out⟩
        · have hjE : E = j := by omega
          subst hjE
          have hjd : decide (E < E) = false := decide_eq_false (by omega)
          have e9 : trT tn es i ++ trI tn ((es.getD i []).take E) i = trT tn es (i + 1) := by
            rw [HE.out, List.take_length]; rfl
          rw [e9] at HO2 HL2
          clear e9
          go_wp2_with fail
          go_roundg (N - (i + 1))
          case measure => have := HGI.out; omega
          case rel => exact ⟨i + 1, L2, a2, c2, by omega, rfl, by go_num, rfl, HL2.out, HO2.out, HG2.out⟩
    · have hiN : N = i := by omega
      subst hiN
      have hid : decide (N < N) = false := decide_eq_false (by omega)
      go_wp2_with fail
      go_ret
      exact ⟨a, c, by rw [← HLL.out]; rfl, by rw [← HLL.out]; exact owns_base HO.out HGW.out.size, grown_trans HGW.out HG.out⟩
end

end Go.Proofs.Ytkcdipnobgggkaa.J

/-
  trans: Walk and List, exported.
-/
namespace Go.Proofs.Ytkcdipnobgggkaa.J
open Go.RowKit Go.Maps Go.Shelf

attribute [local go_sem] Oper.semAt_some

/-- Is it no symbol? -/
def noB (S : Nat) (s : Int) : Bool := !(decide (0 ≤ s ∧ s < (S : Int)))
section
variable (ta na la pa sa : Option Addr) (tc nc lc pc sc : Nat) (n N lb : Nat) (st : Int) (w : World) (tn nn ln : Nat)

set_option maxRecDepth 100000 in
theorem tindex_any (htn : tn ≤ 65) (hnn : nn ≤ 65) (ra : Option Addr) (rc : Nat) (l : List Int) (hl : IntsAt w ra l) (hn : l.length ≤ 1099511627776000) :
    Calls Try.prog 33 #[.slice ra l.length rc, .func (.func 21) #[.agg #[.slice ta tn tc, .slice na nn nc, .slice la ln lc, .int .i64 st, .slice pa n pc, .slice sa N sc, .map (some lb)]] #[]] w fun e w' => (∃ q : Int, e = .returned (.int .i64 q) ∧ -1 ≤ q ∧ (0 ≤ q ↔ ∃ x ∈ l, noB (tn + nn) x = true)) ∧ w.grownBy w' none := by
  have HL : Hid (IntsAt w ra l) := hl
  obtain ⟨m, hln⟩ : ∃ m, m = l.length := ⟨_, rfl⟩
  have HLN : Hid (l.length = m) := hln.symm
  rw [← hln] at hn ⊢
  have HRO : Hid (∀ x X, Calls Try.prog 21 #[.agg #[.slice ta tn tc, .slice na nn nc, .slice la ln lc, .int .i64 st, .slice pa n pc, .slice sa N sc, .map (some lb)], .int .i64 x] X fun e w' => e = .returned (.bool (noB (tn + nn) x)) ∧ X.grownBy w' none) := fun x X => isNoSym_any ta na la pa sa tc nc lc pc sc n N lb st X tn nn ln htn hnn x _ rfl
  clear hl hln htn hnn
  go_enter Try.func33, Try.ntmps33
  go_wp2_with fail
  go_loopg [8] m (fun gk j wr => ∃ k : Nat, k ≤ m ∧ gk = m - k ∧ j = .int .i64 k ∧ w.grownBy wr none ∧ ¬ ∃ x ∈ l.take k, noB (tn + nn) x = true)
  case atStart => exact ⟨0, Nat.zero_le _, rfl, rfl, grown_refl _ _, by simp⟩
  case round =>
    obtain ⟨k, hk, hgk, rfl, hg, hno⟩ := hrel
    have HGK : Hid (gk = m - k) := hgk
    have HG : Hid (w.grownBy wr none) := hg
    have HA : Hid (¬ ∃ x ∈ l.take k, noB (tn + nn) x = true) := hno
    clear hno hg hgk
    by_cases hlt : k < m
    · have hkl : k < l.length := by rw [HLN.out]; exact hlt
      obtain ⟨bl, off, hra, hc0⟩ : ∃ b off, ra = some ⟨b, off, none⟩ ∧ wr.cell? ⟨b, off + k, none⟩ = some (.int .i64 (l.getD k 0)) := by
        rcases HL.out.kept HG.out with h | ⟨b, off, e, h⟩
        · rw [h] at hkl; cases hkl
        · exact ⟨b, off, e, h k hkl⟩
      subst hra
      obtain ⟨x, hx⟩ : ∃ x, x = l.getD k 0 := ⟨_, rfl⟩
      have HMM : Hid (x ∈ l ∧ l.take (k + 1) = l.take k ++ [x]) := by
        have e : l.getD k 0 = l[k] := by rw [List.getD_eq_getElem?_getD, List.getElem?_eq_getElem hkl]; rfl
        refine ⟨by rw [hx, e]; exact List.getElem_mem _, by rw [List.take_succ_eq_append_getElem hkl, hx, e]⟩
      rw [← hx] at hc0
      have hk0 : (0 : Int) ≤ (k : Int) := by omega
      have hk1 : (k : Int) < (m : Int) := by omega
      have hkd : decide (k < m) = true := decide_eq_true hlt
      have HH := show Hid _ from HRO.out x wr
      obtain ⟨b, hb⟩ : ∃ b, b = noB (tn + nn) x := ⟨_, rfl⟩
      have HBE : Hid (b = noB (tn + nn) x) := hb
      rw [← hb] at HH
      clear hx hb
      go_wp2_with fail
      refine Calls.mono HH.out ?_
      rintro e w2 ⟨rfl, hg2⟩
      have HG2 : Hid (w.grownBy w2 none) := grown_trans HG.out hg2
      clear HH hg2 hc0
      cases b with
      | true =>
        go_wp2_with fail
        go_ret
        exact ⟨⟨k, rfl, by omega, ⟨fun _ => ⟨x, HMM.out.1, HBE.out.symm⟩, fun _ => by omega⟩⟩, HG2.out⟩
      | false =>
        go_wp2_with fail
        go_roundg (m - (k + 1))
        case measure => have := HGK.out; omega
        case rel => exact ⟨k + 1, by omega, rfl, by go_num, HG2.out, by
          rintro ⟨y, hy, h3⟩
          rw [HMM.out.2] at hy
          rcases List.mem_append.1 hy with hy | hy
          · exact HA.out ⟨y, hy, h3⟩
          · simp only [List.mem_singleton] at hy
            rw [hy, ← HBE.out] at h3
            cases h3⟩
    · have hkn : m = k := by omega
      subst hkn
      have hkd : decide (m < m) = false := decide_eq_false (by omega)
      have ht : l.take m = l := List.take_of_length_le (Nat.le_of_eq HLN.out)
      rw [ht] at HA
      go_wp2_with fail
      go_ret
      exact ⟨⟨-1, rfl, by omega, ⟨fun h => absurd h (by omega), fun h => absurd h HA.out⟩⟩, HG.out⟩

theorem tcont_any (htn : tn ≤ 65) (hnn : nn ≤ 65) (ra : Option Addr) (rc : Nat) (l : List Int) (hl : IntsAt w ra l) (hn : l.length ≤ 1099511627776000) (r : Bool) (hr : r = true ↔ ∃ x ∈ l, noB (tn + nn) x = true) :
    Calls Try.prog 20 #[.slice ra l.length rc, .func (.func 21) #[.agg #[.slice ta tn tc, .slice na nn nc, .slice la ln lc, .int .i64 st, .slice pa n pc, .slice sa N sc, .map (some lb)]] #[]] w fun e w' => e = .returned (.bool r) ∧ w.grownBy w' none := by
  have hI := tindex_any ta na la pa sa tc nc lc pc sc n N lb st w tn nn ln htn hnn ra rc l hl hn
  have HR : Hid (r = true ↔ ∃ x ∈ l, noB (tn + nn) x = true) := hr
  clear hl hr htn hnn
  go_enter Try.func20, Try.ntmps20
  go_wp2_with fail
  refine hI.mono ?_
  rintro e w2 ⟨⟨q, rfl, h1, h2⟩, hg⟩
  have HQ : Hid (decide (0 ≤ q) = r) := by
    show decide (0 ≤ q) = r
    rw [Bool.eq_iff_iff, decide_eq_true_eq, h2, HR.out]
  clear h2 hI
  go_wp2_with fail
  go_ret
  exact ⟨by rw [← HQ.out]; rfl, hg⟩
end

section
variable (ta na la pa : Option Addr) (tc nc lc pc : Nat) (n : Nat) (st : Int) (w : World) (tn nn ln : Nat)
/-- automatonOf, where it answers an error. -/
def OfBad (ec : Int) : Prop := ∀ X, w.grownBy X none → Calls Try.prog 19 #[.agg #[.slice ta tn tc, .slice na nn nc, .slice la ln lc, .int .i64 st, .slice pa n pc]] X fun e y => e = .returned (.tuple #[.agg #[.slice none 0 0, .slice none 0 0, .slice none 0 0, .int .i64 0, .slice none 0 0, .slice none 0 0, .map none], .int .i64 ec]) ∧ X.grownBy y none
/-- .. and where it tells an automaton. -/
def OfOk (ks : List (List It)) (es : List (List (Nat × Nat))) : Prop := ∀ X, w.grownBy X none → Calls Try.prog 19 #[.agg #[.slice ta tn tc, .slice na nn nc, .slice la ln lc, .int .i64 st, .slice pa n pc]] X fun e y => OfTold ta na la pa tc nc lc pc n st tn nn ln ks es X e y

set_option maxRecDepth 100000 in
theorem walkX_bad (ec : Int) (hec : ec = 1 ∨ ec = 11) (hO : OfBad ta na la pa tc nc lc pc n st w tn nn ln ec) (from_ : Int) (ra : Option Addr) (rl rc : Nat) : Calls Try.prog 10 #[.agg #[.slice ta tn tc, .slice na nn nc, .slice la ln lc, .int .i64 st, .slice pa n pc], .int .i64 from_, .slice ra rl rc] w fun e y => e = .returned (.tuple #[.int .i64 0, .int .i64 ec]) ∧ w.grownBy y none := by
  have HO : Hid (OfBad ta na la pa tc nc lc pc n st w tn nn ln ec) := hO
  have HX0 : Hid (w.grownBy (w.alloc (.cells #[.slice ta tn tc, .slice na nn nc, .slice la ln lc, .int .i64 st, .slice pa n pc] 27)) none) := World.grownBy_alloc _ _ none
  have hne : (ec != 0) = true := bne_iff_ne.2 (by omega)
  clear hO hec
  go_enter Try.func10, Try.ntmps10
  go_wp2_with fail
  refine Calls.mono (HO.out _ HX0.out) ?_
  rintro e w1 ⟨rfl, hg1⟩
  have HG1 : Hid (w.grownBy w1 none) := grown_trans HX0.out hg1
  clear hg1
  go_wp2_with fail
  go_ret2
  exact ⟨rfl, grown_trans HG1.out (World.grownBy_alloc _ _ none)⟩

set_option maxRecDepth 100000 in
theorem listX_bad (ec : Int) (hec : ec = 1 ∨ ec = 11) (hO : OfBad ta na la pa tc nc lc pc n st w tn nn ln ec) : Calls Try.prog 14 #[.agg #[.slice ta tn tc, .slice na nn nc, .slice la ln lc, .int .i64 st, .slice pa n pc]] w fun e y => e = .returned (.tuple #[.slice none 0 0, .int .i64 ec]) ∧ w.grownBy y none := by
  have HO : Hid (OfBad ta na la pa tc nc lc pc n st w tn nn ln ec) := hO
  have HX0 : Hid (w.grownBy (w.alloc (.cells #[.slice ta tn tc, .slice na nn nc, .slice la ln lc, .int .i64 st, .slice pa n pc] 27)) none) := World.grownBy_alloc _ _ none
  have hne : (ec != 0) = true := bne_iff_ne.2 (by omega)
  clear hO hec
  go_enter Try.func14, Try.ntmps14
  go_wp2_with fail
  refine Calls.mono (HO.out _ HX0.out) ?_
  rintro e w1 ⟨rfl, hg1⟩
  have HG1 : Hid (w.grownBy w1 none) := grown_trans HX0.out hg1
  clear hg1
  go_wp2_with fail
  go_ret2
  exact ⟨rfl, grown_trans HG1.out (World.grownBy_alloc _ _ none)⟩

/-- What List tells. -/
def TrErr (l : List It) (w : World) (e : Ending) (y : World) : Prop := ∃ (a : Option Addr) (c : Nat), e = .returned (.tuple #[.slice a l.length c, .int .i64 0]) ∧ y.ownsRow w.heap.size 62 2 (.slice a l.length c) l.length (itsV l) ∧ w.grownBy y none

set_option maxRecDepth 100000 in
theorem listX_ok (ks : List (List It)) (es : List (List (Nat × Nat))) (hN256 : ks.length ≤ 256) (hes : ∀ q, q < ks.length → (es.getD q []).length ≤ 130) (hO : OfOk ta na la pa tc nc lc pc n st w tn nn ln ks es) : Calls Try.prog 14 #[.agg #[.slice ta tn tc, .slice na nn nc, .slice la ln lc, .int .i64 st, .slice pa n pc]] w fun e y => TrErr (trT tn es ks.length) w e y := by
  have HO : Hid (OfOk ta na la pa tc nc lc pc n st w tn nn ln ks es) := hO
  have HX0 : Hid (w.grownBy (w.alloc (.cells #[.slice ta tn tc, .slice na nn nc, .slice la ln lc, .int .i64 st, .slice pa n pc] 27)) none) := World.grownBy_alloc _ _ none
  have HES := show Hid _ from hes
  have HNB : Hid (ks.length ≤ 256) := hN256
  clear hO hes hN256
  go_enter Try.func14, Try.ntmps14
  go_wp2_with fail
  refine Calls.mono (HO.out _ HX0.out) ?_
  rintro e w1 ⟨sa, sc, kv, ev, lb, m, rfl, hAP, hLd, hg1⟩
  have HG1 : Hid (w.grownBy (w1.alloc (.cells #[.slice ta tn tc, .slice na nn nc, .slice la ln lc, .int .i64 st, .slice pa n pc, .slice sa ks.length sc, .map (some lb)] 72)) none) := grown_trans HX0.out (grown_trans hg1 (World.grownBy_alloc _ _ none))
  have HT := show Hid _ from trans_any ta na la pa sa tc nc lc pc sc n ks.length lb st (w1.alloc (.cells #[.slice ta tn tc, .slice na nn nc, .slice la ln lc, .int .i64 st, .slice pa n pc, .slice sa ks.length sc, .map (some lb)] 72)) tn nn ln _ ks es kv ev rfl HNB.out (hAP.kept (World.grownBy_alloc _ _ none)) HES.out
  obtain ⟨N, hN⟩ : ∃ n, n = ks.length := ⟨_, rfl⟩
  have HN : Hid (N = ks.length) := hN
  rw [← hN] at HT HG1 ⊢
  clear hg1 hAP hLd hN
  go_wp2_with fail
  refine Calls.mono HT.out ?_
  rintro e w2 ⟨a2, c2, rfl, ho2, hg2⟩
  have HG2 : Hid (w.grownBy w2 none) := grown_trans HG1.out hg2
  have HO2 : Hid (w2.ownsRow w.heap.size 62 2 (.slice a2 (trT tn es N).length c2) (trT tn es N).length (itsV (trT tn es N))) := owns_base ho2 HG1.out.size
  obtain ⟨K, hK⟩ : ∃ k, k = (trT tn es N).length := ⟨_, rfl⟩
  have HK : Hid (K = (trT tn es N).length) := hK
  rw [← hK]
  clear ho2 hg2 hK HT
  go_wp2_with fail
  go_ret2
  exact ⟨a2, c2, by rw [← HN.out, ← HK.out]; rfl, by rw [← HN.out]; exact HO2.out, HG2.out⟩

set_option maxRecDepth 100000 in
set_option maxHeartbeats 2000000 in
theorem walkX_arg (ks : List (List It)) (es : List (List (Nat × Nat))) (htn : tn ≤ 65) (hnn : nn ≤ 65) (hO : OfOk ta na la pa tc nc lc pc n st w tn nn ln ks es) (from_ : Int) (ra : Option Addr) (rc : Nat) (row : List Int) (hr : IntsAt w ra row) (hrb : row.length ≤ 1099511627776000) (hbad : from_ < 0 ∨ (ks.length : Int) ≤ from_ ∨ ∃ x ∈ row, noB (tn + nn) x = true) : Calls Try.prog 10 #[.agg #[.slice ta tn tc, .slice na nn nc, .slice la ln lc, .int .i64 st, .slice pa n pc], .int .i64 from_, .slice ra row.length rc] w fun e y => e = .returned (.tuple #[.int .i64 0, .int .i64 1]) ∧ w.grownBy y none := by
  have HO : Hid (OfOk ta na la pa tc nc lc pc n st w tn nn ln ks es) := hO
  have HX0 : Hid (w.grownBy (w.alloc (.cells #[.slice ta tn tc, .slice na nn nc, .slice la ln lc, .int .i64 st, .slice pa n pc] 27)) none) := World.grownBy_alloc _ _ none
  have HC : Hid (∀ Y sa sc N lb, w.grownBy Y none → (∃ x ∈ row, noB (tn + nn) x = true) → Calls Try.prog 20 #[.slice ra row.length rc, .func (.func 21) #[.agg #[.slice ta tn tc, .slice na nn nc, .slice la ln lc, .int .i64 st, .slice pa n pc, .slice sa N sc, .map (some lb)]] #[]] Y fun e w' => e = .returned (.bool true) ∧ Y.grownBy w' none) := fun Y sa sc N lb hY hex => tcont_any ta na la pa sa tc nc lc pc sc n N lb st Y tn nn ln htn hnn ra rc row (hr.kept hY) hrb true ⟨fun _ => hex, fun _ => rfl⟩
  obtain ⟨M, hM⟩ : ∃ m, m = row.length := ⟨_, rfl⟩
  rw [← hM] at HC ⊢
  have HBAD := show Hid _ from hbad
  clear hO hM hr hrb hbad htn hnn
  go_enter Try.func10, Try.ntmps10
  go_wp2_with fail
  refine Calls.mono (HO.out _ HX0.out) ?_
  rintro e w1 ⟨sa, sc, kv, ev, lb, m, rfl, hAP, hLd, hg1⟩
  have HG1 : Hid (w.grownBy (w1.alloc (.cells #[.slice ta tn tc, .slice na nn nc, .slice la ln lc, .int .i64 st, .slice pa n pc, .slice sa ks.length sc, .map (some lb)] 72)) none) := grown_trans HX0.out (grown_trans hg1 (World.grownBy_alloc _ _ none))
  obtain ⟨N, hN⟩ : ∃ n, n = ks.length := ⟨_, rfl⟩
  rw [← hN] at HG1 HBAD ⊢
  clear hg1 hAP hLd hN
  by_cases h0 : from_ < 0
  · have hd : decide (from_ < 0) = true := decide_eq_true h0
    clear HBAD
    go_wp2_with fail
    go_ret2
    exact ⟨rfl, HG1.out⟩
  · have hd : decide (from_ < 0) = false := decide_eq_false h0
    by_cases h1 : (N : Int) ≤ from_
    · have hd1 : decide ((N : Int) ≤ from_) = true := decide_eq_true h1
      clear HBAD
      go_wp2_with fail
      go_ret2
      exact ⟨rfl, HG1.out⟩
    · have hd1 : decide ((N : Int) ≤ from_) = false := decide_eq_false h1
      have hex : ∃ x ∈ row, noB (tn + nn) x = true := by
        rcases HBAD.out with h | h | h
        · exact absurd h h0
        · exact absurd h h1
        · exact h
      have HCC := show Hid _ from HC.out _ sa sc N lb HG1.out hex
      clear HBAD hex HC
      go_wp2_with fail
      refine Calls.mono HCC.out ?_
      rintro e w2 ⟨rfl, hg2⟩
      have HG2 : Hid (w.grownBy w2 none) := grown_trans HG1.out hg2
      clear hg2 HCC
      go_wp2_with fail
      go_ret2
      exact ⟨rfl, HG2.out⟩

set_option maxRecDepth 100000 in
set_option maxHeartbeats 2000000 in
theorem walkX_ok (ks : List (List It)) (es : List (List (Nat × Nat))) (htn : tn ≤ 65) (hnn : nn ≤ 65) (hN256 : ks.length ≤ 256) (hOK : LeadOK es) (hO : OfOk ta na la pa tc nc lc pc n st w tn nn ln ks es) (q : Nat) (hq : q < ks.length) (ra : Option Addr) (rc : Nat) (row : List Int) (hr : IntsAt w ra row) (hrb : row.length ≤ 1099511627776000) (hgood : ∀ x ∈ row, noB (tn + nn) x = false) : Calls Try.prog 10 #[.agg #[.slice ta tn tc, .slice na nn nc, .slice la ln lc, .int .i64 st, .slice pa n pc], .int .i64 (q : Int), .slice ra row.length rc] w fun e y => e = .returned (.tuple #[.int .i64 (wayV (wayF es (some (q : Int)) row)), .int .i64 0]) ∧ w.grownBy y none := by
  have HO : Hid (OfOk ta na la pa tc nc lc pc n st w tn nn ln ks es) := hO
  have HX0 : Hid (w.grownBy (w.alloc (.cells #[.slice ta tn tc, .slice na nn nc, .slice la ln lc, .int .i64 st, .slice pa n pc] 27)) none) := World.grownBy_alloc _ _ none
  have HC : Hid (∀ Y sa sc N lb, w.grownBy Y none → Calls Try.prog 20 #[.slice ra row.length rc, .func (.func 21) #[.agg #[.slice ta tn tc, .slice na nn nc, .slice la ln lc, .int .i64 st, .slice pa n pc, .slice sa N sc, .map (some lb)]] #[]] Y fun e w' => e = .returned (.bool false) ∧ Y.grownBy w' none) := fun Y sa sc N lb hY => tcont_any ta na la pa sa tc nc lc pc sc n N lb st Y tn nn ln htn hnn ra rc row (hr.kept hY) hrb false ⟨(fun h => by cases h), fun ⟨x, h1, h2⟩ => by rw [hgood x h1] at h2; cases h2⟩
  have HW : Hid (∀ Y sa sc N lb m, w.grownBy Y none → LdAt Y lb m (leadA es) → Calls Try.prog 22 #[.agg #[.slice ta tn tc, .slice na nn nc, .slice la ln lc, .int .i64 st, .slice pa n pc, .slice sa N sc, .map (some lb)], .int .i64 (q : Int), .slice ra row.length rc] Y fun e y => e = .returned (.int .i64 (wayV (wayF es (some (q : Int)) row))) ∧ Y.grownBy y none) := fun Y sa sc N lb m hY hLd => walk_any ta na la pa sa tc nc lc pc sc n N lb st Y tn nn ln m es hLd hOK q (by omega) ra rc row (hr.kept hY) hrb (fun x hx => by
    have h := hgood x hx
    unfold noB at h
    have h2 : 0 ≤ x ∧ x < ((tn + nn : Nat) : Int) := by simpa using h
    exact WalkArith.wf_i64 ⟨by omega, by omega⟩)
  obtain ⟨M, hM⟩ : ∃ m, m = row.length := ⟨_, rfl⟩
  rw [← hM] at HC HW ⊢
  obtain ⟨v, hv⟩ : ∃ v, v = wayV (wayF es (some (q : Int)) row) := ⟨_, rfl⟩
  rw [← hv] at HW ⊢
  clear hO hM hr hrb hgood htn hnn hv hOK
  go_enter Try.func10, Try.ntmps10
  go_wp2_with fail
  refine Calls.mono (HO.out _ HX0.out) ?_
  rintro e w1 ⟨sa, sc, kv, ev, lb, m, rfl, hAP, hLd, hg1⟩
  have HG1 : Hid (w.grownBy (w1.alloc (.cells #[.slice ta tn tc, .slice na nn nc, .slice la ln lc, .int .i64 st, .slice pa n pc, .slice sa ks.length sc, .map (some lb)] 72)) none) := grown_trans HX0.out (grown_trans hg1 (World.grownBy_alloc _ _ none))
  have HLD : Hid (LdAt (w1.alloc (.cells #[.slice ta tn tc, .slice na nn nc, .slice la ln lc, .int .i64 st, .slice pa n pc, .slice sa ks.length sc, .map (some lb)] 72)) lb m (leadA es)) := hLd.kept (World.grownBy_alloc _ _ none) (by simp)
  have HBX := show Hid _ from heap_alloc_last w1 (.cells #[.slice ta tn tc, .slice na nn nc, .slice la ln lc, .int .i64 st, .slice pa n pc, .slice sa ks.length sc, .map (some lb)] 72)
  obtain ⟨N, hN⟩ : ∃ n, n = ks.length := ⟨_, rfl⟩
  rw [← hN] at HG1 HLD HBX hq ⊢
  have hd : decide ((q : Int) < 0) = false := decide_eq_false (by omega)
  have hd1 : decide ((N : Int) ≤ (q : Int)) = false := decide_eq_false (by omega)
  have hd2 : decide (N ≤ q) = false := decide_eq_false (by omega)
  have HCC := show Hid _ from HC.out _ sa sc N lb HG1.out
  clear hg1 hAP hLd hN hN256 HC
  go_wp2_with fail
  refine Calls.mono HCC.out ?_
  rintro e w2 ⟨rfl, hg2⟩
  have HG2 : Hid (w.grownBy w2 none) := grown_trans HG1.out hg2
  have HLD2 : Hid (LdAt w2 lb m (leadA es)) := HLD.out.kept hg2 (by simp)
  obtain ⟨k0, k1, k2, k3, k4, k5, k6⟩ := cells7 (box_kept HBX.out hg2)
  have HWC := show Hid _ from HW.out w2 sa sc N lb m HG2.out HLD2.out
  clear hg2 HCC HW
  go_wp2_with fail
  refine Calls.mono HWC.out ?_
  rintro e w3 ⟨rfl, hg3⟩
  have HG3 : Hid (w.grownBy w3 none) := grown_trans HG2.out hg3
  clear hg3 HWC
  go_wp2_with fail
  go_ret2
  exact ⟨rfl, HG3.out⟩
end

end Go.Proofs.Ytkcdipnobgggkaa.J
