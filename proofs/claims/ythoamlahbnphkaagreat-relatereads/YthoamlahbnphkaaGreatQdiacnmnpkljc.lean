import Derived.Test.YthoamlahbnphkaaGreatQcenndffbmpmd
import Derived.Laws.Bits64b
import Derived.Test.YthoamlahbnphkaaGreatProg
import Derived.WalkKit
import Derived.WalkSpells
import Derived.Deep.MidRow
import Derived.Deep.WholeRow
import Derived.Deep.QuietTactic
import Derived.BigQuiet

/-
  trans: transitions.
-/
namespace Go.Proofs.YthoamlahbnphkaaGreat.J
open Go.RowKit Go.Maps Go.Shelf

attribute [local go_sem] Oper.semAt_some

theorem infoTrans : (Tryz.prog.info? 53).map (fun i => (i.zero, i.size, i.bytes)) = some (some (.agg #[.int .i64 0, .int .i64 0]), 2, 16) := by kernel_rfl
/-- The transitions among edges of a state. -/
def trI (tn : Nat) (l : List (Nat × Nat)) (i : Nat) : List It := (l.filter fun x => decide (tn ≤ x.1)).map fun x => ((i : Int), (x.1 : Int))
theorem trI_snoc (tn : Nat) (l : List (Nat × Nat)) (i s t : Nat) : trI tn (l ++ [(s, t)]) i = trI tn l i ++ (if tn ≤ s then [((i : Int), (s : Int))] else []) := by
  unfold trI
  rw [List.filter_append, List.map_append]
  by_cases h : tn ≤ s
  · rw [if_pos h]; simp [h]
  · rw [if_neg h]; simp [h]
theorem trI_len (tn : Nat) (l : List (Nat × Nat)) (i : Nat) : (trI tn l i).length ≤ l.length := by
  unfold trI
  rw [List.length_map]
  exact List.length_filter_le _ _
/-- The transitions of the states below i. -/
def trT (tn : Nat) (es : List (List (Nat × Nat))) : Nat → List It
  | 0 => []
  | i + 1 => trT tn es i ++ trI tn (es.getD i []) i
theorem take_snocE {l : List (Nat × Nat)} {j s t : Nat} (hj : j < l.length) (he : l.getD j (0, 0) = (s, t)) : l.take (j + 1) = l.take j ++ [(s, t)] := by
  rw [List.take_succ_eq_append_getElem hj]
  rw [List.getD_eq_getElem?_getD, List.getElem?_eq_getElem hj] at he
  exact congrArg _ (congrArg (fun y => [y]) he)
theorem trT_len {tn c : Nat} {es : List (List (Nat × Nat))} : ∀ (i : Nat), (∀ q, q < i → (es.getD q []).length ≤ c) → (trT tn es i).length ≤ i * c
  | 0, _ => by simp [trT]
  | i + 1, h => by
    unfold trT
    rw [List.length_append, Nat.succ_mul]
    have h1 := trT_len (tn := tn) i fun q hq => h q (by omega)
    have h2 := trI_len tn (es.getD i []) i
    have h3 := h i (by omega)
    omega

section
variable (ta na la pa sa : Option Addr) (tc nc lc pc sc : Nat) (n N lb : Nat) (st : Int) (w : World) (tn nn ln : Nat)

/-- What transitions tells. -/
def TrTold (l : List It) (w : World) (e : Ending) (y : World) : Prop := ∃ (a : Option Addr) (c : Nat), e = .returned (.slice a l.length c) ∧ y.ownsRow w.heap.size 53 2 (.slice a l.length c) l.length (itsV l) ∧ w.grownBy y none

set_option maxRecDepth 100000 in
set_option maxHeartbeats 4000000 in
theorem trans_any (B : Nat) (ks : List (List It)) (es : List (List (Nat × Nat))) (kv ev : Nat → Value) (hN : N = ks.length) (hN256 : N ≤ 256) (hP : AutP B w (.slice sa ks.length sc) ks (elF es) kv ev) (hes : ∀ q, q < ks.length → (es.getD q []).length ≤ 130) :
    Calls Tryz.prog 64 #[.agg #[.slice ta tn tc, .slice na nn nc, .slice la ln lc, .int .i64 st, .slice pa n pc, .slice sa N sc, .map (some lb)]] w fun e y => TrTold (trT tn es N) w e y := by
  have HN : Hid (N = ks.length) := hN
  have HP : Hid (∀ Y, w.grownBy Y none → AutP B Y (.slice sa ks.length sc) ks (elF es) kv ev) := fun Y hY => hP.kept hY
  have HES := show Hid _ from hes
  have HB0 : Hid ((w.alloc (.cells #[.slice ta tn tc, .slice na nn nc, .slice la ln lc, .int .i64 st, .slice pa n pc, .slice sa N sc, .map (some lb)] 95)).heap[w.heap.size]? = some (.cells #[.slice ta tn tc, .slice na nn nc, .slice la ln lc, .int .i64 st, .slice pa n pc, .slice sa N sc, .map (some lb)] 95 (0, 0))) := heap_alloc_last w _
  obtain ⟨i0, hi0, hz0, hz1, hz2⟩ := info_parts infoTrans
  clear hP hes hN
  go_enter Tryz.func64, Tryz.ntmps64
  go_wp2_with fail
  obtain ⟨W, hW⟩ : ∃ W, W = w.alloc (.cells #[.slice ta tn tc, .slice na nn nc, .slice la ln lc, .int .i64 st, .slice pa n pc, .slice sa N sc, .map (some lb)] 95) := ⟨_, rfl⟩
  rw [← hW] at HB0 ⊢
  have HGW : Hid (w.grownBy W none) := by rw [hW]; exact World.grownBy_alloc _ _ none
  clear hW
  go_loopg [3, 11] N (fun gk v3 v11 wr => ∃ (i L : Nat) (a : Option Addr) (c : Nat), i ≤ N ∧ gk = N - i ∧ v11 = .int .i64 i ∧ v3 = .slice a L c ∧ L = (trT tn es i).length ∧ wr.ownsRow W.heap.size 53 2 (.slice a L c) L (itsV (trT tn es i)) ∧ W.grownBy wr none)
  case atStart => exact ⟨0, 0, none, 0, Nat.zero_le _, rfl, rfl, rfl, rfl, World.ownsRow_nil _ _ _ _, grown_refl _ _⟩
  case round =>
    obtain ⟨i, L, a, c, hi, hgi, rfl, rfl, hLl, hown, hg⟩ := hrel
    have HGI : Hid (gk = N - i) := hgi
    have HLL : Hid (L = (trT tn es i).length) := hLl
    have HO : Hid (wr.ownsRow W.heap.size 53 2 (.slice a L c) L (itsV (trT tn es i))) := hown
    have HG : Hid (W.grownBy wr none) := hg
    have hLb : L ≤ i * 130 := by rw [hLl]; exact trT_len i fun q hq => HES.out q (by have := HN.out; omega)
    clear hgi hLl hown hg
    generalize wr = Z at *
    by_cases hlt : i < N
    · have hid : decide (i < N) = true := decide_eq_true hlt
      have hi0' : (0 : Int) ≤ (i : Int) := by omega
      have hi1 : (i : Int) < (N : Int) := by omega
      have hik : i < ks.length := by rw [← HN.out]; exact hlt
      have hPZ := HP.out Z (grown_trans HGW.out HG.out)
      obtain ⟨sb, sc', hsv, hs0, hs1⟩ := hPZ.st hik
      simp only [Value.slice.injEq] at hsv
      obtain ⟨rfl, _, rfl⟩ := hsv
      obtain ⟨ka, kc, hkv, _, _⟩ := hPZ.kerAt hik
      obtain ⟨ea, ec, hev, _⟩ := hPZ.edgAt hik
      have HEA : Hid (∀ Y, W.grownBy Y none → ItsAt Y ea (elF es i)) := fun Y hY => by
        obtain ⟨ea2, ec2, h1, h2⟩ := (HP.out Y (grown_trans HGW.out hY)).edgAt hik
        rw [hev] at h1
        simp only [Value.slice.injEq] at h1
        rw [h1.1]; exact h2
      rw [hkv] at hs0
      rw [hev] at hs1
      obtain ⟨kl, hkl⟩ : ∃ k, k = (ks.getD i []).length := ⟨_, rfl⟩
      obtain ⟨E, hE⟩ : ∃ E, E = (elF es i).length := ⟨_, rfl⟩
      rw [← hkl] at hs0
      rw [← hE] at hs1
      have HE : Hid (E = (es.getD i []).length) := by show _ = _; rw [hE]; exact elF_len _ _
      have hEb : E ≤ 130 := by rw [HE.out]; exact HES.out i hik
      clear hkl hE hkv hev hPZ
      go_wp2_with fail
      go_loopg [3, 19] E (fun gk v3 v19 wr => ∃ (j L : Nat) (a : Option Addr) (c : Nat), j ≤ E ∧ gk = E - j ∧ v19 = .int .i64 j ∧ v3 = .slice a L c ∧ L = (trT tn es i ++ trI tn ((es.getD i []).take j) i).length ∧ wr.ownsRow W.heap.size 53 2 (.slice a L c) L (itsV (trT tn es i ++ trI tn ((es.getD i []).take j) i)) ∧ W.grownBy wr none)
      case atStart => exact ⟨0, L, a, c, Nat.zero_le _, rfl, rfl, rfl, by simpa [trI] using HLL.out, by simpa [trI] using keep0 HO.out (World.grownBy_alloc _ _ none), grown_trans HG.out (World.grownBy_alloc _ _ none)⟩
      case round =>
        obtain ⟨j, L2, a2, c2, hj, hgj, rfl, rfl, hL2, hown2, hg2⟩ := hrel
        have HGJ : Hid (gk = E - j) := hgj
        have HL2 : Hid (L2 = (trT tn es i ++ trI tn ((es.getD i []).take j) i).length) := hL2
        have HO2 : Hid (wr.ownsRow W.heap.size 53 2 (.slice a2 L2 c2) L2 (itsV (trT tn es i ++ trI tn ((es.getD i []).take j) i))) := hown2
        have HG2 : Hid (W.grownBy wr none) := hg2
        have hL2b : L2 ≤ i * 130 + 130 := by
          rw [hL2, List.length_append, ← HLL.out]
          have h1 := trI_len tn ((es.getD i []).take j) i
          have h2 : ((es.getD i []).take j).length ≤ j := by rw [List.length_take]; omega
          omega
        clear hgj hL2 hown2 hg2
        by_cases hlj : j < E
        · have hjd : decide (j < E) = true := decide_eq_true hlj
          have hj0 : (0 : Int) ≤ (j : Int) := by omega
          have hj1 : (j : Int) < (E : Int) := by omega
          have hje : j < (es.getD i []).length := by rw [← HE.out]; exact hlj
          obtain ⟨eb, eo, hea, c0, c1⟩ := (HEA.out wr HG2.out).cellAt (i := j) (by rw [elF_len]; exact hje)
          subst hea
          rw [(elF_at hje).2] at c0 c1
          obtain ⟨x, hx⟩ : ∃ x, x = (es.getD i []).getD j (0, 0) := ⟨_, rfl⟩
          rw [← hx] at c0 c1
          obtain ⟨s, t⟩ := x
          simp only at c0 c1
          have HTK : Hid (trI tn ((es.getD i []).take (j + 1)) i = trI tn ((es.getD i []).take j) i ++ (if tn ≤ s then [((i : Int), (s : Int))] else [])) := by
            show _ = _
            rw [take_snocE hje hx.symm, trI_snoc]
          have HA : Hid (W.grownBy (wr.alloc (.cells #[.int .i64 (s : Int), .int .i64 (t : Int)] 115)) none) := grown_trans HG2.out (World.grownBy_alloc _ _ none)
          obtain ⟨k0, k1, k2, k3, k4, k5, k6⟩ := cells7 (box_kept HB0.out HA.out)
          by_cases hts : tn ≤ s
          · have HIT := show Hid _ from isTerm_any ta na la pa (some ⟨sb, 0, none⟩) tc nc lc pc sc n N lb st (wr.alloc (.cells #[.int .i64 (s : Int), .int .i64 (t : Int)] 115)) tn nn ln (s : Int) false (decide_eq_false (by omega)).symm
            clear hx hje
            go_wp2_with fail
            refine Calls.mono HIT.out ?_
            rintro e w5 ⟨rfl, hg5⟩
            have HG5 : Hid (W.grownBy w5 none) := grown_trans HA.out hg5
            have HO5 : Hid (w5.ownsRow W.heap.size 53 2 (.slice a2 L2 c2) L2 (itsV (trT tn es i ++ trI tn ((es.getD i []).take j) i))) := keep0 HO2.out (grown_trans (World.grownBy_alloc _ _ none) hg5)
            have hbx : w5.heap[wr.heap.size]? = some (.cells #[.int .i64 (s : Int), .int .i64 (t : Int)] 115 (0, 0)) := box_kept (heap_alloc_last wr _) hg5
            have r0 : w5.cell? ⟨wr.heap.size, 0, none⟩ = some (.int .i64 (s : Int)) := by rw [cell_of_row _ _ _ _ _ _ hbx]; rfl
            have hsz := HG5.out.size
            clear hg5 hbx HIT k0 k1 k2 k3 k4 k5 k6 c0 c1
            go_wp2_with (at_builtin; refine wpList_append_lies _ rfl (.tmp 28) (.tmp 33) 46 rfl W.heap.size 53 i0 (.agg #[.int .i64 0, .int .i64 0]) 2 16 Tryz.underlying46 hi0 hz0 hz1 hz2 rfl (by decide) (.slice a2 L2 c2) L2 (itsV (trT tn es i ++ trI tn ((es.getD i []).take j) i)) rfl (HO5.out.alloc _) ⟨w5.heap.size, 0, none⟩ 1 1 [.int .i64 (i : Int), .int .i64 (s : Int)] rfl rfl (World.news_of_block (heap_alloc_last w5 _)) (by simp [Value.oneCell']) (by decide) (by unfold maxLen; omega) (by omega) (by simp; omega) _ rfl ?_)
            intro g7 c7 V hoV hgV _ _
            have HOV : Hid (V.ownsRow W.heap.size 53 2 (.slice (some ⟨g7, 0, none⟩) (L2 + 1) c7) (L2 + 1) (itsV (trT tn es i ++ trI tn ((es.getD i []).take (j + 1)) i))) := by
              rw [HTK.out, if_pos hts, ← List.append_assoc, itsV_append]; exact hoV
            have HLV : Hid (L2 + 1 = (trT tn es i ++ trI tn ((es.getD i []).take (j + 1)) i).length) := by
              show _ = _
              rw [HTK.out, if_pos hts, ← List.append_assoc, List.length_append, ← HL2.out]; rfl
            have HGV : Hid (W.grownBy V none) := grown_owned (grown_trans HG5.out (World.grownBy_alloc _ _ none)) (HO5.out.alloc _) (Nat.le_refl _) hgV
            clear hoV hgV r0
            go_wp2_with fail
            go_roundg (E - (j + 1))
            case measure => have := HGJ.out; omega
            case rel => exact ⟨j + 1, L2 + 1, some ⟨g7, 0, none⟩, c7, by omega, rfl, by go_num, rfl, HLV.out, HOV.out, HGV.out⟩
          · have HIT := show Hid _ from isTerm_any ta na la pa (some ⟨sb, 0, none⟩) tc nc lc pc sc n N lb st (wr.alloc (.cells #[.int .i64 (s : Int), .int .i64 (t : Int)] 115)) tn nn ln (s : Int) true (decide_eq_true (by omega)).symm
            clear hx hje
            go_wp2_with fail
            refine Calls.mono HIT.out ?_
            rintro e w5 ⟨rfl, hg5⟩
            have HG5 : Hid (W.grownBy w5 none) := grown_trans HA.out hg5
            have HO5 : Hid (w5.ownsRow W.heap.size 53 2 (.slice a2 L2 c2) L2 (itsV (trT tn es i ++ trI tn ((es.getD i []).take (j + 1)) i))) := by
              rw [HTK.out, if_neg hts, List.append_nil]; exact keep0 HO2.out (grown_trans (World.grownBy_alloc _ _ none) hg5)
            have HL5 : Hid (L2 = (trT tn es i ++ trI tn ((es.getD i []).take (j + 1)) i).length) := by
              show _ = _
              rw [HTK.out, if_neg hts, List.append_nil]; exact HL2.out
            clear hg5 HIT k0 k1 k2 k3 k4 k5 k6 c0 c1
            go_wp2_with fail
            go_roundg (E - (j + 1))
            case measure => have := HGJ.out; omega
            case rel => exact ⟨j + 1, L2, a2, c2, by omega, rfl, by go_num, rfl, HL5.out, HO5.out, HG5.out⟩
        · have hjE : E = j := by omega
          subst hjE
          have hjd : decide (E < E) = false := decide_eq_false (by omega)
          have e9 : trT tn es i ++ trI tn ((es.getD i []).take E) i = trT tn es (i + 1) := by
            rw [HE.out, List.take_length]; rfl
          rw [e9] at HO2 HL2
          clear e9
          go_wp2_with fail
          go_roundg (N - (i + 1))
          case measure => have := HGI.out; omega
          case rel => exact ⟨i + 1, L2, a2, c2, by omega, rfl, by go_num, rfl, HL2.out, HO2.out, HG2.out⟩
    · have hiN : N = i := by omega
      subst hiN
      have hid : decide (N < N) = false := decide_eq_false (by omega)
      go_wp2_with fail
      go_ret
      exact ⟨a, c, by rw [← HLL.out]; rfl, by rw [← HLL.out]; exact owns_base HO.out HGW.out.size, grown_trans HGW.out HG.out⟩
end

end Go.Proofs.YthoamlahbnphkaaGreat.J

/-
  trans: Walk and List, exported.
-/
namespace Go.Proofs.YthoamlahbnphkaaGreat.J
open Go.RowKit Go.Maps Go.Shelf

attribute [local go_sem] Oper.semAt_some

/-- Is it no symbol? -/
def noB (S : Nat) (s : Int) : Bool := !(decide (0 ≤ s ∧ s < (S : Int)))
section
variable (ta na la pa sa : Option Addr) (tc nc lc pc sc : Nat) (n N lb : Nat) (st : Int) (w : World) (tn nn ln : Nat)

set_option maxRecDepth 100000 in
theorem tindex_any (htn : tn ≤ 65) (hnn : nn ≤ 65) (ra : Option Addr) (rc : Nat) (l : List Int) (hl : IntsAt w ra l) (hn : l.length ≤ 1099511627776000) :
    Calls Tryz.prog 69 #[.slice ra l.length rc, .func (.func 41) #[.agg #[.slice ta tn tc, .slice na nn nc, .slice la ln lc, .int .i64 st, .slice pa n pc, .slice sa N sc, .map (some lb)]] #[]] w fun e w' => (∃ q : Int, e = .returned (.int .i64 q) ∧ -1 ≤ q ∧ (0 ≤ q ↔ ∃ x ∈ l, noB (tn + nn) x = true)) ∧ w.grownBy w' none := by
  have HL : Hid (IntsAt w ra l) := hl
  obtain ⟨m, hln⟩ : ∃ m, m = l.length := ⟨_, rfl⟩
  have HLN : Hid (l.length = m) := hln.symm
  rw [← hln] at hn ⊢
  have HRO : Hid (∀ x X, Calls Tryz.prog 41 #[.agg #[.slice ta tn tc, .slice na nn nc, .slice la ln lc, .int .i64 st, .slice pa n pc, .slice sa N sc, .map (some lb)], .int .i64 x] X fun e w' => e = .returned (.bool (noB (tn + nn) x)) ∧ X.grownBy w' none) := fun x X => isNoSym_any ta na la pa sa tc nc lc pc sc n N lb st X tn nn ln htn hnn x _ rfl
  clear hl hln htn hnn
  go_enter Tryz.func69, Tryz.ntmps69
  go_wp2_with fail
  go_loopg [8] m (fun gk j wr => ∃ k : Nat, k ≤ m ∧ gk = m - k ∧ j = .int .i64 k ∧ w.grownBy wr none ∧ ¬ ∃ x ∈ l.take k, noB (tn + nn) x = true)
  case atStart => exact ⟨0, Nat.zero_le _, rfl, rfl, grown_refl _ _, by simp⟩
  case round =>
    obtain ⟨k, hk, hgk, rfl, hg, hno⟩ := hrel
    have HGK : Hid (gk = m - k) := hgk
    have HG : Hid (w.grownBy wr none) := hg
    have HA : Hid (¬ ∃ x ∈ l.take k, noB (tn + nn) x = true) := hno
    clear hno hg hgk
    by_cases hlt : k < m
    · have hkl : k < l.length := by rw [HLN.out]; exact hlt
      obtain ⟨bl, off, hra, hc0⟩ : ∃ b off, ra = some ⟨b, off, none⟩ ∧ wr.cell? ⟨b, off + k, none⟩ = some (.int .i64 (l.getD k 0)) := by
        rcases HL.out.kept HG.out with h | ⟨b, off, e, h⟩
        · rw [h] at hkl; cases hkl
        · exact ⟨b, off, e, h k hkl⟩
      subst hra
      obtain ⟨x, hx⟩ : ∃ x, x = l.getD k 0 := ⟨_, rfl⟩
      have HMM : Hid (x ∈ l ∧ l.take (k + 1) = l.take k ++ [x]) := by
        have e : l.getD k 0 = l[k] := by rw [List.getD_eq_getElem?_getD, List.getElem?_eq_getElem hkl]; rfl
        refine ⟨by rw [hx, e]; exact List.getElem_mem _, by rw [List.take_succ_eq_append_getElem hkl, hx, e]⟩
      rw [← hx] at hc0
      have hk0 : (0 : Int) ≤ (k : Int) := by omega
      have hk1 : (k : Int) < (m : Int) := by omega
      have hkd : decide (k < m) = true := decide_eq_true hlt
      have HH := show Hid _ from HRO.out x wr
      obtain ⟨b, hb⟩ : ∃ b, b = noB (tn + nn) x := ⟨_, rfl⟩
      have HBE : Hid (b = noB (tn + nn) x) := hb
      rw [← hb] at HH
      clear hx hb
      go_wp2_with fail
      refine Calls.mono HH.out ?_
      rintro e w2 ⟨rfl, hg2⟩
      have HG2 : Hid (w.grownBy w2 none) := grown_trans HG.out hg2
      clear HH hg2 hc0
      cases b with
      | true =>
        go_wp2_with fail
        go_ret
        exact ⟨⟨k, rfl, by omega, ⟨fun _ => ⟨x, HMM.out.1, HBE.out.symm⟩, fun _ => by omega⟩⟩, HG2.out⟩
      | false =>
        go_wp2_with fail
        go_roundg (m - (k + 1))
        case measure => have := HGK.out; omega
        case rel => exact ⟨k + 1, by omega, rfl, by go_num, HG2.out, by
          rintro ⟨y, hy, h3⟩
          rw [HMM.out.2] at hy
          rcases List.mem_append.1 hy with hy | hy
          · exact HA.out ⟨y, hy, h3⟩
          · simp only [List.mem_singleton] at hy
            rw [hy, ← HBE.out] at h3
            cases h3⟩
    · have hkn : m = k := by omega
      subst hkn
      have hkd : decide (m < m) = false := decide_eq_false (by omega)
      have ht : l.take m = l := List.take_of_length_le (Nat.le_of_eq HLN.out)
      rw [ht] at HA
      go_wp2_with fail
      go_ret
      exact ⟨⟨-1, rfl, by omega, ⟨fun h => absurd h (by omega), fun h => absurd h HA.out⟩⟩, HG.out⟩

theorem tcont_any (htn : tn ≤ 65) (hnn : nn ≤ 65) (ra : Option Addr) (rc : Nat) (l : List Int) (hl : IntsAt w ra l) (hn : l.length ≤ 1099511627776000) (r : Bool) (hr : r = true ↔ ∃ x ∈ l, noB (tn + nn) x = true) :
    Calls Tryz.prog 40 #[.slice ra l.length rc, .func (.func 41) #[.agg #[.slice ta tn tc, .slice na nn nc, .slice la ln lc, .int .i64 st, .slice pa n pc, .slice sa N sc, .map (some lb)]] #[]] w fun e w' => e = .returned (.bool r) ∧ w.grownBy w' none := by
  have hI := tindex_any ta na la pa sa tc nc lc pc sc n N lb st w tn nn ln htn hnn ra rc l hl hn
  have HR : Hid (r = true ↔ ∃ x ∈ l, noB (tn + nn) x = true) := hr
  clear hl hr htn hnn
  go_enter Tryz.func40, Tryz.ntmps40
  go_wp2_with fail
  refine hI.mono ?_
  rintro e w2 ⟨⟨q, rfl, h1, h2⟩, hg⟩
  have HQ : Hid (decide (0 ≤ q) = r) := by
    show decide (0 ≤ q) = r
    rw [Bool.eq_iff_iff, decide_eq_true_eq, h2, HR.out]
  clear h2 hI
  go_wp2_with fail
  go_ret
  exact ⟨by rw [← HQ.out]; rfl, hg⟩
end

section
variable (ta na la pa : Option Addr) (tc nc lc pc : Nat) (n : Nat) (st : Int) (w : World) (tn nn ln : Nat)
/-- automatonOf, where it answers an error. -/
def OfBad (ec : Int) : Prop := ∀ X, w.grownBy X none → Calls Tryz.prog 39 #[.agg #[.slice ta tn tc, .slice na nn nc, .slice la ln lc, .int .i64 st, .slice pa n pc]] X fun e y => e = .returned (.tuple #[.agg #[.slice none 0 0, .slice none 0 0, .slice none 0 0, .int .i64 0, .slice none 0 0, .slice none 0 0, .map none], .int .i64 ec]) ∧ X.grownBy y none
/-- .. and where it tells an automaton. -/
def OfOk (ks : List (List It)) (es : List (List (Nat × Nat))) : Prop := ∀ X, w.grownBy X none → Calls Tryz.prog 39 #[.agg #[.slice ta tn tc, .slice na nn nc, .slice la ln lc, .int .i64 st, .slice pa n pc]] X fun e y => OfTold ta na la pa tc nc lc pc n st tn nn ln ks es X e y

set_option maxRecDepth 100000 in
theorem listX_bad (ec : Int) (hec : ec = 1 ∨ ec = 11) (hO : OfBad ta na la pa tc nc lc pc n st w tn nn ln ec) : Calls Tryz.prog 36 #[.agg #[.slice ta tn tc, .slice na nn nc, .slice la ln lc, .int .i64 st, .slice pa n pc]] w fun e y => e = .returned (.tuple #[.slice none 0 0, .int .i64 ec]) ∧ w.grownBy y none := by
  have HO : Hid (OfBad ta na la pa tc nc lc pc n st w tn nn ln ec) := hO
  have HX0 : Hid (w.grownBy (w.alloc (.cells #[.slice ta tn tc, .slice na nn nc, .slice la ln lc, .int .i64 st, .slice pa n pc] 27)) none) := World.grownBy_alloc _ _ none
  have hne : (ec != 0) = true := bne_iff_ne.2 (by omega)
  clear hO hec
  go_enter Tryz.func36, Tryz.ntmps36
  go_wp2_with fail
  refine Calls.mono (HO.out _ HX0.out) ?_
  rintro e w1 ⟨rfl, hg1⟩
  have HG1 : Hid (w.grownBy w1 none) := grown_trans HX0.out hg1
  clear hg1
  go_wp2_with fail
  go_ret2
  exact ⟨rfl, grown_trans HG1.out (World.grownBy_alloc _ _ none)⟩

/-- What List tells. -/
def TrErr (l : List It) (w : World) (e : Ending) (y : World) : Prop := ∃ (a : Option Addr) (c : Nat), e = .returned (.tuple #[.slice a l.length c, .int .i64 0]) ∧ y.ownsRow w.heap.size 53 2 (.slice a l.length c) l.length (itsV l) ∧ w.grownBy y none

set_option maxRecDepth 100000 in
theorem listX_ok (ks : List (List It)) (es : List (List (Nat × Nat))) (hN256 : ks.length ≤ 256) (hes : ∀ q, q < ks.length → (es.getD q []).length ≤ 130) (hO : OfOk ta na la pa tc nc lc pc n st w tn nn ln ks es) : Calls Tryz.prog 36 #[.agg #[.slice ta tn tc, .slice na nn nc, .slice la ln lc, .int .i64 st, .slice pa n pc]] w fun e y => TrErr (trT tn es ks.length) w e y := by
  have HO : Hid (OfOk ta na la pa tc nc lc pc n st w tn nn ln ks es) := hO
  have HX0 : Hid (w.grownBy (w.alloc (.cells #[.slice ta tn tc, .slice na nn nc, .slice la ln lc, .int .i64 st, .slice pa n pc] 27)) none) := World.grownBy_alloc _ _ none
  have HES := show Hid _ from hes
  have HNB : Hid (ks.length ≤ 256) := hN256
  clear hO hes hN256
  go_enter Tryz.func36, Tryz.ntmps36
  go_wp2_with fail
  refine Calls.mono (HO.out _ HX0.out) ?_
  rintro e w1 ⟨sa, sc, kv, ev, lb, m, rfl, hAP, hLd, hg1⟩
  have HG1 : Hid (w.grownBy (w1.alloc (.cells #[.slice ta tn tc, .slice na nn nc, .slice la ln lc, .int .i64 st, .slice pa n pc, .slice sa ks.length sc, .map (some lb)] 95)) none) := grown_trans HX0.out (grown_trans hg1 (World.grownBy_alloc _ _ none))
  have HT := show Hid _ from trans_any ta na la pa sa tc nc lc pc sc n ks.length lb st (w1.alloc (.cells #[.slice ta tn tc, .slice na nn nc, .slice la ln lc, .int .i64 st, .slice pa n pc, .slice sa ks.length sc, .map (some lb)] 95)) tn nn ln _ ks es kv ev rfl HNB.out (hAP.kept (World.grownBy_alloc _ _ none)) HES.out
  obtain ⟨N, hN⟩ : ∃ n, n = ks.length := ⟨_, rfl⟩
  have HN : Hid (N = ks.length) := hN
  rw [← hN] at HT HG1 ⊢
  clear hg1 hAP hLd hN
  go_wp2_with fail
  refine Calls.mono HT.out ?_
  rintro e w2 ⟨a2, c2, rfl, ho2, hg2⟩
  have HG2 : Hid (w.grownBy w2 none) := grown_trans HG1.out hg2
  have HO2 : Hid (w2.ownsRow w.heap.size 53 2 (.slice a2 (trT tn es N).length c2) (trT tn es N).length (itsV (trT tn es N))) := owns_base ho2 HG1.out.size
  obtain ⟨K, hK⟩ : ∃ k, k = (trT tn es N).length := ⟨_, rfl⟩
  have HK : Hid (K = (trT tn es N).length) := hK
  rw [← hK]
  clear ho2 hg2 hK HT
  go_wp2_with fail
  go_ret2
  exact ⟨a2, c2, by rw [← HN.out, ← HK.out]; rfl, by rw [← HN.out]; exact HO2.out, HG2.out⟩

set_option maxRecDepth 100000 in
set_option maxHeartbeats 2000000 in
theorem walkX_ok (ks : List (List It)) (es : List (List (Nat × Nat))) (htn : tn ≤ 65) (hnn : nn ≤ 65) (hN256 : ks.length ≤ 256) (hOK : LeadOK es) (hO : OfOk ta na la pa tc nc lc pc n st w tn nn ln ks es) (q : Nat) (hq : q < ks.length) (ra : Option Addr) (rc : Nat) (row : List Int) (hr : IntsAt w ra row) (hrb : row.length ≤ 1099511627776000) (hgood : ∀ x ∈ row, noB (tn + nn) x = false) : Calls Tryz.prog 19 #[.agg #[.slice ta tn tc, .slice na nn nc, .slice la ln lc, .int .i64 st, .slice pa n pc], .int .i64 (q : Int), .slice ra row.length rc] w fun e y => e = .returned (.tuple #[.int .i64 (wayV (wayF es (some (q : Int)) row)), .int .i64 0]) ∧ w.grownBy y none := by
  have HO : Hid (OfOk ta na la pa tc nc lc pc n st w tn nn ln ks es) := hO
  have HX0 : Hid (w.grownBy (w.alloc (.cells #[.slice ta tn tc, .slice na nn nc, .slice la ln lc, .int .i64 st, .slice pa n pc] 27)) none) := World.grownBy_alloc _ _ none
  have HC : Hid (∀ Y sa sc N lb, w.grownBy Y none → Calls Tryz.prog 40 #[.slice ra row.length rc, .func (.func 41) #[.agg #[.slice ta tn tc, .slice na nn nc, .slice la ln lc, .int .i64 st, .slice pa n pc, .slice sa N sc, .map (some lb)]] #[]] Y fun e w' => e = .returned (.bool false) ∧ Y.grownBy w' none) := fun Y sa sc N lb hY => tcont_any ta na la pa sa tc nc lc pc sc n N lb st Y tn nn ln htn hnn ra rc row (hr.kept hY) hrb false ⟨(fun h => by cases h), fun ⟨x, h1, h2⟩ => by rw [hgood x h1] at h2; cases h2⟩
  have HW : Hid (∀ Y sa sc N lb m, w.grownBy Y none → LdAt Y lb m (leadA es) → Calls Tryz.prog 42 #[.agg #[.slice ta tn tc, .slice na nn nc, .slice la ln lc, .int .i64 st, .slice pa n pc, .slice sa N sc, .map (some lb)], .int .i64 (q : Int), .slice ra row.length rc] Y fun e y => e = .returned (.int .i64 (wayV (wayF es (some (q : Int)) row))) ∧ Y.grownBy y none) := fun Y sa sc N lb m hY hLd => walk_any ta na la pa sa tc nc lc pc sc n N lb st Y tn nn ln m es hLd hOK q (by omega) ra rc row (hr.kept hY) hrb (fun x hx => by
    have h := hgood x hx
    unfold noB at h
    have h2 : 0 ≤ x ∧ x < ((tn + nn : Nat) : Int) := by simpa using h
    exact WalkArith.wf_i64 ⟨by omega, by omega⟩)
  obtain ⟨M, hM⟩ : ∃ m, m = row.length := ⟨_, rfl⟩
  rw [← hM] at HC HW ⊢
  obtain ⟨v, hv⟩ : ∃ v, v = wayV (wayF es (some (q : Int)) row) := ⟨_, rfl⟩
  rw [← hv] at HW ⊢
  clear hO hM hr hrb hgood htn hnn hv hOK
  go_enter Tryz.func19, Tryz.ntmps19
  go_wp2_with fail
  refine Calls.mono (HO.out _ HX0.out) ?_
  rintro e w1 ⟨sa, sc, kv, ev, lb, m, rfl, hAP, hLd, hg1⟩
  have HG1 : Hid (w.grownBy (w1.alloc (.cells #[.slice ta tn tc, .slice na nn nc, .slice la ln lc, .int .i64 st, .slice pa n pc, .slice sa ks.length sc, .map (some lb)] 95)) none) := grown_trans HX0.out (grown_trans hg1 (World.grownBy_alloc _ _ none))
  have HLD : Hid (LdAt (w1.alloc (.cells #[.slice ta tn tc, .slice na nn nc, .slice la ln lc, .int .i64 st, .slice pa n pc, .slice sa ks.length sc, .map (some lb)] 95)) lb m (leadA es)) := hLd.kept (World.grownBy_alloc _ _ none) (by simp)
  have HBX := show Hid _ from heap_alloc_last w1 (.cells #[.slice ta tn tc, .slice na nn nc, .slice la ln lc, .int .i64 st, .slice pa n pc, .slice sa ks.length sc, .map (some lb)] 95)
  obtain ⟨N, hN⟩ : ∃ n, n = ks.length := ⟨_, rfl⟩
  rw [← hN] at HG1 HLD HBX hq ⊢
  have hd : decide ((q : Int) < 0) = false := decide_eq_false (by omega)
  have hd1 : decide ((N : Int) ≤ (q : Int)) = false := decide_eq_false (by omega)
  have hd2 : decide (N ≤ q) = false := decide_eq_false (by omega)
  have HCC := show Hid _ from HC.out _ sa sc N lb HG1.out
  clear hg1 hAP hLd hN hN256 HC
  go_wp2_with fail
  refine Calls.mono HCC.out ?_
  rintro e w2 ⟨rfl, hg2⟩
  have HG2 : Hid (w.grownBy w2 none) := grown_trans HG1.out hg2
  have HLD2 : Hid (LdAt w2 lb m (leadA es)) := HLD.out.kept hg2 (by simp)
  obtain ⟨k0, k1, k2, k3, k4, k5, k6⟩ := cells7 (box_kept HBX.out hg2)
  have HWC := show Hid _ from HW.out w2 sa sc N lb m HG2.out HLD2.out
  clear hg2 HCC HW
  go_wp2_with fail
  refine Calls.mono HWC.out ?_
  rintro e w3 ⟨rfl, hg3⟩
  have HG3 : Hid (w.grownBy w3 none) := grown_trans HG2.out hg3
  clear hg3 HWC
  go_wp2_with fail
  go_ret2
  exact ⟨rfl, HG3.out⟩
end

end Go.Proofs.YthoamlahbnphkaaGreat.J

/-
  Plain numbers: the sixteen words of a number below 2^1024, and what or, and, and a single bit do to them. No program is named here.
-/
namespace Go.Proofs.YthoamlahbnphkaaGreat.B

/-- Word number i of m. -/
def wd (m i : Nat) : Nat := m / 2 ^ (64 * i) % 2 ^ 64

theorem wd_lt (m i : Nat) : wd m i < 18446744073709551616 := Nat.mod_lt _ (by decide)

theorem testBit_wd (m i j : Nat) : (wd m i).testBit j = (decide (j < 64) && m.testBit (64 * i + j)) := by
  unfold wd
  rw [Nat.testBit_mod_two_pow, Nat.testBit_div_two_pow]
  congr 2
  omega

theorem wd_or (a b i : Nat) : wd (a ||| b) i = wd a i ||| wd b i := by
  apply Nat.eq_of_testBit_eq
  intro j
  simp only [testBit_wd, Nat.testBit_or]
  cases decide (j < 64) <;> simp

theorem wd_and (a b i : Nat) : wd (a &&& b) i = wd a i &&& wd b i := by
  apply Nat.eq_of_testBit_eq
  intro j
  simp only [testBit_wd, Nat.testBit_and]
  cases decide (j < 64) <;> simp

theorem wd_two_pow (n i : Nat) : wd (2 ^ n) i = if i = n / 64 then 2 ^ (n % 64) else 0 := by
  apply Nat.eq_of_testBit_eq
  intro j
  rw [testBit_wd]
  split
  · rename_i h
    rw [Nat.testBit_two_pow, Nat.testBit_two_pow]
    by_cases hj : j < 64
    · by_cases e : n % 64 = j
      · simp [hj, e]; omega
      · simp [hj, e]; omega
    · have : ¬ n % 64 = j := by omega
      simp [hj, this]
  · rw [Nat.testBit_two_pow]
    by_cases hj : j < 64
    · have : ¬ n = 64 * i + j := by omega
      simp [hj, this]
    · simp [hj]

theorem wd_zero (i : Nat) : wd 0 i = 0 := by simp [wd]

theorem wd_ones (n i : Nat) : wd (2 ^ n - 1) i = if 64 * (i + 1) ≤ n then 18446744073709551615 else 2 ^ (n - 64 * i) - 1 := by
  apply Nat.eq_of_testBit_eq
  intro j
  rw [testBit_wd, Nat.testBit_two_pow_sub_one]
  split
  · rw [show (18446744073709551615 : Nat) = 2 ^ 64 - 1 from rfl, Nat.testBit_two_pow_sub_one]
    by_cases hj : j < 64
    · have : 64 * i + j < n := by omega
      simp [hj, this]
    · simp [hj]
  · rw [Nat.testBit_two_pow_sub_one]
    by_cases hj : j < 64
    · by_cases h2 : j < n - 64 * i
      · have : 64 * i + j < n := by omega
        simp [hj, h2, this]
      · have : ¬ 64 * i + j < n := by omega
        simp [hj, h2, this]
    · have : ¬ j < n - 64 * i := by omega
      simp [hj, this]

/-- Is n a member? -/
theorem wd_test (m n : Nat) : (wd m (n / 64) &&& 2 ^ (n % 64) ≠ 0) ↔ m.testBit n = true := by
  have h2 : n % 64 < 64 := by omega
  have e : 64 * (n / 64) + n % 64 = n := by omega
  have h := testBit_wd m (n / 64) (n % 64)
  rw [e] at h
  simp only [h2, decide_true, Bool.true_and] at h
  rw [← h]
  constructor
  · intro hne
    apply Classical.byContradiction
    intro hf
    apply hne
    apply Nat.eq_of_testBit_eq
    intro j
    rw [Nat.testBit_and, Nat.testBit_two_pow, Nat.zero_testBit]
    by_cases ej : n % 64 = j
    · subst ej; simp at hf; simp [hf]
    · simp [ej]
  · intro ht h0
    have := congrArg (fun x => x.testBit (n % 64)) h0
    simp only [Nat.testBit_and, Nat.testBit_two_pow, Nat.zero_testBit, ht] at this
    simp at this

theorem lt_or {a b n : Nat} (ha : a < 2 ^ n) (hb : b < 2 ^ n) : a ||| b < 2 ^ n := Nat.or_lt_two_pow ha hb
theorem lt_and_right {a b n : Nat} (hb : b < 2 ^ n) : a &&& b < 2 ^ n := Nat.lt_of_le_of_lt Nat.and_le_right hb
theorem two_pow_lt {k n : Nat} (h : k < n) : 2 ^ k < 2 ^ n := Nat.pow_lt_pow_right (by decide) h
theorem pow64_lt {k : Nat} (h : k < 64) : 2 ^ k < 18446744073709551616 := by
  have := two_pow_lt h
  have h2 : (2 ^ 64 : Nat) = 18446744073709551616 := rfl
  rwa [h2] at this
/-- The bit of n within its word. -/
def bt (n : Nat) : Nat := 2 ^ (n % 64)
theorem bt_lt (n : Nat) : bt n < 18446744073709551616 := pow64_lt (by omega)
/-- Is n a member? As the program asks it. -/
theorem test_bit (m n : Nat) : (bits BinOp.and IntKind.u64 (wd m (n / 64) : Int) (bt n : Int) != 0) = m.testBit n := by
  rw [bits_and_u64_nat _ _ (wd_lt _ _) (bt_lt _), Bool.eq_iff_iff, ← wd_test, bne_iff_ne]
  unfold bt
  omega
theorem ones_lt (n : Nat) : 2 ^ n - 1 < 2 ^ n := Nat.sub_lt (Nat.two_pow_pos n) (by decide)

end Go.Proofs.YthoamlahbnphkaaGreat.B

/-
  What a set's memory is, and what the smallest functions of package bits do: Size, value, holds, bit, below, OnesCount64.
-/
namespace Go.Proofs.YthoamlahbnphkaaGreat.B
open Go.RowKit

/-- The seventeen cells of a set: its size, its words. -/
def rowL (n : Nat) (f : Nat → Nat) : List Value := Value.int .i64 n :: (List.range 16).map (fun i => Value.int .u64 (f i))
def wordsL (f : Nat → Nat) : List Value := (List.range 16).map (fun i => Value.int .u64 (f i))

/-- A set's block. -/
def RowAt (w : World) (b n : Nat) (f : Nat → Nat) : Prop := w.heap[b]? = some (.cells (rowL n f).toArray 156 (0, 0))

/-- Of what was there, block b alone may have turned. -/
structure But (b : Nat) (w w' : World) : Prop where
  os : w'.os = w.os
  tape : w'.tape = w.tape
  output : w'.output = w.output
  size : w.heap.size ≤ w'.heap.size
  block : ∀ k, k < w.heap.size → k ≠ b → w'.heap[k]? = w.heap[k]?

theorem rowL_length (n : Nat) (f : Nat → Nat) : (rowL n f).length = 17 := by simp [rowL]
theorem rowL_succ (n : Nat) (f : Nat → Nat) (i : Nat) (hi : i < 16) : (rowL n f)[i + 1]? = some (.int .u64 (f i)) := by
  simp [rowL, hi]
theorem rowL_congr {n : Nat} {f g : Nat → Nat} (h : ∀ i, i < 16 → f i = g i) : rowL n f = rowL n g := by
  unfold rowL
  congr 1
  exact List.map_congr_left fun i hi => by rw [h i (by simpa using hi)]

theorem RowAt.congr {w : World} {b n : Nat} {f g : Nat → Nat} (hr : RowAt w b n f) (h : ∀ i, i < 16 → f i = g i) : RowAt w b n g := by
  unfold RowAt at *; rw [← rowL_congr h]; exact hr

theorem RowAt.size {w : World} {b n : Nat} {f : Nat → Nat} (h : RowAt w b n f) : w.cell? ⟨b, 0, none⟩ = some (.int .i64 n) := by
  rw [cell_of_row w b 0 _ _ _ h]; simp [rowL]
theorem RowAt.word {w : World} {b n : Nat} {f : Nat → Nat} (h : RowAt w b n f) (i : Nat) (hi : i < 16) : w.cell? ⟨b, 1 + i, none⟩ = some (.int .u64 (f i)) := by
  rw [cell_of_row w b (1 + i) _ _ _ h, Nat.add_comm]; simpa using rowL_succ n f i hi
theorem RowAt.free {w : World} {b n : Nat} {f : Nat → Nat} (h : RowAt w b n f) (j : Nat) : w.frozen? ⟨b, j, none⟩ = false := frozen_of_row w b j _ _ h
theorem RowAt.lt {w : World} {b n : Nat} {f : Nat → Nat} (h : RowAt w b n f) : b < w.heap.size := (Array.getElem?_eq_some_iff.1 h).1

theorem rowL_set (n : Nat) (f : Nat → Nat) (i v : Nat) (hi : i < 16) : (rowL n f).set (1 + i) (.int .u64 v) = rowL n (fun j => if j = i then v else f j) := by
  apply List.ext_getElem?
  intro k
  match k with
  | 0 => rw [Nat.add_comm 1 i]; simp [rowL]
  | k + 1 =>
    rw [Nat.add_comm 1 i, List.getElem?_set]
    by_cases hk : k < 16
    · rw [rowL_succ _ _ _ hk]
      by_cases e : i = k
      · subst e; rw [rowL_succ _ _ _ hk]; simp [rowL_length]; omega
      · rw [if_neg (by omega), rowL_succ _ _ _ hk, if_neg (fun h => e h.symm)]
    · rw [if_neg (by omega)]
      simp [rowL, hk]

/-- A store into word i. -/
theorem RowAt.setWord {w : World} {b n : Nat} {f : Nat → Nat} (h : RowAt w b n f) (i v : Nat) (hi : i < 16) :
    RowAt (w.setCell ⟨b, 1 + i, none⟩ (.int .u64 v)) b n (fun j => if j = i then v else f j) := by
  unfold RowAt
  rw [heap_setCell_same w b (1 + i) _ _ _ h, ← rowL_set n f i v hi]
  simp

theorem RowAt.below {w w' : World} {b n B : Nat} {f : Nat → Nat} (h : RowAt w b n f) (hb : Below B w w') (hlt : b < B) : RowAt w' b n f := (hb.block b hlt).trans h
theorem RowAt.but {w w' : World} {b n c : Nat} {f : Nat → Nat} (h : RowAt w b n f) (hb : But c w w') (hne : b ≠ c) : RowAt w' b n f := (hb.block b h.lt hne).trans h
theorem RowAt.drew {w : World} {b n : Nat} {f : Nat → Nat} (h : RowAt w b n f) : RowAt w.drew b n f := h

theorem But.refl (b : Nat) (w : World) : But b w w := ⟨rfl, rfl, rfl, Nat.le_refl _, fun _ _ _ => rfl⟩
theorem But.trans {b : Nat} {w w1 w2 : World} (h : But b w w1) (k : But b w1 w2) : But b w w2 :=
  ⟨k.os.trans h.os, k.tape.trans h.tape, k.output.trans h.output, Nat.le_trans h.size k.size, fun i hi hne => (k.block i (Nat.lt_of_lt_of_le hi h.size) hne).trans (h.block i hi hne)⟩
theorem But.of_below {b : Nat} {w w' : World} (h : Below w.heap.size w w') : But b w w' := ⟨h.os, h.tape, h.output, h.size, fun k hk _ => h.block k hk⟩
theorem But.drew {b : Nat} {w w' : World} (h : But b w w') : But b w w'.drew := ⟨h.os, h.tape, h.output, h.size, h.block⟩
theorem But.setCell {b : Nat} {w w' : World} (h : But b w w') (o : Nat) (v : Value) : But b w (w'.setCell ⟨b, o, none⟩ v) :=
  h.trans ⟨rfl, rfl, rfl, by simp [World.setCell], fun k _ hne => Below.heap_setCell _ _ _ _ hne⟩
theorem But.below {b B : Nat} {w w' : World} (h : But b w w') (hB : B ≤ w.heap.size) (hb : B ≤ b) : Below B w w' :=
  ⟨h.os, h.tape, h.output, h.size, fun k hk => h.block k (by omega) (by omega)⟩

/-! ### bit, below, Size -/
theorem wrap_pow (k : Nat) (hk : k < 64) : IntKind.u64.wrap (2 ^ k : Int) = ((2 ^ k : Nat) : Int) := by
  rw [IntKind.wrap_u64]
  have h : 2 ^ k < 2 ^ 64 := two_pow_lt hk
  have h2 : (2 ^ 64 : Nat) = 18446744073709551616 := rfl
  have e : ((2 ^ k : Nat) : Int) = (2 : Int) ^ k := by simp
  rw [← e]
  rw [h2] at h
  generalize (2 ^ k : Nat) = x at h
  omega

theorem bit_any (n : Nat) (hn : n < 1024) (w : World) :
    Calls Tryz.prog 104 #[.int .i64 n] w fun e w' => e = .returned (.int .u64 (bt n : Int)) ∧ w' = w := by
  go_enter Tryz.func104, Tryz.ntmps104
  go_wp2
  go_ret
  refine ⟨?_, rfl⟩
  show Ending.returned (Value.int IntKind.u64 (IntKind.u64.wrap (2 ^ (n % 64)))) = _
  rw [wrap_pow _ (by omega)]
  rfl

theorem below_any (n i : Nat) (hn : n ≤ 1024) (hi : i < 16) (w : World) :
    Calls Tryz.prog 153 #[.int .i64 n, .int .i64 i] w fun e w' => e = .returned (.int .u64 ((wd (2 ^ n - 1) i : Nat) : Int)) ∧ w' = w := by
  have key := wd_ones n i
  by_cases h1 : n ≤ 64 * i
  · have e : wd (2 ^ n - 1) i = 0 := by
      rw [key, if_neg (by omega), show n - 64 * i = 0 by omega]
    rw [e]
    clear key e
    go_enter Tryz.func153, Tryz.ntmps153
    go_wp2
    go_ret
    exact ⟨rfl, rfl⟩
  · by_cases h2 : 64 * (i + 1) ≤ n
    · rw [key, if_pos h2]
      clear key
      go_enter Tryz.func153, Tryz.ntmps153
      go_wp2
      go_ret
      exact ⟨rfl, rfl⟩
    · rw [key, if_neg h2]
      clear key
      have hk : n - i * 64 < 64 := by omega
      go_enter Tryz.func153, Tryz.ntmps153
      go_wp2
      go_ret
      refine ⟨?_, rfl⟩
      show Ending.returned (Value.int IntKind.u64 (IntKind.u64.wrap (IntKind.u64.wrap (2 ^ (n - i * 64)) - 1))) = _
      rw [wrap_pow _ hk, show n - 64 * i = n - i * 64 by omega, IntKind.wrap_u64]
      have h3 : 2 ^ (n - i * 64) < 2 ^ 64 := two_pow_lt hk
      have h4 : (2 ^ 64 : Nat) = 18446744073709551616 := rfl
      have h5 : 0 < 2 ^ (n - i * 64) := Nat.two_pow_pos _
      congr 2
      omega

theorem size_nil (w : World) :
    Calls Tryz.prog 128 #[.pointer none] w fun e w' => e = .returned (.int .i64 0) ∧ w' = w := by
  go_enter Tryz.func128, Tryz.ntmps128
  go_wp2
  go_ret
  exact ⟨rfl, rfl⟩

theorem size_some (b n : Nat) (f : Nat → Nat) (w : World) (hr : RowAt w b n f) :
    Calls Tryz.prog 128 #[.pointer (some ⟨b, 0, none⟩)] w fun e w' => e = .returned (.int .i64 n) ∧ w' = w := by
  have h := hr.size
  clear hr
  go_enter Tryz.func128, Tryz.ntmps128
  go_wp2
  go_ret
  exact ⟨rfl, rfl⟩

/-! ### value -/
theorem info58 : (Tryz.prog.info? 156).map (·.size) = some 17 := by kernel_rfl
theorem info58' (n : Nat) (f : Nat → Nat) : (Tryz.prog.info? 156).map (·.size) = some (rowL n f).toArray.size := by rw [info58]; simp [rowL]
theorem oneCell_rowL (n : Nat) (f : Nat → Nat) : (rowL n f).toArray.all (·.oneCell') = true := by
  refine all_oneCell_toArray ?_
  intro v hv
  simp only [rowL, List.mem_cons, List.mem_map] at hv
  rcases hv with rfl | ⟨i, _, rfl⟩ <;> rfl

theorem value_some (b n : Nat) (f : Nat → Nat) (w : World) (hr : RowAt w b n f) :
    Calls Tryz.prog 152 #[.pointer (some ⟨b, 0, none⟩)] w fun e w' => e = .returned (.agg (rowL n f).toArray) ∧ Below w.heap.size w w' := by
  have hlt := hr.lt
  have hg : ∀ o, (w.alloc o).heap[b]? = some (.cells (rowL n f).toArray 156 (0, 0)) := fun o => (Below.heap_alloc w o b hlt).trans hr
  go_enter Tryz.func152, Tryz.ntmps152
  go_wp2_with (first
    | (refine wpList_load_row rfl 156 _ rfl b rfl 156 (rowL n f).toArray (0, 0) _ (hg _) Tryz.underlying156 rfl (info58' n f) ?_)
    | (refine wpList_store_row rfl 156 _ _ rfl w.heap.size (rowL n f).toArray rfl rfl 156 _ (heap_alloc_last w _) (info58' n f) (by simp [rowL]) (oneCell_rowL n f) ?_))
  refine bodyPost_ret (v := .agg (rowL n f).toArray) (results_cell_row (fr := (0, 0)) rfl _ _ w.heap.size 156 (rowL n f).toArray _ rfl (setRow_heap _ _ _ _ _ _ (heap_alloc_last w _)) Tryz.underlying156 rfl (info58' n f)) rfl ⟨rfl, ?_⟩
  rw [World.setRow_alloc_new]
  exact (Below.refl _ _).alloc (Nat.le_refl _) _

theorem value_nil (w : World) :
    Calls Tryz.prog 152 #[.pointer none] w fun e w' => e = .returned (.agg (rowL 0 (fun _ => 0)).toArray) ∧ Below w.heap.size w w' := by
  have hb : (Tryz.prog.built 156 []).getD #[] = (rowL 0 (fun _ => 0)).toArray := by kernel_rfl
  go_enter Tryz.func152, Tryz.ntmps152
  go_wp2_with (first
    | (refine wpList_store_row rfl 156 _ _ rfl w.heap.size (rowL 0 (fun _ => 0)).toArray rfl rfl 156 _ (heap_alloc_last w _) (info58' 0 _) (by simp [rowL]) (oneCell_rowL 0 _) ?_))
  refine bodyPost_ret (v := .agg (rowL 0 (fun _ => 0)).toArray) (results_cell_row (fr := (0, 0)) rfl _ _ w.heap.size 156 (rowL 0 (fun _ => 0)).toArray _ rfl (setRow_heap _ _ _ _ _ _ (heap_alloc_last w _)) Tryz.underlying156 rfl (info58' 0 _)) rfl ⟨rfl, ?_⟩
  rw [World.setRow_alloc_new]
  exact (Below.refl _ _).alloc (Nat.le_refl _) _

end Go.Proofs.YthoamlahbnphkaaGreat.B

/-
  What Size, value, holds, Has do, of the nil set and of one in memory.
-/
namespace Go.Proofs.YthoamlahbnphkaaGreat.B
open Go.RowKit

/-- The pointer p leads to a set of size n whose members are the bits of m; nil: to none. -/
def SetM (w : World) (p : Option Addr) (n m : Nat) : Prop :=
  n ≤ 1024 ∧ m < 2 ^ n ∧ ((p = none ∧ n = 0) ∨ ∃ b, p = some ⟨b, 0, none⟩ ∧ RowAt w b n (wd m))

theorem SetM.zero {w : World} {p : Option Addr} {m : Nat} (h : SetM w p 0 m) : m = 0 := by
  have := h.2.1; simpa using this

theorem wd_zero' : wd 0 = fun _ => 0 := funext wd_zero

theorem SetM.nil (w : World) : SetM w none 0 0 := ⟨by decide, by decide, .inl ⟨rfl, rfl⟩⟩
theorem SetM.of {w : World} {b n m : Nat} (hr : RowAt w b n (wd m)) (hn : n ≤ 1024) (hm : m < 2 ^ n) : SetM w (some ⟨b, 0, none⟩) n m := ⟨hn, hm, .inr ⟨b, rfl, hr⟩⟩

theorem size_any (p : Option Addr) (n m : Nat) (w : World) (h : SetM w p n m) :
    Calls Tryz.prog 128 #[.pointer p] w fun e w' => e = .returned (.int .i64 n) ∧ w' = w := by
  rcases h.2.2 with ⟨rfl, rfl⟩ | ⟨b, rfl, hr⟩
  · exact size_nil w
  · exact size_some b n _ w hr

theorem value_any (p : Option Addr) (n m : Nat) (w : World) (h : SetM w p n m) :
    Calls Tryz.prog 152 #[.pointer p] w fun e w' => e = .returned (.agg (rowL n (wd m)).toArray) ∧ Below w.heap.size w w' := by
  rcases h.2.2 with ⟨rfl, rfl⟩ | ⟨b, rfl, hr⟩
  · rw [h.zero, wd_zero']; exact value_nil w
  · exact value_some b n _ w hr

/-- May x be a member? -/
def inB (n : Nat) (x : Int) : Bool := decide (0 ≤ x) && decide (x < n)
/-- Is x a member? -/
def hasB (m : Nat) (x : Int) : Bool := decide (0 ≤ x) && m.testBit x.toNat

theorem holds_any (p : Option Addr) (n m : Nat) (x : Int) (w : World) (h : SetM w p n m) :
    Calls Tryz.prog 103 #[.pointer p, .int .i64 x] w fun e w' => e = .returned (.bool (inB n x)) ∧ w' = w := by
  by_cases h0 : 0 ≤ x
  · have hd : decide (0 ≤ x) = true := decide_eq_true h0
    have hS := size_any p n m w h
    clear h
    go_enter Tryz.func103, Tryz.ntmps103
    go_wp2_with (go_at_call 128; refine hS.mono ?_; rintro e w' ⟨rfl, rfl⟩)
    go_ret
    exact ⟨by simp [inB, h0], rfl⟩
  · have hd : decide (0 ≤ x) = false := decide_eq_false h0
    go_enter Tryz.func103, Tryz.ntmps103
    go_wp2_with fail
    go_ret
    exact ⟨by simp [inB, hd], rfl⟩

theorem SetM.drewN {w : World} {p : Option Addr} {n m : Nat} (h : SetM w p n m) (k : Nat) : SetM (w.drewN k) p n m := by
  unfold SetM RowAt at *
  simpa using h

theorem holds_no {p : Option Addr} {n m : Nat} {x : Int} {w : World} (h : SetM w p n m) (hx : inB n x = false) :
    Calls Tryz.prog 103 #[.pointer p, .int .i64 x] w fun e w' => e = .returned (.bool false) ∧ w' = w := by
  have := holds_any p n m x w h
  rwa [hx] at this
theorem holds_yes {p : Option Addr} {n m : Nat} {x : Int} {w : World} (h : SetM w p n m) (hx : inB n x = true) :
    Calls Tryz.prog 103 #[.pointer p, .int .i64 x] w fun e w' => e = .returned (.bool true) ∧ w' = w := by
  have := holds_any p n m x w h
  rwa [hx] at this

theorem has_no (p : Option Addr) (n m : Nat) (x : Int) (w : World) (h : SetM w p n m) (hx : inB n x = false) :
    Calls Tryz.prog 68 #[.pointer p, .int .i64 x] w fun e w' => e = .returned (.bool false) ∧ ∃ k, w' = w.drewN k := by
  have H : Hid (SetM w p n m) := h
  have HX : Hid (inB n x = false) := hx
  clear h hx
  go_enter Tryz.func68, Tryz.ntmps68
  go_wp2_with fail
  go_quiet ((go_at_call 103; exact Calls.quiet_of_same (holds_no (SetM.drewN H.out _) HX.out)))
  go_wp2
  go_ret
  exact ⟨rfl, _, rfl⟩

theorem has_yes (b n m k : Nat) (w : World) (hr : RowAt w b n (wd m)) (hn : n ≤ 1024) (hm : m < 2 ^ n) (hk : k < n) :
    Calls Tryz.prog 68 #[.pointer (some ⟨b, 0, none⟩), .int .i64 k] w fun e w' => e = .returned (.bool (m.testBit k)) ∧ ∃ k, w' = w.drewN k := by
  have H : Hid (SetM w (some ⟨b, 0, none⟩) n m) := SetM.of hr hn hm
  have HX : Hid (inB n (k : Int) = true) := by show inB n k = true; simp [inB, hk]
  have hc := hr.word (k / 64) (by omega)
  have hk2 : (k : Int) < 1024 := by omega
  have hk3 : (k : Int) / 64 < 16 := by omega
  have hb := test_bit m k
  clear hr hm
  go_enter Tryz.func68, Tryz.ntmps68
  go_wp2_with fail
  go_quiet (first | (go_at_call 103; exact Calls.quiet_of_same (holds_yes (SetM.drewN H.out _) HX.out)) | (go_at_call 104; exact Calls.quiet_of_same (bit_any k (by omega) _)))
  go_wp2
  go_ret
  exact ⟨rfl, _, rfl⟩

theorem has_any (p : Option Addr) (n m : Nat) (x : Int) (w : World) (h : SetM w p n m) :
    Calls Tryz.prog 68 #[.pointer p, .int .i64 x] w fun e w' => e = .returned (.bool (hasB m x)) ∧ ∃ k, w' = w.drewN k := by
  cases hx : inB n x with
  | false =>
    have e : hasB m x = false := by
      unfold hasB
      by_cases h0 : 0 ≤ x
      · have h1 : n ≤ x.toNat := by simp [inB, h0] at hx; omega
        rw [Nat.testBit_lt_two_pow (Nat.lt_of_lt_of_le h.2.1 (Nat.pow_le_pow_right (by decide) h1)), Bool.and_false]
      · rw [decide_eq_false h0, Bool.false_and]
    rw [e]
    exact has_no p n m x w h hx
  | true =>
    obtain ⟨h0, h1⟩ : 0 ≤ x ∧ x < n := by simpa [inB] using hx
    obtain ⟨k, rfl⟩ := Int.eq_ofNat_of_zero_le h0
    have hk : k < n := by omega
    rcases h.2.2 with ⟨_, rfl⟩ | ⟨b, rfl, hr⟩
    · omega
    · have := has_yes b n m k w hr h.1 h.2.1 hk
      have e : hasB m (k : Int) = m.testBit k := by simp [hasB]
      rw [e]
      exact this

end Go.Proofs.YthoamlahbnphkaaGreat.B
