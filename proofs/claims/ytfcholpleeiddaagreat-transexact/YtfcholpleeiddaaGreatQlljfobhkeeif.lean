/-
  trans: Walk and List, exported.
-/
import Derived.Test.YtfcholpleeiddaaGreatQbjlkfceonjic
namespace Go.Proofs.YtfcholpleeiddaaGreat.J
open Go.RowKit Go.Maps Go.Shelf

attribute [local go_sem] Oper.semAt_some

/-- Is it no symbol? -/
def noB (S : Nat) (s : Int) : Bool := !(decide (0 ≤ s ∧ s < (S : Int)))
section
variable (ta na la pa sa : Option Addr) (tc nc lc pc sc : Nat) (n N lb : Nat) (st : Int) (w : World) (tn nn ln : Nat)

set_option maxRecDepth 100000 in
theorem tindex_any (htn : tn ≤ 65) (hnn : nn ≤ 65) (ra : Option Addr) (rc : Nat) (l : List Int) (hl : IntsAt w ra l) (hn : l.length ≤ 1099511627776000) :
    Calls Tryz.prog 34 #[.slice ra l.length rc, .func (.func 23) #[.agg #[.slice ta tn tc, .slice na nn nc, .slice la ln lc, .int .i64 st, .slice pa n pc, .slice sa N sc, .map (some lb)]] #[]] w fun e w' => (∃ q : Int, e = .returned (.int .i64 q) ∧ -1 ≤ q ∧ (0 ≤ q ↔ ∃ x ∈ l, noB (tn + nn) x = true)) ∧ w.grownBy w' none := by
  have HL : Hid (IntsAt w ra l) := hl
  obtain ⟨m, hln⟩ : ∃ m, m = l.length := ⟨_, rfl⟩
  have HLN : Hid (l.length = m) := hln.symm
  rw [← hln] at hn ⊢
  have HRO : Hid (∀ x X, Calls Tryz.prog 23 #[.agg #[.slice ta tn tc, .slice na nn nc, .slice la ln lc, .int .i64 st, .slice pa n pc, .slice sa N sc, .map (some lb)], .int .i64 x] X fun e w' => e = .returned (.bool (noB (tn + nn) x)) ∧ X.grownBy w' none) := fun x X => isNoSym_any ta na la pa sa tc nc lc pc sc n N lb st X tn nn ln htn hnn x _ rfl
  clear hl hln htn hnn
  go_enter Tryz.func34, Tryz.ntmps34
  go_wp2_with fail
  go_loopg [8] m (fun gk j wr => ∃ k : Nat, k ≤ m ∧ gk = m - k ∧ j = .int .i64 k ∧ w.grownBy wr none ∧ ¬ ∃ x ∈ l.take k, noB (tn + nn) x = true)
  case atStart => exact ⟨0, Nat.zero_le _, rfl, rfl, grown_refl _ _, by simp⟩
  case round =>
    obtain ⟨k, hk, hgk, rfl, hg, hno⟩ := hrel
    have HGK : Hid (gk = m - k) := hgk
    have HG : Hid (w.grownBy wr none) := hg
    have HA : Hid (¬ ∃ x ∈ l.take k, noB (tn + nn) x = true) := hno
    clear hno hg hgk
    by_cases hlt : k < m
    · have hkl : k < l.length := by rw [HLN.out]; exact hlt
      obtain ⟨bl, off, hra, hc0⟩ : ∃ b off, ra = some ⟨b, off, none⟩ ∧ wr.cell? ⟨b, off + k, none⟩ = some (.int .i64 (l.getD k 0)) := by
        rcases HL.out.kept HG.out with h | ⟨b, off, e, h⟩
        · rw [h] at hkl; cases hkl
        · exact ⟨b, off, e, h k hkl⟩
      subst hra
      obtain ⟨x, hx⟩ : ∃ x, x = l.getD k 0 := ⟨_, rfl⟩
      have HMM : Hid (x ∈ l ∧ l.take (k + 1) = l.take k ++ [x]) := by
        have e : l.getD k 0 = l[k] := by rw [List.getD_eq_getElem?_getD, List.getElem?_eq_getElem hkl]; rfl
        refine ⟨by rw [hx, e]; exact List.getElem_mem _, by rw [List.take_succ_eq_append_getElem hkl, hx, e]⟩
      rw [← hx] at hc0
      have hk0 : (0 : Int) ≤ (k : Int) := by omega
      have hk1 : (k : Int) < (m : Int) := by omega
      have hkd : decide (k < m) = true := decide_eq_true hlt
      have HH := show Hid _ from HRO.out x wr
      obtain ⟨b, hb⟩ : ∃ b, b = noB (tn + nn) x := ⟨_, rfl⟩
      have HBE : Hid (b = noB (tn + nn) x) := hb
      rw [← hb] at HH
      clear hx hb
      go_wp2_with fail
      refine Calls.mono HH.out ?_
      rintro e w2 ⟨rfl, hg2⟩
      have HG2 : Hid (w.grownBy w2 none) := grown_trans HG.out hg2
      clear HH hg2 hc0
      cases b with
      | true =>
        go_wp2_with fail
        go_ret
        exact ⟨⟨k, rfl, by omega, ⟨fun _ => ⟨x, HMM.out.1, HBE.out.symm⟩, fun _ => by omega⟩⟩, HG2.out⟩
      | false =>
        go_wp2_with fail
        go_roundg (m - (k + 1))
        case measure => have := HGK.out; omega
        case rel => exact ⟨k + 1, by omega, rfl, by go_num, HG2.out, by
          rintro ⟨y, hy, h3⟩
          rw [HMM.out.2] at hy
          rcases List.mem_append.1 hy with hy | hy
          · exact HA.out ⟨y, hy, h3⟩
          · simp only [List.mem_singleton] at hy
            rw [hy, ← HBE.out] at h3
            cases h3⟩
    · have hkn : m = k := by omega
      subst hkn
      have hkd : decide (m < m) = false := decide_eq_false (by omega)
      have ht : l.take m = l := List.take_of_length_le (Nat.le_of_eq HLN.out)
      rw [ht] at HA
      go_wp2_with fail
      go_ret
      exact ⟨⟨-1, rfl, by omega, ⟨fun h => absurd h (by omega), fun h => absurd h HA.out⟩⟩, HG.out⟩

theorem tcont_any (htn : tn ≤ 65) (hnn : nn ≤ 65) (ra : Option Addr) (rc : Nat) (l : List Int) (hl : IntsAt w ra l) (hn : l.length ≤ 1099511627776000) (r : Bool) (hr : r = true ↔ ∃ x ∈ l, noB (tn + nn) x = true) :
    Calls Tryz.prog 22 #[.slice ra l.length rc, .func (.func 23) #[.agg #[.slice ta tn tc, .slice na nn nc, .slice la ln lc, .int .i64 st, .slice pa n pc, .slice sa N sc, .map (some lb)]] #[]] w fun e w' => e = .returned (.bool r) ∧ w.grownBy w' none := by
  have hI := tindex_any ta na la pa sa tc nc lc pc sc n N lb st w tn nn ln htn hnn ra rc l hl hn
  have HR : Hid (r = true ↔ ∃ x ∈ l, noB (tn + nn) x = true) := hr
  clear hl hr htn hnn
  go_enter Tryz.func22, Tryz.ntmps22
  go_wp2_with fail
  refine hI.mono ?_
  rintro e w2 ⟨⟨q, rfl, h1, h2⟩, hg⟩
  have HQ : Hid (decide (0 ≤ q) = r) := by
    show decide (0 ≤ q) = r
    rw [Bool.eq_iff_iff, decide_eq_true_eq, h2, HR.out]
  clear h2 hI
  go_wp2_with fail
  go_ret
  exact ⟨by rw [← HQ.out]; rfl, hg⟩
end

section
variable (ta na la pa : Option Addr) (tc nc lc pc : Nat) (n : Nat) (st : Int) (w : World) (tn nn ln : Nat)
/-- automatonOf, where it answers an error. -/
def OfBad (ec : Int) : Prop := ∀ X, w.grownBy X none → Calls Tryz.prog 17 #[.agg #[.slice ta tn tc, .slice na nn nc, .slice la ln lc, .int .i64 st, .slice pa n pc]] X fun e y => e = .returned (.tuple #[.agg #[.slice none 0 0, .slice none 0 0, .slice none 0 0, .int .i64 0, .slice none 0 0, .slice none 0 0, .map none], .int .i64 ec]) ∧ X.grownBy y none
/-- .. and where it tells an automaton. -/
def OfOk (ks : List (List It)) (es : List (List (Nat × Nat))) : Prop := ∀ X, w.grownBy X none → Calls Tryz.prog 17 #[.agg #[.slice ta tn tc, .slice na nn nc, .slice la ln lc, .int .i64 st, .slice pa n pc]] X fun e y => OfTold ta na la pa tc nc lc pc n st tn nn ln ks es X e y

set_option maxRecDepth 100000 in
theorem walkX_bad (ec : Int) (hec : ec = 1 ∨ ec = 11) (hO : OfBad ta na la pa tc nc lc pc n st w tn nn ln ec) (from_ : Int) (ra : Option Addr) (rl rc : Nat) : Calls Tryz.prog 13 #[.agg #[.slice ta tn tc, .slice na nn nc, .slice la ln lc, .int .i64 st, .slice pa n pc], .int .i64 from_, .slice ra rl rc] w fun e y => e = .returned (.tuple #[.int .i64 0, .int .i64 ec]) ∧ w.grownBy y none := by
  have HO : Hid (OfBad ta na la pa tc nc lc pc n st w tn nn ln ec) := hO
  have HX0 : Hid (w.grownBy (w.alloc (.cells #[.slice ta tn tc, .slice na nn nc, .slice la ln lc, .int .i64 st, .slice pa n pc] 27)) none) := World.grownBy_alloc _ _ none
  have hne : (ec != 0) = true := bne_iff_ne.2 (by omega)
  clear hO hec
  go_enter Tryz.func13, Tryz.ntmps13
  go_wp2_with fail
  refine Calls.mono (HO.out _ HX0.out) ?_
  rintro e w1 ⟨rfl, hg1⟩
  have HG1 : Hid (w.grownBy w1 none) := grown_trans HX0.out hg1
  clear hg1
  go_wp2_with fail
  go_ret2
  exact ⟨rfl, grown_trans HG1.out (World.grownBy_alloc _ _ none)⟩

set_option maxRecDepth 100000 in
theorem listX_bad (ec : Int) (hec : ec = 1 ∨ ec = 11) (hO : OfBad ta na la pa tc nc lc pc n st w tn nn ln ec) : Calls Tryz.prog 8 #[.agg #[.slice ta tn tc, .slice na nn nc, .slice la ln lc, .int .i64 st, .slice pa n pc]] w fun e y => e = .returned (.tuple #[.slice none 0 0, .int .i64 ec]) ∧ w.grownBy y none := by
  have HO : Hid (OfBad ta na la pa tc nc lc pc n st w tn nn ln ec) := hO
  have HX0 : Hid (w.grownBy (w.alloc (.cells #[.slice ta tn tc, .slice na nn nc, .slice la ln lc, .int .i64 st, .slice pa n pc] 27)) none) := World.grownBy_alloc _ _ none
  have hne : (ec != 0) = true := bne_iff_ne.2 (by omega)
  clear hO hec
  go_enter Tryz.func8, Tryz.ntmps8
  go_wp2_with fail
  refine Calls.mono (HO.out _ HX0.out) ?_
  rintro e w1 ⟨rfl, hg1⟩
  have HG1 : Hid (w.grownBy w1 none) := grown_trans HX0.out hg1
  clear hg1
  go_wp2_with fail
  go_ret2
  exact ⟨rfl, grown_trans HG1.out (World.grownBy_alloc _ _ none)⟩

/-- What List tells. -/
def TrErr (l : List It) (w : World) (e : Ending) (y : World) : Prop := ∃ (a : Option Addr) (c : Nat), e = .returned (.tuple #[.slice a l.length c, .int .i64 0]) ∧ y.ownsRow w.heap.size 39 2 (.slice a l.length c) l.length (itsV l) ∧ w.grownBy y none

set_option maxRecDepth 100000 in
theorem listX_ok (ks : List (List It)) (es : List (List (Nat × Nat))) (hN256 : ks.length ≤ 256) (hes : ∀ q, q < ks.length → (es.getD q []).length ≤ 130) (hO : OfOk ta na la pa tc nc lc pc n st w tn nn ln ks es) : Calls Tryz.prog 8 #[.agg #[.slice ta tn tc, .slice na nn nc, .slice la ln lc, .int .i64 st, .slice pa n pc]] w fun e y => TrErr (trT tn es ks.length) w e y := by
  have HO : Hid (OfOk ta na la pa tc nc lc pc n st w tn nn ln ks es) := hO
  have HX0 : Hid (w.grownBy (w.alloc (.cells #[.slice ta tn tc, .slice na nn nc, .slice la ln lc, .int .i64 st, .slice pa n pc] 27)) none) := World.grownBy_alloc _ _ none
  have HES := show Hid _ from hes
  have HNB : Hid (ks.length ≤ 256) := hN256
  clear hO hes hN256
  go_enter Tryz.func8, Tryz.ntmps8
  go_wp2_with fail
  refine Calls.mono (HO.out _ HX0.out) ?_
  rintro e w1 ⟨sa, sc, kv, ev, lb, m, rfl, hAP, hLd, hg1⟩
  have HG1 : Hid (w.grownBy (w1.alloc (.cells #[.slice ta tn tc, .slice na nn nc, .slice la ln lc, .int .i64 st, .slice pa n pc, .slice sa ks.length sc, .map (some lb)] 56)) none) := grown_trans HX0.out (grown_trans hg1 (World.grownBy_alloc _ _ none))
  have HT := show Hid _ from trans_any ta na la pa sa tc nc lc pc sc n ks.length lb st (w1.alloc (.cells #[.slice ta tn tc, .slice na nn nc, .slice la ln lc, .int .i64 st, .slice pa n pc, .slice sa ks.length sc, .map (some lb)] 56)) tn nn ln _ ks es kv ev rfl HNB.out (hAP.kept (World.grownBy_alloc _ _ none)) HES.out
  obtain ⟨N, hN⟩ : ∃ n, n = ks.length := ⟨_, rfl⟩
  have HN : Hid (N = ks.length) := hN
  rw [← hN] at HT HG1 ⊢
  clear hg1 hAP hLd hN
  go_wp2_with fail
  refine Calls.mono HT.out ?_
  rintro e w2 ⟨a2, c2, rfl, ho2, hg2⟩
  have HG2 : Hid (w.grownBy w2 none) := grown_trans HG1.out hg2
  have HO2 : Hid (w2.ownsRow w.heap.size 39 2 (.slice a2 (trT tn es N).length c2) (trT tn es N).length (itsV (trT tn es N))) := owns_base ho2 HG1.out.size
  obtain ⟨K, hK⟩ : ∃ k, k = (trT tn es N).length := ⟨_, rfl⟩
  have HK : Hid (K = (trT tn es N).length) := hK
  rw [← hK]
  clear ho2 hg2 hK HT
  go_wp2_with fail
  go_ret2
  exact ⟨a2, c2, by rw [← HN.out, ← HK.out]; rfl, by rw [← HN.out]; exact HO2.out, HG2.out⟩

set_option maxRecDepth 100000 in
set_option maxHeartbeats 2000000 in
theorem walkX_arg (ks : List (List It)) (es : List (List (Nat × Nat))) (htn : tn ≤ 65) (hnn : nn ≤ 65) (hO : OfOk ta na la pa tc nc lc pc n st w tn nn ln ks es) (from_ : Int) (ra : Option Addr) (rc : Nat) (row : List Int) (hr : IntsAt w ra row) (hrb : row.length ≤ 1099511627776000) (hbad : from_ < 0 ∨ (ks.length : Int) ≤ from_ ∨ ∃ x ∈ row, noB (tn + nn) x = true) : Calls Tryz.prog 13 #[.agg #[.slice ta tn tc, .slice na nn nc, .slice la ln lc, .int .i64 st, .slice pa n pc], .int .i64 from_, .slice ra row.length rc] w fun e y => e = .returned (.tuple #[.int .i64 0, .int .i64 1]) ∧ w.grownBy y none := by
  have HO : Hid (OfOk ta na la pa tc nc lc pc n st w tn nn ln ks es) := hO
  have HX0 : Hid (w.grownBy (w.alloc (.cells #[.slice ta tn tc, .slice na nn nc, .slice la ln lc, .int .i64 st, .slice pa n pc] 27)) none) := World.grownBy_alloc _ _ none
  have HC : Hid (∀ Y sa sc N lb, w.grownBy Y none → (∃ x ∈ row, noB (tn + nn) x = true) → Calls Tryz.prog 22 #[.slice ra row.length rc, .func (.func 23) #[.agg #[.slice ta tn tc, .slice na nn nc, .slice la ln lc, .int .i64 st, .slice pa n pc, .slice sa N sc, .map (some lb)]] #[]] Y fun e w' => e = .returned (.bool true) ∧ Y.grownBy w' none) := fun Y sa sc N lb hY hex => tcont_any ta na la pa sa tc nc lc pc sc n N lb st Y tn nn ln htn hnn ra rc row (hr.kept hY) hrb true ⟨fun _ => hex, fun _ => rfl⟩
  obtain ⟨M, hM⟩ : ∃ m, m = row.length := ⟨_, rfl⟩
  rw [← hM] at HC ⊢
  have HBAD := show Hid _ from hbad
  clear hO hM hr hrb hbad htn hnn
  go_enter Tryz.func13, Tryz.ntmps13
  go_wp2_with fail
  refine Calls.mono (HO.out _ HX0.out) ?_
  rintro e w1 ⟨sa, sc, kv, ev, lb, m, rfl, hAP, hLd, hg1⟩
  have HG1 : Hid (w.grownBy (w1.alloc (.cells #[.slice ta tn tc, .slice na nn nc, .slice la ln lc, .int .i64 st, .slice pa n pc, .slice sa ks.length sc, .map (some lb)] 56)) none) := grown_trans HX0.out (grown_trans hg1 (World.grownBy_alloc _ _ none))
  obtain ⟨N, hN⟩ : ∃ n, n = ks.length := ⟨_, rfl⟩
  rw [← hN] at HG1 HBAD ⊢
  clear hg1 hAP hLd hN
  by_cases h0 : from_ < 0
  · have hd : decide (from_ < 0) = true := decide_eq_true h0
    clear HBAD
    go_wp2_with fail
    go_ret2
    exact ⟨rfl, HG1.out⟩
  · have hd : decide (from_ < 0) = false := decide_eq_false h0
    by_cases h1 : (N : Int) ≤ from_
    · have hd1 : decide ((N : Int) ≤ from_) = true := decide_eq_true h1
      clear HBAD
      go_wp2_with fail
      go_ret2
      exact ⟨rfl, HG1.out⟩
    · have hd1 : decide ((N : Int) ≤ from_) = false := decide_eq_false h1
      have hex : ∃ x ∈ row, noB (tn + nn) x = true := by
        rcases HBAD.out with h | h | h
        · exact absurd h h0
        · exact absurd h h1
        · exact h
      have HCC := show Hid _ from HC.out _ sa sc N lb HG1.out hex
      clear HBAD hex HC
      go_wp2_with fail
      refine Calls.mono HCC.out ?_
      rintro e w2 ⟨rfl, hg2⟩
      have HG2 : Hid (w.grownBy w2 none) := grown_trans HG1.out hg2
      clear hg2 HCC
      go_wp2_with fail
      go_ret2
      exact ⟨rfl, HG2.out⟩

set_option maxRecDepth 100000 in
set_option maxHeartbeats 2000000 in
theorem walkX_ok (ks : List (List It)) (es : List (List (Nat × Nat))) (htn : tn ≤ 65) (hnn : nn ≤ 65) (hN256 : ks.length ≤ 256) (hOK : LeadOK es) (hO : OfOk ta na la pa tc nc lc pc n st w tn nn ln ks es) (q : Nat) (hq : q < ks.length) (ra : Option Addr) (rc : Nat) (row : List Int) (hr : IntsAt w ra row) (hrb : row.length ≤ 1099511627776000) (hgood : ∀ x ∈ row, noB (tn + nn) x = false) : Calls Tryz.prog 13 #[.agg #[.slice ta tn tc, .slice na nn nc, .slice la ln lc, .int .i64 st, .slice pa n pc], .int .i64 (q : Int), .slice ra row.length rc] w fun e y => e = .returned (.tuple #[.int .i64 (wayV (wayF es (some (q : Int)) row)), .int .i64 0]) ∧ w.grownBy y none := by
  have HO : Hid (OfOk ta na la pa tc nc lc pc n st w tn nn ln ks es) := hO
  have HX0 : Hid (w.grownBy (w.alloc (.cells #[.slice ta tn tc, .slice na nn nc, .slice la ln lc, .int .i64 st, .slice pa n pc] 27)) none) := World.grownBy_alloc _ _ none
  have HC : Hid (∀ Y sa sc N lb, w.grownBy Y none → Calls Tryz.prog 22 #[.slice ra row.length rc, .func (.func 23) #[.agg #[.slice ta tn tc, .slice na nn nc, .slice la ln lc, .int .i64 st, .slice pa n pc, .slice sa N sc, .map (some lb)]] #[]] Y fun e w' => e = .returned (.bool false) ∧ Y.grownBy w' none) := fun Y sa sc N lb hY => tcont_any ta na la pa sa tc nc lc pc sc n N lb st Y tn nn ln htn hnn ra rc row (hr.kept hY) hrb false ⟨(fun h => by cases h), fun ⟨x, h1, h2⟩ => by rw [hgood x h1] at h2; cases h2⟩
  have HW : Hid (∀ Y sa sc N lb m, w.grownBy Y none → LdAt Y lb m (leadA es) → Calls Tryz.prog 24 #[.agg #[.slice ta tn tc, .slice na nn nc, .slice la ln lc, .int .i64 st, .slice pa n pc, .slice sa N sc, .map (some lb)], .int .i64 (q : Int), .slice ra row.length rc] Y fun e y => e = .returned (.int .i64 (wayV (wayF es (some (q : Int)) row))) ∧ Y.grownBy y none) := fun Y sa sc N lb m hY hLd => walk_any ta na la pa sa tc nc lc pc sc n N lb st Y tn nn ln m es hLd hOK q (by omega) ra rc row (hr.kept hY) hrb (fun x hx => by
    have h := hgood x hx
    unfold noB at h
    have h2 : 0 ≤ x ∧ x < ((tn + nn : Nat) : Int) := by simpa using h
    exact WalkArith.wf_i64 ⟨by omega, by omega⟩)
  obtain ⟨M, hM⟩ : ∃ m, m = row.length := ⟨_, rfl⟩
  rw [← hM] at HC HW ⊢
  obtain ⟨v, hv⟩ : ∃ v, v = wayV (wayF es (some (q : Int)) row) := ⟨_, rfl⟩
  rw [← hv] at HW ⊢
  clear hO hM hr hrb hgood htn hnn hv hOK
  go_enter Tryz.func13, Tryz.ntmps13
  go_wp2_with fail
  refine Calls.mono (HO.out _ HX0.out) ?_
  rintro e w1 ⟨sa, sc, kv, ev, lb, m, rfl, hAP, hLd, hg1⟩
  have HG1 : Hid (w.grownBy (w1.alloc (.cells #[.slice ta tn tc, .slice na nn nc, .slice la ln lc, .int .i64 st, .slice pa n pc, .slice sa ks.length sc, .map (some lb)] 56)) none) := grown_trans HX0.out (grown_trans hg1 (World.grownBy_alloc _ _ none))
  have HLD : Hid (LdAt (w1.alloc (.cells #[.slice ta tn tc, .slice na nn nc, .slice la ln lc, .int .i64 st, .slice pa n pc, .slice sa ks.length sc, .map (some lb)] 56)) lb m (leadA es)) := hLd.kept (World.grownBy_alloc _ _ none) (by simp)
  have HBX := show Hid _ from heap_alloc_last w1 (.cells #[.slice ta tn tc, .slice na nn nc, .slice la ln lc, .int .i64 st, .slice pa n pc, .slice sa ks.length sc, .map (some lb)] 56)
  obtain ⟨N, hN⟩ : ∃ n, n = ks.length := ⟨_, rfl⟩
  rw [← hN] at HG1 HLD HBX hq ⊢
  have hd : decide ((q : Int) < 0) = false := decide_eq_false (by omega)
  have hd1 : decide ((N : Int) ≤ (q : Int)) = false := decide_eq_false (by omega)
  have hd2 : decide (N ≤ q) = false := decide_eq_false (by omega)
  have HCC := show Hid _ from HC.out _ sa sc N lb HG1.out
  clear hg1 hAP hLd hN hN256 HC
  go_wp2_with fail
  refine Calls.mono HCC.out ?_
  rintro e w2 ⟨rfl, hg2⟩
  have HG2 : Hid (w.grownBy w2 none) := grown_trans HG1.out hg2
  have HLD2 : Hid (LdAt w2 lb m (leadA es)) := HLD.out.kept hg2 (by simp)
  obtain ⟨k0, k1, k2, k3, k4, k5, k6⟩ := cells7 (box_kept HBX.out hg2)
  have HWC := show Hid _ from HW.out w2 sa sc N lb m HG2.out HLD2.out
  clear hg2 HCC HW
  go_wp2_with fail
  refine Calls.mono HWC.out ?_
  rintro e w3 ⟨rfl, hg3⟩
  have HG3 : Hid (w.grownBy w3 none) := grown_trans HG2.out hg3
  clear hg3 HWC
  go_wp2_with fail
  go_ret2
  exact ⟨rfl, HG3.out⟩
end

end Go.Proofs.YtfcholpleeiddaaGreat.J
