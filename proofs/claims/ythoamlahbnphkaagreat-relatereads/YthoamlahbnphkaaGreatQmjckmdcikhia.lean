import Derived.Test.YthoamlahbnphkaaGreatQclnnonbocidb

/-
  awake, walked.
-/
namespace Go.Proofs.YthoamlahbnphkaaGreat
open Go.RowKit Go.Maps Go.Shelf

def SA : BS := (BS.zero.term ⟨#[43]⟩).2.2
def SB : BS := (SA.non ⟨#[101]⟩).2.2
def SC : BS := (SB.rule (-1) [-1, 1]).2.2
theorem sa_ans : (BS.zero.term ⟨#[43]⟩).1 = 1 ∧ (BS.zero.term ⟨#[43]⟩).2.1 = 0 := ⟨rfl, rfl⟩
theorem sb_ans : (SA.non ⟨#[101]⟩).1 = -1 ∧ (SA.non ⟨#[101]⟩).2.1 = 0 := ⟨rfl, rfl⟩
theorem sc_ans : (SB.rule (-1) [-1, 1]).1 = 0 ∧ (SB.rule (-1) [-1, 1]).2.1 = 0 := ⟨rfl, rfl⟩
theorem sc_terms : SC.gram.terms = [(⟨#[]⟩, 0), (⟨#[43]⟩, 0)] := rfl
theorem sc_nons : SC.gram.nons = [⟨#[101]⟩] := rfl
theorem sc_levels : SC.gram.levels = [] := rfl
theorem sc_start : SC.gram.start = 2 := rfl
theorem sc_prods : SC.gram.prods = [⟨2, [2, 1], 0⟩] := rfl
theorem sc_tells : 0 < SC.prods.length ∧ SC.nons.length ≤ (ordOf SC.prods).length := ⟨by decide, by decide⟩

theorem sc_valid : validOK [(⟨#[]⟩, 0), (⟨#[43]⟩, 0)] [⟨#[101]⟩] [] 2 1 (fun i => (SC.gram.prods.getD i ⟨0, [], 0⟩).left) (fun i => (SC.gram.prods.getD i ⟨0, [], 0⟩).right) (fun i => (SC.gram.prods.getD i ⟨0, [], 0⟩).level) := by
  refine ⟨⟨by decide, by decide, ⟨[(⟨#[43]⟩, 0)], rfl, fun t ht => ?_, by simp⟩, ⟨fun s hs => ?_, by simp⟩, fun j hj => by simp at hj, fun i hi => ?_, by decide, ⟨by decide, by decide⟩⟩, fun i hi => ?_⟩
  · simp at ht
    subst ht
    exact ⟨by decide, by decide, by decide⟩
  · simp at hs
    subst hs
    decide
  · obtain rfl : i = 0 := by omega
    refine ⟨⟨by decide, by decide⟩, ⟨by decide, by decide⟩, fun x hx => ?_⟩
    have hx' : x = 2 ∨ x = 1 := by
      have : x ∈ [(2 : Int), 1] := hx
      simpa using this
    rcases hx' with rfl | rfl
    · exact .inr ⟨by decide, by decide⟩
    · exact .inl ⟨by decide, by decide⟩
  · have : (leftsTo (fun i => (SC.gram.prods.getD i ⟨0, [], 0⟩).left) 1).length = 1 := by decide
    omega

end Go.Proofs.YthoamlahbnphkaaGreat

namespace Go.Proofs.YthoamlahbnphkaaGreat
open Go.RowKit Go.Maps Go.Shelf

attribute [local go_sem] Oper.semAt_some

end Go.Proofs.YthoamlahbnphkaaGreat

/-
  Lists that are compared: slices.Equal of numbers, texts, terminals; the document's SameInts.
-/
namespace Go.Proofs.YthoamlahbnphkaaGreat
open Go.RowKit Go.Maps Go.Shelf

attribute [local go_sem] Oper.semAt_some

theorem list_same {α : Type} (d : α) {l m : List α} (hn : l.length = m.length) (h : ∀ i, i < l.length → l.getD i d = m.getD i d) : l = m := by
  apply List.ext_getElem hn
  intro i h1 h2
  have := h i h1
  simpa [List.getD, h1, h2] using this
theorem bytes_toList (s t : ByteArray) : (s.toList = t.toList) ↔ s = t := by
  rw [ByteArray.toList_eq, ByteArray.toList_eq]
  exact ⟨bytes_ext, fun h => by rw [h]⟩

set_option maxRecDepth 100000 in
set_option maxHeartbeats 1000000 in
theorem equalInt_any (a1 a2 : Option Addr) (c1 c2 : Nat) (l1 l2 : List Int) (w : World) (h1 : IntsAt w a1 l1) (h2 : IntsAt w a2 l2) (hb : l1.length ≤ 17592186044416) (r : Bool) (hr : r = true ↔ l1 = l2) :
    Calls Tryz.prog 129 #[.slice a1 l1.length c1, .slice a2 l2.length c2] w fun e w' => e = .returned (.bool r) ∧ ∃ q, w' = w.drewN q := by
  have H1 : Hid (IntsAt w a1 l1) := h1
  have H2 : Hid (IntsAt w a2 l2) := h2
  have HRT : Hid (l1.length = l2.length → (∀ i, i < l1.length → l1.getD i 0 = l2.getD i 0) → r = true) := fun hn h => hr.2 (list_same 0 hn h)
  have HRF : Hid (∀ i, l1.getD i 0 ≠ l2.getD i 0 → r = false) := fun i h => Bool.eq_false_iff.2 fun hh => h (by rw [hr.1 hh])
  have HRN : Hid (l1.length ≠ l2.length → r = false) := fun h => Bool.eq_false_iff.2 fun hh => h (by rw [hr.1 hh])
  obtain ⟨n, hn⟩ : ∃ n, n = l1.length := ⟨_, rfl⟩
  obtain ⟨m, hm⟩ : ∃ m, m = l2.length := ⟨_, rfl⟩
  have HN : Hid (l1.length = n ∧ l2.length = m) := ⟨hn.symm, hm.symm⟩
  rw [← hn] at hb ⊢
  rw [← hm]
  clear h1 h2 hr hn hm
  by_cases hnm : n = m
  · subst hnm
    go_enter Tryz.func129, Tryz.ntmps129
    go_wp2_with fail
    go_loopw [13] (fun i wr => ∃ k : Nat, k ≤ n ∧ i = .int .i64 k ∧ (∃ q, wr = w.drewN q) ∧ ∀ j, j < k → l1.getD j 0 = l2.getD j 0) (fun i _ => n - (intOf i).toNat)
    case atStart => exact ⟨0, Nat.zero_le _, rfl, ⟨0, rfl⟩, fun j hj => by omega⟩
    case round =>
      obtain ⟨k, hk, rfl, ⟨q, rfl⟩, hall⟩ := hrel
      have HA : Hid (∀ j, j < k → l1.getD j 0 = l2.getD j 0) := hall
      clear hall
      by_cases hlt : k < n
      · obtain ⟨b1, o1, rfl, hc1⟩ : ∃ b off, a1 = some ⟨b, off, none⟩ ∧ ∀ i, i < l1.length → w.cell? ⟨b, off + i, none⟩ = some (.int .i64 (l1.getD i 0)) := by
          rcases H1.out with h | h
          · have := HN.out.1; subst h; simp at this; omega
          · exact h
        obtain ⟨b2, o2, rfl, hc2⟩ : ∃ b off, a2 = some ⟨b, off, none⟩ ∧ ∀ i, i < l2.length → w.cell? ⟨b, off + i, none⟩ = some (.int .i64 (l2.getD i 0)) := by
          rcases H2.out with h | h
          · have := HN.out.2; subst h; simp at this; omega
          · exact h
        have d1 := hc1 k (by rw [HN.out.1]; exact hlt)
        have d2 := hc2 k (by rw [HN.out.2]; exact hlt)
        have HF : Hid (l1.getD k 0 ≠ l2.getD k 0 → r = false) := HRF.out k
        have HS : Hid (l1.getD k 0 = l2.getD k 0 → ∀ j, j < k + 1 → l1.getD j 0 = l2.getD j 0) := fun h j hj => by
          by_cases e : j = k
          · rw [e]; exact h
          · exact HA.out j (by omega)
        clear hc1 hc2
        generalize l1.getD k 0 = x at *
        generalize l2.getD k 0 = y at *
        by_cases hxy : x = y
        · have hd : (x != y) = false := by simp [hxy]
          have HS' := HS.out hxy
          have HS2 : Hid (∀ j, j < k + 1 → l1.getD j 0 = l2.getD j 0) := HS'
          clear hxy HS' HS HF
          go_wp2_with fail
          go_quiet (fail)
          go_wp2
          go_roundw
          case rel => exact ⟨k + 1, by omega, by go_num, ⟨_, rfl⟩, HS2.out⟩
          case measure => simp [intOf]; omega
        · have hd : (x != y) = true := by simp [hxy]
          have hrf := HF.out hxy
          clear hxy HS HF
          go_wp2_with fail
          go_quiet (fail)
          go_wp2
          go_ret
          exact ⟨by rw [hrf]; rfl, q + nq, by simp⟩
      · obtain rfl : k = n := by omega
        have hrt : r = true := HRT.out (by rw [HN.out.1, HN.out.2]) fun i hi => HA.out i (by rw [← HN.out.1]; exact hi)
        go_wp2_with fail
        go_ret
        exact ⟨by rw [hrt]; rfl, q, rfl⟩
  · have hd : ((n : Int) != (m : Int)) = true := by simp; omega
    have hrf : r = false := HRN.out (by rw [HN.out.1, HN.out.2]; exact hnm)
    clear hnm
    go_enter Tryz.func129, Tryz.ntmps129
    go_wp2_with fail
    go_ret
    exact ⟨by rw [hrf]; rfl, 0, rfl⟩

set_option maxRecDepth 100000 in
set_option maxHeartbeats 1000000 in
theorem sameInts_any (a1 a2 : Option Addr) (c1 c2 : Nat) (l1 l2 : List Int) (w : World) (h1 : IntsAt w a1 l1) (h2 : IntsAt w a2 l2) (hb : l1.length ≤ 17592186044416) (r : Bool) (hr : r = true ↔ l1 = l2) :
    Calls Tryz.prog 35 #[.slice a1 l1.length c1, .slice a2 l2.length c2] w fun e w' => e = .returned (.bool r) ∧ ∃ q, w' = w.drewN q := by
  have H1 : Hid (IntsAt w a1 l1) := h1
  have H2 : Hid (IntsAt w a2 l2) := h2
  have HRT : Hid (l1.length = l2.length → (∀ i, i < l1.length → l1.getD i 0 = l2.getD i 0) → r = true) := fun hn h => hr.2 (list_same 0 hn h)
  have HRF : Hid (∀ i, l1.getD i 0 ≠ l2.getD i 0 → r = false) := fun i h => Bool.eq_false_iff.2 fun hh => h (by rw [hr.1 hh])
  have HRN : Hid (l1.length ≠ l2.length → r = false) := fun h => Bool.eq_false_iff.2 fun hh => h (by rw [hr.1 hh])
  obtain ⟨n, hn⟩ : ∃ n, n = l1.length := ⟨_, rfl⟩
  obtain ⟨m, hm⟩ : ∃ m, m = l2.length := ⟨_, rfl⟩
  have HN : Hid (l1.length = n ∧ l2.length = m) := ⟨hn.symm, hm.symm⟩
  rw [← hn] at hb ⊢
  rw [← hm]
  clear h1 h2 hr hn hm
  by_cases hnm : n = m
  · subst hnm
    go_enter Tryz.func35, Tryz.ntmps35
    go_wp2_with fail
    go_loopw [5] (fun i wr => ∃ k : Nat, k ≤ n ∧ i = .int .i64 k ∧ (∃ q, wr = w.drewN q) ∧ ∀ j, j < k → l1.getD j 0 = l2.getD j 0) (fun i _ => n - (intOf i).toNat)
    case atStart => exact ⟨0, Nat.zero_le _, rfl, ⟨0, rfl⟩, fun j hj => by omega⟩
    case round =>
      obtain ⟨k, hk, rfl, ⟨q, rfl⟩, hall⟩ := hrel
      have HA : Hid (∀ j, j < k → l1.getD j 0 = l2.getD j 0) := hall
      clear hall
      by_cases hlt : k < n
      · obtain ⟨b1, o1, rfl, hc1⟩ : ∃ b off, a1 = some ⟨b, off, none⟩ ∧ ∀ i, i < l1.length → w.cell? ⟨b, off + i, none⟩ = some (.int .i64 (l1.getD i 0)) := by
          rcases H1.out with h | h
          · have := HN.out.1; subst h; simp at this; omega
          · exact h
        obtain ⟨b2, o2, rfl, hc2⟩ : ∃ b off, a2 = some ⟨b, off, none⟩ ∧ ∀ i, i < l2.length → w.cell? ⟨b, off + i, none⟩ = some (.int .i64 (l2.getD i 0)) := by
          rcases H2.out with h | h
          · have := HN.out.2; subst h; simp at this; omega
          · exact h
        have d1 := hc1 k (by rw [HN.out.1]; exact hlt)
        have d2 := hc2 k (by rw [HN.out.2]; exact hlt)
        have HF : Hid (l1.getD k 0 ≠ l2.getD k 0 → r = false) := HRF.out k
        have HS : Hid (l1.getD k 0 = l2.getD k 0 → ∀ j, j < k + 1 → l1.getD j 0 = l2.getD j 0) := fun h j hj => by
          by_cases e : j = k
          · rw [e]; exact h
          · exact HA.out j (by omega)
        clear hc1 hc2
        generalize l1.getD k 0 = x at *
        generalize l2.getD k 0 = y at *
        by_cases hxy : x = y
        · have hd : (x != y) = false := by simp [hxy]
          have HS' := HS.out hxy
          have HS2 : Hid (∀ j, j < k + 1 → l1.getD j 0 = l2.getD j 0) := HS'
          clear hxy HS' HS HF
          go_wp2_with fail
          go_quiet (fail)
          go_wp2
          go_roundw
          case rel => exact ⟨k + 1, by omega, by go_num, ⟨_, rfl⟩, HS2.out⟩
          case measure => simp [intOf]; omega
        · have hd : (x != y) = true := by simp [hxy]
          have hrf := HF.out hxy
          clear hxy HS HF
          go_wp2_with fail
          go_quiet (fail)
          go_wp2
          go_ret
          exact ⟨by rw [hrf]; rfl, q + nq, by simp⟩
      · obtain rfl : k = n := by omega
        have hrt : r = true := HRT.out (by rw [HN.out.1, HN.out.2]) fun i hi => HA.out i (by rw [← HN.out.1]; exact hi)
        go_wp2_with fail
        go_ret
        exact ⟨by rw [hrt]; rfl, q, rfl⟩
  · have hd : ((n : Int) != (m : Int)) = true := by simp; omega
    have hrf : r = false := HRN.out (by rw [HN.out.1, HN.out.2]; exact hnm)
    clear hnm
    go_enter Tryz.func35, Tryz.ntmps35
    go_wp2_with fail
    go_ret
    exact ⟨by rw [hrf]; rfl, 0, rfl⟩

end Go.Proofs.YthoamlahbnphkaaGreat

/-
  Productions that are compared: sameProd, slices.EqualFunc.
-/
namespace Go.Proofs.YthoamlahbnphkaaGreat
open Go.RowKit Go.Maps Go.Shelf

attribute [local go_sem] Oper.semAt_some

theorem quietEqualInt (a1 a2 : Option Addr) (c1 c2 : Nat) (l1 l2 : List Int) (w W : World) (hg : w.grownBy W none) (h1 : IntsAt w a1 l1) (h2 : IntsAt w a2 l2) (hb : l1.length ≤ 17592186044416) (r : Bool) (hr : r = true ↔ l1 = l2) :
    Calls Tryz.prog 129 #[.slice a1 l1.length c1, .slice a2 l2.length c2] W fun e w' => e = .returned (.bool r) ∧ w.grownBy w' none := by
  refine (equalInt_any a1 a2 c1 c2 l1 l2 W (h1.kept hg) (h2.kept hg) hb r hr).mono ?_
  rintro e w' ⟨rfl, q, rfl⟩
  exact ⟨rfl, grown_trans hg (grown_drewN _ _)⟩

set_option maxRecDepth 100000 in
theorem sameProd_any (L1 L2 V1 V2 : Int) (a1 a2 : Option Addr) (c1 c2 : Nat) (R1 R2 : List Int) (w : World) (h1 : IntsAt w a1 R1) (h2 : IntsAt w a2 R2) (hb : R1.length ≤ 17592186044416) (r : Bool) (hr : r = true ↔ (L1 = L2 ∧ R1 = R2 ∧ V1 = V2)) :
    Calls Tryz.prog 105 #[.agg #[.int .i64 L1, .slice a1 R1.length c1, .int .i64 V1], .agg #[.int .i64 L2, .slice a2 R2.length c2, .int .i64 V2]] w fun e w' => e = .returned (.bool r) ∧ w.grownBy w' none := by
  obtain ⟨rR, hrR⟩ := boolOf (R1 = R2)
  have HE : Hid (∀ W, w.grownBy W none → Calls Tryz.prog 129 #[.slice a1 R1.length c1, .slice a2 R2.length c2] W fun e w' => e = .returned (.bool rR) ∧ w.grownBy w' none ∧ W.grownBy w' none) := fun W hg => by
    refine (equalInt_any a1 a2 c1 c2 R1 R2 W (h1.kept hg) (h2.kept hg) hb rR hrR).mono ?_
    rintro e w' ⟨rfl, q, rfl⟩
    exact ⟨rfl, grown_trans hg (grown_drewN _ _), grown_drewN _ _⟩
  have HR : Hid (r = true ↔ (L1 = L2 ∧ rR = true ∧ V1 = V2)) := by rw [hrR]; exact hr
  clear hr hrR h1 h2
  generalize R1.length = n1 at *
  generalize R2.length = n2 at *
  by_cases hL : L1 = L2
  · have d1 : (L1 == L2) = true := beq_iff_eq.2 hL
    have HG : Hid (w.grownBy ((w.alloc (.cells #[.int .i64 L1, .slice a1 n1 c1, .int .i64 V1] 71)).alloc (.cells #[.int .i64 L2, .slice a2 n2 c2, .int .i64 V2] 71)) none) := grown_trans (World.grownBy_alloc _ _ none) (World.grownBy_alloc _ _ none)
    have k1 : ((w.alloc (.cells #[.int .i64 L1, .slice a1 n1 c1, .int .i64 V1] 71)).alloc (.cells #[.int .i64 L2, .slice a2 n2 c2, .int .i64 V2] 71)).cell? ⟨w.heap.size, 2, none⟩ = some (.int .i64 V1) := (World.grownBy_alloc _ _ none).cell (by rw [cell_of_row _ _ _ _ _ _ (heap_alloc_last w _)]; rfl) (by simp)
    have k2 : ((w.alloc (.cells #[.int .i64 L1, .slice a1 n1 c1, .int .i64 V1] 71)).alloc (.cells #[.int .i64 L2, .slice a2 n2 c2, .int .i64 V2] 71)).cell? ⟨(w.alloc (.cells #[.int .i64 L1, .slice a1 n1 c1, .int .i64 V1] 71)).heap.size, 2, none⟩ = some (.int .i64 V2) := by rw [cell_of_row _ _ _ _ _ _ (heap_alloc_last _ _)]; rfl
    have es : (w.alloc (.cells #[.int .i64 L1, .slice a1 n1 c1, .int .i64 V1] 71)).heap.size = w.heap.size + 1 := World.size_alloc _ _
    rw [es] at k2
    have K1 : Hid (((w.alloc (.cells #[.int .i64 L1, .slice a1 n1 c1, .int .i64 V1] 71)).alloc (.cells #[.int .i64 L2, .slice a2 n2 c2, .int .i64 V2] 71)).cell? ⟨w.heap.size, 2, none⟩ = some (.int .i64 V1)) := k1
    have K2 : Hid (((w.alloc (.cells #[.int .i64 L1, .slice a1 n1 c1, .int .i64 V1] 71)).alloc (.cells #[.int .i64 L2, .slice a2 n2 c2, .int .i64 V2] 71)).cell? ⟨w.heap.size + 1, 2, none⟩ = some (.int .i64 V2)) := k2
    clear es k1 k2
    have HLL : Hid (L1 = L2) := hL
    clear hL
    cases rR with
    | true =>
      go_enter Tryz.func105, Tryz.ntmps105
      go_wp2_with fail
      refine (HE.out _ HG.out).mono ?_
      rintro e w2 ⟨rfl, hg2, hg3⟩
      have m1 := hg3.cell K1.out (by simp)
      have m2 := hg3.cell K2.out (by simp)
      have HG2 : Hid (w.grownBy w2 none) := hg2
      clear hg2 hg3 K1 K2 HG
      by_cases hV : V1 = V2
      · have d2 : (V1 == V2) = true := beq_iff_eq.2 hV
        have hrt : r = true := HR.out.2 ⟨HLL.out, trivial, hV⟩
        clear hV
        go_wp2_with fail
        go_ret
        exact ⟨by rw [hrt]; rfl, HG2.out⟩
      · have d2 : (V1 == V2) = false := beq_eq_false_iff_ne.2 hV
        have hrf : r = false := Bool.eq_false_iff.2 fun hh => hV (HR.out.1 hh).2.2
        clear hV
        go_wp2_with fail
        go_ret
        exact ⟨by rw [hrf]; rfl, HG2.out⟩
    | false =>
      have hrf : r = false := Bool.eq_false_iff.2 fun hh => by have := (HR.out.1 hh).2.1; cases this
      go_enter Tryz.func105, Tryz.ntmps105
      go_wp2_with fail
      refine (HE.out _ HG.out).mono ?_
      rintro e w2 ⟨rfl, hg2, hg3⟩
      have HG2 : Hid (w.grownBy w2 none) := hg2
      clear hg2 hg3 K1 K2 HG
      go_wp2_with fail
      go_ret
      exact ⟨by rw [hrf]; rfl, HG2.out⟩
  · have d1 : (L1 == L2) = false := beq_eq_false_iff_ne.2 hL
    have hrf : r = false := Bool.eq_false_iff.2 fun hh => hL (HR.out.1 hh).1
    clear hL
    go_enter Tryz.func105, Tryz.ntmps105
    go_wp2_with fail
    go_ret
    exact ⟨by rw [hrf]; rfl, grown_trans (World.grownBy_alloc _ _ none) (World.grownBy_alloc _ _ none)⟩

/-- Two rows of productions are alike. -/
def prodsSame (n m : Nat) (L1 : Nat → Int) (R1 : Nat → List Int) (V1 : Nat → Int) (L2 : Nat → Int) (R2 : Nat → List Int) (V2 : Nat → Int) : Prop := n = m ∧ ∀ i, i < n → L1 i = L2 i ∧ R1 i = R2 i ∧ V1 i = V2 i

end Go.Proofs.YthoamlahbnphkaaGreat

namespace Go.Proofs.YthoamlahbnphkaaGreat
open Go.RowKit Go.Maps Go.Shelf

attribute [local go_sem] Oper.semAt_some

/-- Two boxed grammars. -/
structure Ph2 (w wr : World) (cs cs' : Array Value) : Prop where
  grown : w.grownBy wr none
  box : wr.heap[w.heap.size]? = some (.cells cs 27 (0, 0))
  box' : wr.heap[w.heap.size + 1]? = some (.cells cs' 27 (0, 0))
theorem Ph2.kept {w wr wx : World} {cs cs' : Array Value} (h : Ph2 w wr cs cs') (hg : wr.grownBy wx none) : Ph2 w wx cs cs' :=
  ⟨grown_trans h.grown hg, (hg.block _ (Array.getElem?_eq_some_iff.1 h.box).1 (by simp)).trans h.box, (hg.block _ (Array.getElem?_eq_some_iff.1 h.box').1 (by simp)).trans h.box'⟩
theorem Ph2.cells {w wr : World} {v0 v1 v2 v3 v4 u0 u1 u2 u3 u4 : Value} (h : Ph2 w wr #[v0, v1, v2, v3, v4] #[u0, u1, u2, u3, u4]) :
    (wr.cell? ⟨w.heap.size, 0, none⟩ = some v0 ∧ wr.cell? ⟨w.heap.size, 1, none⟩ = some v1 ∧ wr.cell? ⟨w.heap.size, 2, none⟩ = some v2 ∧ wr.cell? ⟨w.heap.size, 3, none⟩ = some v3 ∧ wr.cell? ⟨w.heap.size, 4, none⟩ = some v4) ∧
    (wr.cell? ⟨w.heap.size + 1, 0, none⟩ = some u0 ∧ wr.cell? ⟨w.heap.size + 1, 1, none⟩ = some u1 ∧ wr.cell? ⟨w.heap.size + 1, 2, none⟩ = some u2 ∧ wr.cell? ⟨w.heap.size + 1, 3, none⟩ = some u3 ∧ wr.cell? ⟨w.heap.size + 1, 4, none⟩ = some u4) := by
  refine ⟨⟨?_, ?_, ?_, ?_, ?_⟩, ?_, ?_, ?_, ?_, ?_⟩
  · rw [cell_of_row _ _ _ _ _ _ h.box]; rfl
  · rw [cell_of_row _ _ _ _ _ _ h.box]; rfl
  · rw [cell_of_row _ _ _ _ _ _ h.box]; rfl
  · rw [cell_of_row _ _ _ _ _ _ h.box]; rfl
  · rw [cell_of_row _ _ _ _ _ _ h.box]; rfl
  · rw [cell_of_row _ _ _ _ _ _ h.box']; rfl
  · rw [cell_of_row _ _ _ _ _ _ h.box']; rfl
  · rw [cell_of_row _ _ _ _ _ _ h.box']; rfl
  · rw [cell_of_row _ _ _ _ _ _ h.box']; rfl
  · rw [cell_of_row _ _ _ _ _ _ h.box']; rfl
theorem Ph2.mk' (w : World) (cs cs' : Array Value) : Ph2 w ((w.alloc (.cells cs 27)).alloc (.cells cs' 27)) cs cs' := by
  have h1 := heap_alloc_last w (.cells cs 27)
  have h2 := heap_alloc_last (w.alloc (.cells cs 27)) (.cells cs' 27)
  rw [World.size_alloc] at h2
  refine ⟨grown_trans (World.grownBy_alloc _ _ none) (World.grownBy_alloc _ _ none), ?_, h2⟩
  exact ((World.grownBy_alloc _ _ none).block _ (Array.getElem?_eq_some_iff.1 h1).1 (by simp)).trans h1

section
variable (ta na la pa ta' na' la' pa' : Option Addr) (tn nn ln pn tc nc lc pc tn' nn' ln' pn' tc' nc' lc' pc' : Nat) (st st' : Int)

end

end Go.Proofs.YthoamlahbnphkaaGreat
