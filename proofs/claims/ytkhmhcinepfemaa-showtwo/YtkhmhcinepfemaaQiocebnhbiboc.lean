import Derived.Test.YtkhmhcinepfemaaQehgakdoijnpk
import Derived.Deep.RegionHeld3
import Derived.Deep.QuietTactic
import Derived.BigQuiet
import Derived.Test.YtkhmhcinepfemaaQbfoegajdkjhm
import Derived.Test.YtkhmhcinepfemaaQommdmnclnhbo
import Derived.Test.YtkhmhcinepfemaaQejpkdhbolflg
import Derived.Test.YtkhmhcinepfemaaQaindeapmhnpn
import Derived.Test.YtkhmhcinepfemaaQldmlliecijje

/-
  The document's texts of terminals, rows, productions and items.
-/
namespace Go.Proofs.Ytkhmhcinepfemaa
open Go.RowKit Go.Maps Go.Shelf

attribute [local go_sem] Oper.semAt_some

set_option maxRecDepth 100000 in
set_option maxHeartbeats 1000000 in
theorem rterms_any (ta na la pa : Option Addr) (tn nn ln n tc nc lc pc : Nat) (st : Int) (ts : List (ByteArray × Int)) (ns : List ByteArray) (w : World) (hT : TermsAt w ta ts) (hN : StrsAt w na ns) (htn : ts.length = tn) (hnn : ns.length = nn) (h1 : 1 ≤ tn) (ht : tn ≤ 1000) (hn : nn ≤ 17592186044416) (hl : ∀ k, k < tn → (symT ts ns k).length ≤ 1000) (lev : Int) (sel : Nat → List Int) (h0 : sel 0 = []) (hsel : ∀ k, 1 ≤ k → k < tn → sel k = if lev < 0 ∨ (ts.getD k (⟨#[]⟩, 0)).2 = lev then sel (k - 1) ++ [(k : Int)] else sel (k - 1)) :
    Calls Try.prog 31 #[.agg #[.slice ta tn tc, .slice na nn nc, .slice la ln lc, .int .i64 st, .slice pa n pc], .int .i64 lev] w fun e w' => e = .returned (.string (strOf (symsT ts ns true (sel (tn - 1))))) ∧ w.grownBy w' none := by
  have HX0 : Hid (PhAt w (w.alloc (.cells #[.slice ta tn tc, .slice na nn nc, .slice la ln lc, .int .i64 st, .slice pa n pc] 27)) w.heap.size #[.slice ta tn tc, .slice na nn nc, .slice la ln lc, .int .i64 st, .slice pa n pc]) := ⟨World.grownBy_alloc _ _ none, heap_alloc_last w _⟩
  have HT : Hid (TermsAt w ta ts) := hT
  have HLT : Hid (ts.length = tn) := htn
  have HS : Hid (∀ k, k < tn → ∀ Y, w.grownBy Y none → Calls Try.prog 32 #[.agg #[.slice ta tn tc, .slice na nn nc, .slice la ln lc, .int .i64 st, .slice pa n pc], .int .i64 k] Y fun e w' => e = .returned (.string (strOf (symT ts ns k))) ∧ Y.grownBy w' none) := fun k hk Y hY => rsymbol_any ta na la pa tn nn ln n tc nc lc pc st ts ns Y (hT.kept hY) (hN.kept hY) htn hnn k (by omega) hn (hl k hk)
  have HL : Hid (∀ k, k < tn → (symT ts ns k).length ≤ 1000) := hl
  have H0 : Hid (sel 0 = []) := h0
  have HSEL : Hid (∀ k, 1 ≤ k → k < tn → sel k = if lev < 0 ∨ (ts.getD k (⟨#[]⟩, 0)).2 = lev then sel (k - 1) ++ [(k : Int)] else sel (k - 1)) := hsel
  clear hT hN htn hnn hl h0 hsel
  go_enter Try.func31, Try.ntmps31
  go_wp2_with fail
  go_loopg [5, 6] tn (fun gk s i wr => ∃ (k : Nat) (b : ByteArray), k + 1 ≤ tn ∧ gk = tn - k ∧ i = .int .i64 (k + 1 : Nat) ∧ s = .string b ∧ b = strOf (symsT ts ns true (sel k)) ∧ b.size ≤ k * 1001 ∧ PhAt w wr w.heap.size #[.slice ta tn tc, .slice na nn nc, .slice la ln lc, .int .i64 st, .slice pa n pc])
  case atStart => exact ⟨0, ⟨#[]⟩, by omega, rfl, rfl, rfl, by rw [H0.out]; rfl, by decide, HX0.out⟩
  case round =>
    obtain ⟨k, b, hk, hgk, rfl, rfl, hb, hbs, hX⟩ := hrel
    have HGK : Hid (gk = tn - k) := hgk
    have HB : Hid (b = strOf (symsT ts ns true (sel k))) := hb
    have HX : Hid (PhAt w wr w.heap.size #[.slice ta tn tc, .slice na nn nc, .slice la ln lc, .int .i64 st, .slice pa n pc]) := hX
    obtain ⟨k0, k1, k2, k3, k4⟩ := hX.cells
    clear hgk hb hX HX0
    obtain ⟨j, hj⟩ : ∃ j, j = k + 1 := ⟨_, rfl⟩
    rw [← hj]
    by_cases hlt : j < tn
    · obtain ⟨tb, tf, rfl, hc⟩ : ∃ tb tf, ta = some ⟨tb, tf, none⟩ ∧ ∀ i, i < ts.length → w.cell? ⟨tb, tf + i * 2, none⟩ = some (.string (ts.getD i (ByteArray.empty, 0)).1) ∧ w.cell? ⟨tb, tf + i * 2 + 1, none⟩ = some (.int .i64 (ts.getD i (ByteArray.empty, 0)).2) := by
        rcases HT.out with h | h
        · have := HLT.out; rw [h] at this; simp at this; omega
        · exact h
      have d0 := HX.out.grown.cell (hc j (by rw [HLT.out]; exact hlt)).2 (by simp)
      obtain ⟨z, hz⟩ : ∃ z, z = (ts.getD j (ByteArray.empty, 0)).2 := ⟨_, rfl⟩
      rw [← hz] at d0
      have hse := HSEL.out j (by omega) hlt
      have hse2 : sel j = if lev < 0 ∨ z = lev then sel k ++ [(j : Int)] else sel k := by rw [hse, hz, show j - 1 = k by omega]; rfl
      have HC := HS.out j hlt
      have hsl := HL.out j hlt
      obtain ⟨y, hy⟩ : ∃ y, y = strOf (symT ts ns j) := ⟨_, rfl⟩
      have hys : y.size ≤ 1000 := by rw [hy, strOf_size]; exact hsl
      have HY : Hid (y = strOf (symT ts ns j)) := hy
      rw [← hy] at HC
      have HC2 : Hid (∀ Y, w.grownBy Y none → Calls Try.prog 32 #[.agg #[.slice (some ⟨tb, tf, none⟩) tn tc, .slice na nn nc, .slice la ln lc, .int .i64 st, .slice pa n pc], .int .i64 j] Y fun e w' => e = .returned (.string y) ∧ Y.grownBy w' none) := HC
      have hj0 : (0 : Int) ≤ (j : Int) := by omega
      have hj1 : (j : Int) < (tn : Int) := by omega
      have HJ : Hid (j = k + 1) := hj
      by_cases hq : lev < 0 ∨ z = lev
      · have HN : Hid (sel j = sel k ++ [(j : Int)]) := by rw [hse2, if_pos hq]; exact rfl
        have HFIN : Hid (b ++ ⟨#[32]⟩ ++ y = strOf (symsT ts ns true (sel j))) := by
          show _ = _
          rw [HN.out, symsT_append, HB.out, HY.out, show (⟨#[32]⟩ : ByteArray) = strOf [32] from rfl, strOf_append, strOf_append]
          simp [symsT, sp]
        clear hc hz hse hse2 hy hj HC hsl
        by_cases hq1 : lev < 0
        · have d1 : decide (lev < 0) = true := decide_eq_true hq1
          clear hq
          go_wp2_with fail
          refine Calls.mono (HC2.out _ HX.out.grown) ?_
          rintro e w1 ⟨rfl, hg1⟩
          have HX1 : Hid (PhAt w w1 w.heap.size #[.slice (some ⟨tb, tf, none⟩) tn tc, .slice na nn nc, .slice la ln lc, .int .i64 st, .slice pa n pc]) := HX.out.kept hg1
          clear hg1
          go_wp2_with fail
          go_roundg (tn - (k + 1))
          case measure => have := HGK.out; omega
          case rel => exact ⟨k + 1, _, by have := HJ.out; omega, rfl, by rw [HJ.out]; go_num, rfl, by rw [← HJ.out]; exact HFIN.out, by have e : (⟨#[32]⟩ : ByteArray).size = 1 := rfl; simp; omega, HX1.out⟩
        · have d1 : decide (lev < 0) = false := decide_eq_false hq1
          have hzl : z = lev := hq.resolve_left hq1
          subst hzl
          clear hq
          go_wp2_with fail
          refine Calls.mono (HC2.out _ HX.out.grown) ?_
          rintro e w1 ⟨rfl, hg1⟩
          have HX1 : Hid (PhAt w w1 w.heap.size #[.slice (some ⟨tb, tf, none⟩) tn tc, .slice na nn nc, .slice la ln lc, .int .i64 st, .slice pa n pc]) := HX.out.kept hg1
          clear hg1
          go_wp2_with fail
          go_roundg (tn - (k + 1))
          case measure => have := HGK.out; omega
          case rel => exact ⟨k + 1, _, by have := HJ.out; omega, rfl, by rw [HJ.out]; go_num, rfl, by rw [← HJ.out]; exact HFIN.out, by have e : (⟨#[32]⟩ : ByteArray).size = 1 := rfl; simp; omega, HX1.out⟩
      · have hq1 : ¬ lev < 0 := fun h => hq (.inl h)
        have d1 : decide (lev < 0) = false := decide_eq_false hq1
        have d2 : (z == lev) = false := by simp; exact fun h => hq (.inr h)
        have HN : Hid (sel j = sel k) := by rw [hse2, if_neg hq]; exact rfl
        clear hc hz hse hse2 hy hj HC hsl hq
        go_wp2_with fail
        go_roundg (tn - (k + 1))
        case measure => have := HGK.out; omega
        case rel => exact ⟨k + 1, b, by have := HJ.out; omega, rfl, by rw [HJ.out]; go_num, rfl, by rw [← HJ.out, HN.out]; exact HB.out, by omega, HX.out⟩
    · have hkk : tn - 1 = k := by omega
      have HKK : Hid (tn - 1 = k) := hkk
      clear hj hkk
      go_wp2_with fail
      go_ret
      refine ⟨?_, HX.out.grown⟩
      rw [HKK.out, ← HB.out]
      rfl

/-- A production's text with a dot somewhere: the first i places of it. -/
def dotT (ts : List (ByteArray × Int)) (ns : List ByteArray) (l : Int) (r : List Int) (dot : Int) : Nat → List UInt8
  | 0 => symT ts ns l.toNat ++ [32, 45, 62]
  | i + 1 => dotT ts ns l r dot i ++ (if (i : Int) = dot then [32, 46] else []) ++ (if i < r.length then [32] ++ symT ts ns (r.getD i 0).toNat else [])

theorem dotT_len {ts : List (ByteArray × Int)} {ns : List ByteArray} {l : Int} {r : List Int} {dot : Int} (h : ∀ k : Nat, k < ts.length + ns.length → (symT ts ns k).length ≤ 1000) (hL : 0 ≤ l ∧ l < (ts.length : Int) + ns.length) (hR : ∀ i, i < r.length → 0 ≤ r.getD i 0 ∧ r.getD i 0 < (ts.length : Int) + ns.length) : ∀ i, (dotT ts ns l r dot i).length ≤ 1003 + i * 1003
  | 0 => by have := h l.toNat (by omega); simp [dotT]; omega
  | i + 1 => by
    have h1 := dotT_len (dot := dot) h hL hR i
    have h2 : (if (i : Int) = dot then ([32, 46] : List UInt8) else []).length ≤ 2 := by split <;> simp
    have h3 : (if i < r.length then [32] ++ symT ts ns (r.getD i 0).toNat else []).length ≤ 1001 := by
      split
      · rename_i hi
        have := hR i hi
        have := h (r.getD i 0).toNat (by omega)
        simp only [List.length_append, List.length_singleton]
        omega
      · simp
    simp only [dotT, List.length_append]
    omega

set_option maxRecDepth 100000 in
set_option maxHeartbeats 2000000 in
theorem rdotted_any (ta na la pa : Option Addr) (tn nn ln n tc nc lc pc : Nat) (st : Int) (ts : List (ByteArray × Int)) (ns : List ByteArray) (w : World) (hT : TermsAt w ta ts) (hN : StrsAt w na ns) (htn : ts.length = tn) (hnn : ns.length = nn) (hn : nn ≤ 1000000) (hl : ∀ k, k < tn + nn → (symT ts ns k).length ≤ 1000)
    (l V : Int) (ra : Option Addr) (rc m : Nat) (r : List Int) (hm : r.length = m) (hmm : m ≤ 10000000) (hI : IntsAt w ra r) (hL : 0 ≤ l ∧ l < (tn : Int) + nn) (hR : ∀ i, i < m → 0 ≤ r.getD i 0 ∧ r.getD i 0 < (tn : Int) + nn) (dot : Int) :
    Calls Try.prog 38 #[.agg #[.slice ta tn tc, .slice na nn nc, .slice la ln lc, .int .i64 st, .slice pa n pc], .agg #[.int .i64 l, .slice ra m rc, .int .i64 V], .int .i64 dot] w fun e w' => e = .returned (.string (strOf (dotT ts ns l r dot (m + 1)))) ∧ w.grownBy w' none := by
  obtain ⟨X0, hX0⟩ : ∃ X0, X0 = (w.alloc (.cells #[.slice ta tn tc, .slice na nn nc, .slice la ln lc, .int .i64 st, .slice pa n pc] 27)).alloc (.cells #[.int .i64 l, .slice ra m rc, .int .i64 V] 47) := ⟨_, rfl⟩
  have hb1 : X0.heap[w.heap.size]? = some (.cells #[.slice ta tn tc, .slice na nn nc, .slice la ln lc, .int .i64 st, .slice pa n pc] 27 (0, 0)) := by rw [hX0]; exact ((World.grownBy_alloc (w.alloc _) _ none).block _ (by simp) (by simp)).trans (heap_alloc_last w _)
  have hb2 : X0.heap[w.heap.size + 1]? = some (.cells #[.int .i64 l, .slice ra m rc, .int .i64 V] 47 (0, 0)) := by
    have := heap_alloc_last (w.alloc (.cells #[.slice ta tn tc, .slice na nn nc, .slice la ln lc, .int .i64 st, .slice pa n pc] 27)) (.cells #[.int .i64 l, .slice ra m rc, .int .i64 V] 47)
    rw [World.size_alloc] at this
    rw [hX0]
    exact this
  have HW0 : Hid (w.grownBy X0 none) := by rw [hX0]; exact grown_trans (World.grownBy_alloc _ _ none) (World.grownBy_alloc _ _ none)
  have HX0 : Hid (X0 = (w.alloc (.cells #[.slice ta tn tc, .slice na nn nc, .slice la ln lc, .int .i64 st, .slice pa n pc] 27)).alloc (.cells #[.int .i64 l, .slice ra m rc, .int .i64 V] 47)) := hX0
  have HKP : Hid (∀ Y, X0.grownBy Y none → Y.cell? ⟨w.heap.size, 0, none⟩ = some (.slice ta tn tc) ∧ Y.cell? ⟨w.heap.size, 1, none⟩ = some (.slice na nn nc) ∧ Y.cell? ⟨w.heap.size, 2, none⟩ = some (.slice la ln lc) ∧ Y.cell? ⟨w.heap.size, 3, none⟩ = some (.int .i64 st) ∧ Y.cell? ⟨w.heap.size, 4, none⟩ = some (.slice pa n pc) ∧ Y.cell? ⟨w.heap.size + 1, 1, none⟩ = some (.slice ra m rc)) := fun Y hY => by
    have k1 := (hY.block _ (Array.getElem?_eq_some_iff.1 hb1).1 (by simp)).trans hb1
    have k2 := (hY.block _ (Array.getElem?_eq_some_iff.1 hb2).1 (by simp)).trans hb2
    refine ⟨?_, ?_, ?_, ?_, ?_, ?_⟩ <;> first | (rw [cell_of_row _ _ _ _ _ _ k1]; rfl) | (rw [cell_of_row _ _ _ _ _ _ k2]; rfl)
  have HS : Hid (∀ k, k < tn + nn → ∀ Y, X0.grownBy Y none → Calls Try.prog 32 #[.agg #[.slice ta tn tc, .slice na nn nc, .slice la ln lc, .int .i64 st, .slice pa n pc], .int .i64 k] Y fun e w' => e = .returned (.string (strOf (symT ts ns k))) ∧ Y.grownBy w' none) := fun k hk Y hY => rsymbol_any ta na la pa tn nn ln n tc nc lc pc st ts ns Y (hT.kept (grown_trans HW0.out hY)) (hN.kept (grown_trans HW0.out hY)) htn hnn k hk (by omega) (hl k hk)
  have HLEN : Hid (∀ i, (dotT ts ns l r dot i).length ≤ 1003 + i * 1003) := dotT_len (by rw [htn, hnn]; exact hl) (by rw [htn, hnn]; exact hL) (by rw [hm, htn, hnn]; exact hR)
  have HI : Hid (IntsAt X0 ra r) := hI.kept HW0.out
  have HM : Hid (r.length = m) := hm
  have HR : Hid (∀ i, i < m → 0 ≤ r.getD i 0 ∧ r.getD i 0 < (tn : Int) + nn) := hR
  have HL : Hid (∀ k, k < tn + nn → (symT ts ns k).length ≤ 1000) := hl
  obtain ⟨z, rfl⟩ : ∃ z : Nat, l = (z : Int) := ⟨l.toNat, by omega⟩
  have HZ : Hid (z < tn + nn) := by show _ < _; omega
  clear hT hN htn hnn hl hI hm hR hL hb1 hb2 hX0
  go_enter Try.func38, Try.ntmps38
  go_wp2_with fail
  rw [← HX0.out]
  refine Calls.mono (HS.out z HZ.out _ (grown_refl _ _)) ?_
  rintro e w1 ⟨rfl, hg1⟩
  have hys : (strOf (symT ts ns z)).size ≤ 1000 := by rw [strOf_size]; exact HL.out z HZ.out
  obtain ⟨v0, hcv, hB0, hg2⟩ := conv_bytes w1 (symT ts ns z ++ [32, 45, 62]) (by have := HL.out z HZ.out; simp; omega)
  have hcv2 := hcv w1 rfl
  rw [← strOf_append, show strOf [32, 45, 62] = ({ data := #[32, 45, 62] } : ByteArray) from rfl] at hcv2
  have HB0 : Hid (BRowAt (Lib.bytesWorld w1 5 (strOf (symT ts ns z) ++ { data := #[32, 45, 62] })) X0.heap.size v0 (dotT ts ns (z : Int) r dot 0)) := by
    show BRowAt _ _ _ _
    have e : dotT ts ns (z : Int) r dot 0 = symT ts ns z ++ [32, 45, 62] := by simp [dotT]
    rw [e, show ({ data := #[32, 45, 62] } : ByteArray) = strOf [32, 45, 62] from rfl, strOf_append]
    exact hB0.lower hg1.size
  have HG0 : Hid (X0.grownBy (Lib.bytesWorld w1 5 (strOf (symT ts ns z) ++ { data := #[32, 45, 62] })) none) := by
    show World.grownBy _ _ _
    rw [show ({ data := #[32, 45, 62] } : ByteArray) = strOf [32, 45, 62] from rfl, strOf_append]
    exact grown_trans hg1 hg2
  generalize Lib.bytesWorld w1 5 (strOf (symT ts ns z) ++ { data := #[32, 45, 62] }) = W1 at *
  clear hcv hB0 hg2 hg1
  go_wp2_with fail
  go_loopg [7, 8] (m + 2) (fun gk v7 i wr => ∃ (k : Nat), k ≤ m + 1 ∧ gk = m + 2 - k ∧ i = .int .i64 k ∧ BRowAt wr X0.heap.size v7 (dotT ts ns (z : Int) r dot k) ∧ X0.grownBy wr none)
  case atStart => exact ⟨0, by omega, rfl, rfl, HB0.out, HG0.out⟩
  case round =>
    obtain ⟨k, hk, hgk, rfl, hB, hG⟩ := hrel
    have HGK : Hid (gk = m + 2 - k) := hgk
    have HB : Hid (BRowAt wr X0.heap.size u7 (dotT ts ns (z : Int) r dot k)) := hB
    have HG : Hid (X0.grownBy wr none) := hG
    obtain ⟨c0, c1, c2, c3, c4, c5⟩ := HKP.out wr hG
    clear hgk hB hG HB0 HG0 hcv2
    by_cases hlt : k ≤ m
    · have hle := hlt
      have hki : (k : Int) ≤ (m : Int) := by omega
      by_cases hd : (k : Int) = dot
      · have d1 : ((k : Int) == dot) = true := by simp [hd]
        have HDE : Hid ((k : Int) = dot) := hd
        have HLA : Hid ((dotT ts ns (z : Int) r dot k).length + [32, 46].length ≤ 140737488355328) := by show _ ≤ _; have h1 := HLEN.out k; simp only [List.length_cons, List.length_nil]; omega
        clear hd
        by_cases hkm : k < m
        · have hkq : (k : Int) < (m : Int) := by omega
          go_wp2_with (at_builtin; refine wpList_append_B rfl (.tmp 25) (.const (.string ⟨#[32, 46]⟩)) rfl X0.heap.size u7 (dotT ts ns (z : Int) r dot k) [32, 46] ⟨#[32, 46]⟩ rfl rfl rfl HB.out HLA.out HG.out.size ?_; intro v2 w2 hB2 hg2; have HB2 : Hid (BRowAt w2 X0.heap.size v2 (dotT ts ns (z : Int) r dot k ++ [32, 46])) := hB2; have HG2 : Hid (X0.grownBy w2 none) := HB.out.grown HG.out (Nat.le_refl _) hg2; obtain ⟨c0, c1, c2, c3, c4, c5⟩ := HKP.out w2 HG2.out; clear hB2 hg2)
          have HDE2 : Hid ((if (k : Int) = dot then ([32, 46] : List UInt8) else []) = [32, 46]) := if_pos HDE.out
          obtain ⟨sb, so, rfl, hc⟩ : ∃ sb so, ra = some ⟨sb, so, none⟩ ∧ ∀ i, i < r.length → X0.cell? ⟨sb, so + i, none⟩ = some (.int .i64 (r.getD i 0)) := by
            rcases HI.out with h | h
            · have h9 := HM.out; rw [h] at h9; simp at h9; omega
            · exact h
          have x0 := hc k (by rw [HM.out]; exact hkm)
          have hok := HR.out k hkm
          obtain ⟨y, hy⟩ : ∃ y : Nat, r.getD k 0 = (y : Int) := ⟨(r.getD k 0).toNat, by omega⟩
          rw [hy] at x0 hok
          have hyn : y < tn + nn := by omega
          have HYE : Hid (r.getD k 0 = (y : Int)) := hy
          obtain ⟨sy, hsy⟩ : ∃ sy, sy = strOf (symT ts ns y) := ⟨_, rfl⟩
          have hss : sy.size ≤ 1000 := by rw [hsy, strOf_size]; exact HL.out y hyn
          have hadd : ∀ u, (Op.stringOp .add { data := #[32] } sy).run Try.prog u = .ok (.string ({ data := #[32] } ++ sy)) u := fun u => run_string_add_sum u _ _ (by have e : (⟨#[32]⟩ : ByteArray).size = 1 := rfl; omega)
          have hnb : ¬ 9223372036854775807 < 1 + sy.size := by omega
          have HSY : Hid (⟨#[32]⟩ ++ sy = strOf ([32] ++ symT ts ns y)) := by show _ = _; rw [hsy, ← strOf_append]; rfl
          have HCY : Hid (∀ Y, X0.grownBy Y none → Calls Try.prog 32 #[.agg #[.slice ta tn tc, .slice na nn nc, .slice la ln lc, .int .i64 st, .slice pa n pc], .int .i64 y] Y fun e w' => e = .returned (.string sy) ∧ Y.grownBy w' none) := fun Y hY => by rw [hsy]; exact HS.out y hyn Y hY
          have HKS : Hid (∀ Y, X0.grownBy Y none → Y.cell? ⟨w.heap.size, 0, none⟩ = some (.slice ta tn tc) ∧ Y.cell? ⟨w.heap.size, 1, none⟩ = some (.slice na nn nc) ∧ Y.cell? ⟨w.heap.size, 2, none⟩ = some (.slice la ln lc) ∧ Y.cell? ⟨w.heap.size, 3, none⟩ = some (.int .i64 st) ∧ Y.cell? ⟨w.heap.size, 4, none⟩ = some (.slice pa n pc) ∧ Y.cell? ⟨w.heap.size + 1, 1, none⟩ = some (.slice (some ⟨sb, so, none⟩) m rc) ∧ Y.cell? ⟨sb, so + k, none⟩ = some (.int .i64 y)) := fun Y hY => by
            obtain ⟨q0, q1, q2, q3, q4, q5⟩ := HKP.out Y hY
            exact ⟨q0, q1, q2, q3, q4, q5, hY.cell x0 (by simp)⟩
          have HGc : Hid (X0.grownBy w2.drew none) := grown_trans HG2.out (grown_drewN _ 1)
          have HBc : Hid (BRowAt w2.drew X0.heap.size v2 (dotT ts ns (z : Int) r dot k ++ [32, 46])) := HB2.out.kept (grown_drewN _ 1)
          have HLB : Hid ((dotT ts ns (z : Int) r dot k ++ [32, 46]).length + ([32] ++ symT ts ns y).length ≤ 140737488355328) := by
            show _ ≤ _
            have h1 := HLEN.out k
            have h2 := HL.out y hyn
            simp only [List.length_append, List.length_cons, List.length_nil] at h1 h2 ⊢
            omega
          have HNX : Hid (dotT ts ns (z : Int) r dot (k + 1) = dotT ts ns (z : Int) r dot k ++ [32, 46] ++ ([32] ++ symT ts ns y)) := by
            show _ = _
            have e9 := HM.out
            simp only [dotT, HDE2.out, e9, if_pos hkm, HYE.out, Int.toNat_natCast]
            try rw [List.append_nil]
          have hk0 : (0 : Int) ≤ (k : Int) := by omega
          have hk1 : (k : Int) < (m : Int) := by omega
          clear hc x0 hok hy hsy hyn
          go_region_held3 (fun w' => w'.cell? ⟨w.heap.size, 0, none⟩ = some (.slice ta tn tc) ∧ w'.cell? ⟨w.heap.size, 1, none⟩ = some (.slice na nn nc) ∧ w'.cell? ⟨w.heap.size, 2, none⟩ = some (.slice la ln lc) ∧ w'.cell? ⟨w.heap.size, 3, none⟩ = some (.int .i64 st) ∧ w'.cell? ⟨w.heap.size, 4, none⟩ = some (.slice pa n pc) ∧ w'.cell? ⟨w.heap.size + 1, 1, none⟩ = some (.slice (some ⟨sb, so, none⟩) m rc) ∧ w'.cell? ⟨sb, so + k, none⟩ = some (.int .i64 y)) (first | exact HKS.out _ HGc.out | go_keep)
            ((first
              | (go_at_call 32; refine Calls.mono (HCY.out _ HGc.out) ?_; rintro e w5 ⟨rfl, hg5⟩; have HBc : Hid (BRowAt w5 X0.heap.size v2 (dotT ts ns (z : Int) r dot k ++ [32, 46])) := HBc.out.kept hg5; have HGc : Hid (X0.grownBy w5 none) := grown_trans HGc.out hg5)
              | (refine step_append_B rfl (.tmp 32) (.tmp 40) rfl X0.heap.size v2 (dotT ts ns (z : Int) r dot k ++ [32, 46]) ([32] ++ symT ts ns y) (⟨#[32]⟩ ++ sy) HSY.out (by simp [Act.eval]) (by simp [Act.eval]) HBc.out HLB.out HGc.out.size ?_; intro v6 w6 hB6 hg6; have HG6 : Hid (X0.grownBy w6 none) := HBc.out.grown HGc.out (Nat.le_refl _) hg6; have HB6 : Hid (BRowAt w6 X0.heap.size v6 (dotT ts ns (z : Int) r dot k ++ [32, 46] ++ ([32] ++ symT ts ns y))) := hB6; have HGc : Hid (X0.grownBy w6 none) := HG6.out)))
          go_wp2_with fail
          go_roundg (m + 2 - (k + 1))
          case measure => have := HGK.out; omega
          case rel => exact ⟨k + 1, by omega, rfl, by go_num, by rw [HNX.out]; exact HB6.out, HG6.out⟩
        · have hkq : ¬ ((k : Int) < (m : Int)) := by omega
          have HNX : Hid (dotT ts ns (z : Int) r dot (k + 1) = dotT ts ns (z : Int) r dot k ++ [32, 46]) := by
            show _ = _
            have e9 := HM.out
            simp only [dotT, e9, if_pos HDE.out, if_neg hkm, List.append_nil]
          go_wp2_with (at_builtin; refine wpList_append_B rfl (.tmp 25) (.const (.string ⟨#[32, 46]⟩)) rfl X0.heap.size u7 (dotT ts ns (z : Int) r dot k) [32, 46] ⟨#[32, 46]⟩ rfl rfl rfl HB.out HLA.out HG.out.size ?_; intro v2 w2 hB2 hg2; have HB2 : Hid (BRowAt w2 X0.heap.size v2 (dotT ts ns (z : Int) r dot k ++ [32, 46])) := hB2; have HG2 : Hid (X0.grownBy w2 none) := HB.out.grown HG.out (Nat.le_refl _) hg2; obtain ⟨c0, c1, c2, c3, c4, c5⟩ := HKP.out w2 HG2.out; clear hB2 hg2)
          go_roundg (m + 2 - (k + 1))
          case measure => have := HGK.out; omega
          case rel => exact ⟨k + 1, by omega, rfl, by go_num, by rw [HNX.out]; exact HB2.out, HG2.out⟩
      · have d1 : ((k : Int) == dot) = false := by simp [hd]
        have HDE : Hid (¬ (k : Int) = dot) := hd
        clear hd
        by_cases hkm : k < m
        · have hkq : (k : Int) < (m : Int) := by omega
          go_wp2_with fail
          have HDE2 : Hid ((if (k : Int) = dot then ([32, 46] : List UInt8) else []) = []) := if_neg HDE.out
          obtain ⟨sb, so, rfl, hc⟩ : ∃ sb so, ra = some ⟨sb, so, none⟩ ∧ ∀ i, i < r.length → X0.cell? ⟨sb, so + i, none⟩ = some (.int .i64 (r.getD i 0)) := by
            rcases HI.out with h | h
            · have h9 := HM.out; rw [h] at h9; simp at h9; omega
            · exact h
          have x0 := hc k (by rw [HM.out]; exact hkm)
          have hok := HR.out k hkm
          obtain ⟨y, hy⟩ : ∃ y : Nat, r.getD k 0 = (y : Int) := ⟨(r.getD k 0).toNat, by omega⟩
          rw [hy] at x0 hok
          have hyn : y < tn + nn := by omega
          have HYE : Hid (r.getD k 0 = (y : Int)) := hy
          obtain ⟨sy, hsy⟩ : ∃ sy, sy = strOf (symT ts ns y) := ⟨_, rfl⟩
          have hss : sy.size ≤ 1000 := by rw [hsy, strOf_size]; exact HL.out y hyn
          have hadd : ∀ u, (Op.stringOp .add { data := #[32] } sy).run Try.prog u = .ok (.string ({ data := #[32] } ++ sy)) u := fun u => run_string_add_sum u _ _ (by have e : (⟨#[32]⟩ : ByteArray).size = 1 := rfl; omega)
          have hnb : ¬ 9223372036854775807 < 1 + sy.size := by omega
          have HSY : Hid (⟨#[32]⟩ ++ sy = strOf ([32] ++ symT ts ns y)) := by show _ = _; rw [hsy, ← strOf_append]; rfl
          have HCY : Hid (∀ Y, X0.grownBy Y none → Calls Try.prog 32 #[.agg #[.slice ta tn tc, .slice na nn nc, .slice la ln lc, .int .i64 st, .slice pa n pc], .int .i64 y] Y fun e w' => e = .returned (.string sy) ∧ Y.grownBy w' none) := fun Y hY => by rw [hsy]; exact HS.out y hyn Y hY
          have HKS : Hid (∀ Y, X0.grownBy Y none → Y.cell? ⟨w.heap.size, 0, none⟩ = some (.slice ta tn tc) ∧ Y.cell? ⟨w.heap.size, 1, none⟩ = some (.slice na nn nc) ∧ Y.cell? ⟨w.heap.size, 2, none⟩ = some (.slice la ln lc) ∧ Y.cell? ⟨w.heap.size, 3, none⟩ = some (.int .i64 st) ∧ Y.cell? ⟨w.heap.size, 4, none⟩ = some (.slice pa n pc) ∧ Y.cell? ⟨w.heap.size + 1, 1, none⟩ = some (.slice (some ⟨sb, so, none⟩) m rc) ∧ Y.cell? ⟨sb, so + k, none⟩ = some (.int .i64 y)) := fun Y hY => by
            obtain ⟨q0, q1, q2, q3, q4, q5⟩ := HKP.out Y hY
            exact ⟨q0, q1, q2, q3, q4, q5, hY.cell x0 (by simp)⟩
          have HGc : Hid (X0.grownBy wr.drew none) := grown_trans HG.out (grown_drewN _ 1)
          have HBc : Hid (BRowAt wr.drew X0.heap.size u7 (dotT ts ns (z : Int) r dot k)) := HB.out.kept (grown_drewN _ 1)
          have HLB : Hid ((dotT ts ns (z : Int) r dot k).length + ([32] ++ symT ts ns y).length ≤ 140737488355328) := by
            show _ ≤ _
            have h1 := HLEN.out k
            have h2 := HL.out y hyn
            simp only [List.length_append, List.length_cons, List.length_nil] at h1 h2 ⊢
            omega
          have HNX : Hid (dotT ts ns (z : Int) r dot (k + 1) = dotT ts ns (z : Int) r dot k ++ ([32] ++ symT ts ns y)) := by
            show _ = _
            have e9 := HM.out
            simp only [dotT, HDE2.out, e9, if_pos hkm, HYE.out, Int.toNat_natCast]
            try rw [List.append_nil]
          have hk0 : (0 : Int) ≤ (k : Int) := by omega
          have hk1 : (k : Int) < (m : Int) := by omega
          clear hc x0 hok hy hsy hyn
          go_region_held3 (fun w' => w'.cell? ⟨w.heap.size, 0, none⟩ = some (.slice ta tn tc) ∧ w'.cell? ⟨w.heap.size, 1, none⟩ = some (.slice na nn nc) ∧ w'.cell? ⟨w.heap.size, 2, none⟩ = some (.slice la ln lc) ∧ w'.cell? ⟨w.heap.size, 3, none⟩ = some (.int .i64 st) ∧ w'.cell? ⟨w.heap.size, 4, none⟩ = some (.slice pa n pc) ∧ w'.cell? ⟨w.heap.size + 1, 1, none⟩ = some (.slice (some ⟨sb, so, none⟩) m rc) ∧ w'.cell? ⟨sb, so + k, none⟩ = some (.int .i64 y)) (first | exact HKS.out _ HGc.out | go_keep)
            ((first
              | (go_at_call 32; refine Calls.mono (HCY.out _ HGc.out) ?_; rintro e w5 ⟨rfl, hg5⟩; have HBc : Hid (BRowAt w5 X0.heap.size u7 (dotT ts ns (z : Int) r dot k)) := HBc.out.kept hg5; have HGc : Hid (X0.grownBy w5 none) := grown_trans HGc.out hg5)
              | (refine step_append_B rfl (.tmp 32) (.tmp 40) rfl X0.heap.size u7 (dotT ts ns (z : Int) r dot k) ([32] ++ symT ts ns y) (⟨#[32]⟩ ++ sy) HSY.out (by simp [Act.eval]) (by simp [Act.eval]) HBc.out HLB.out HGc.out.size ?_; intro v6 w6 hB6 hg6; have HG6 : Hid (X0.grownBy w6 none) := HBc.out.grown HGc.out (Nat.le_refl _) hg6; have HB6 : Hid (BRowAt w6 X0.heap.size v6 (dotT ts ns (z : Int) r dot k ++ ([32] ++ symT ts ns y))) := hB6; have HGc : Hid (X0.grownBy w6 none) := HG6.out)))
          go_wp2_with fail
          go_roundg (m + 2 - (k + 1))
          case measure => have := HGK.out; omega
          case rel => exact ⟨k + 1, by omega, rfl, by go_num, by rw [HNX.out]; exact HB6.out, HG6.out⟩
        · have hkq : ¬ ((k : Int) < (m : Int)) := by omega
          have HNX : Hid (dotT ts ns (z : Int) r dot (k + 1) = dotT ts ns (z : Int) r dot k) := by
            show _ = _
            have e9 := HM.out
            simp only [dotT, e9, if_neg HDE.out, if_neg hkm, List.append_nil]
          go_wp2_with fail
          go_roundg (m + 2 - (k + 1))
          case measure => have := HGK.out; omega
          case rel => exact ⟨k + 1, by omega, rfl, by go_num, by rw [HNX.out]; exact HB.out, HG.out⟩
    · obtain rfl : k = m + 1 := by omega
      have hcs := conv_string HB.out
      have hki : ¬ (((m + 1 : Nat) : Int) ≤ (m : Int)) := by omega
      go_wp2_with fail
      go_ret
      exact ⟨rfl, grown_trans HW0.out HG.out⟩

end Go.Proofs.Ytkhmhcinepfemaa

/-
  Copy of any grammar: the same in new memory.
-/
namespace Go.Proofs.Ytkhmhcinepfemaa
open Go.RowKit Go.Maps Go.Shelf

theorem tms_cells_len : ∀ ts : List (ByteArray × Int), (tmsL ts).length = ts.length * 2
  | [] => rfl
  | t :: ts => by
    have := tms_cells_len ts
    simp only [tmsL, List.flatMap_cons, List.length_append, List.length_cons] at this ⊢
    simp [tmL] at this ⊢
    omega

theorem terms_cells {w : World} {ta : Option Addr} {ts : List (ByteArray × Int)} (h : TermsAt w ta ts) : ∀ x, ta = some x → ∀ j u, (tmsL ts)[j]? = some u → w.cell? (x.add j) = some u := by
  intro x hx j u hu
  rcases h with h | ⟨b, off, e, hc⟩
  · rw [h] at hu; simp [tmsL] at hu
  · rw [hx] at e
    simp only [Option.some.injEq] at e
    subst e
    rw [Addr.add_mid]
    have hj : j < ts.length * 2 := by
      have := (List.getElem?_eq_some_iff.1 hu).1
      have e := tms_cells_len ts
      omega
    obtain ⟨h1, h2⟩ := hc (j / 2) (by omega)
    obtain ⟨k1, k2⟩ := tmsL_at ts (j / 2) (by omega)
    have hr : j % 2 = 0 ∨ j % 2 = 1 := by omega
    rcases hr with hr | hr
    · have e : j = j / 2 * 2 := by omega
      rw [e, k1] at hu
      rw [e, h1]
      exact hu
    · have e : j = j / 2 * 2 + 1 := by omega
      rw [e, k2] at hu
      rw [e, ← Nat.add_assoc, h2]
      exact hu
theorem strs_cells {w : World} {na : Option Addr} {ns : List ByteArray} (h : StrsAt w na ns) : ∀ x, na = some x → ∀ j u, (ns.map Value.string)[j]? = some u → w.cell? (x.add j) = some u := by
  intro x hx j u hu
  rcases h with h | ⟨b, off, e, hc⟩
  · rw [h] at hu; simp at hu
  · rw [hx] at e
    simp only [Option.some.injEq] at e
    subst e
    rw [Addr.add_mid]
    have hj : j < ns.length := by have := (List.getElem?_eq_some_iff.1 hu).1; simpa using this
    rw [hc j hj]
    simp [hj] at hu
    simp [List.getD, hj, hu]
theorem tms_one (ts : List (ByteArray × Int)) : ∀ u ∈ tmsL ts, u.oneCell' = true := by
  intro u hu
  simp only [tmsL, List.mem_flatMap] at hu
  obtain ⟨t, _, hu⟩ := hu
  simp [tmL] at hu
  rcases hu with rfl | rfl <;> rfl
theorem strs_one (ns : List ByteArray) : ∀ u ∈ ns.map Value.string, u.oneCell' = true := by
  intro u hu
  obtain ⟨t, _, rfl⟩ := List.mem_map.1 hu
  rfl

/-- A grammar out of its lists. -/
def grOf (ts : List (ByteArray × Int)) (ns : List ByteArray) (lv : List Int) (st : Int) (n : Nat) (L : Nat → Int) (R : Nat → List Int) (V : Nat → Int) : GR := ⟨ts, ns, lv, st, (List.range n).map fun i => ⟨L i, R i, V i⟩⟩
theorem grOf_len (ts : List (ByteArray × Int)) (ns : List ByteArray) (lv : List Int) (st : Int) (n : Nat) (L : Nat → Int) (R : Nat → List Int) (V : Nat → Int) : (grOf ts ns lv st n L R V).prods.length = n := by simp [grOf]
theorem grOf_at (ts : List (ByteArray × Int)) (ns : List ByteArray) (lv : List Int) (st : Int) (n : Nat) (L : Nat → Int) (R : Nat → List Int) (V : Nat → Int) {i : Nat} (hi : i < n) : (grOf ts ns lv st n L R V).prods.getD i ⟨0, [], 0⟩ = ⟨L i, R i, V i⟩ := by simp [grOf, List.getD, hi]

/-- Copied productions, in their own memory. -/
structure CNew (W : World) (B : Nat) (v : Value) (n : Nat) (L : Nat → Int) (R : Nat → List Int) (V : Nat → Int) (rg : Nat → Value) : Prop where
  row : W.ownsRow B 47 3 v n (prodRow n L rg V)
  rights : ∀ i, i < n → W.ownsRow B 3 1 (rg i) (R i).length ((R i).map (Value.int .i64))
theorem keepC {W W' : World} {B : Nat} {v : Value} {n : Nat} {L : Nat → Int} {R : Nat → List Int} {V : Nat → Int} {rg : Nat → Value} (h : CNew W B v n L R V rg) (hg : W.grownBy W' none) : Hid (CNew W' B v n L R V rg) :=
  ⟨h.row.kept hg (by cases hv : v.ownBlock <;> simp), fun i hi => (h.rights i hi).kept hg (by cases hv : (rg i).ownBlock <;> simp)⟩

theorem copy_fin {W W' : World} {B k n : Nat} {ts : List (ByteArray × Int)} {ns : List ByteArray} {lv : List Int} {st : Int} {L : Nat → Int} {R : Nat → List Int} {V : Nat → Int} {vt vn vl vp : Value} {rg : Nat → Value} (hB : B ≤ k)
    (hT : W.ownsRow (k + 1) 60 2 vt ts.length (tmsL ts)) (hN : W.ownsRow (k + 1) 9 1 vn ns.length (ns.map Value.string)) (hL : W.ownsRow (k + 1) 3 1 vl lv.length (lv.map (Value.int .i64))) (hP : CNew W (k + 1) vp n L R V rg) (hst : W.grownBy W' (some k)) :
    GramNew W' B (grOf ts ns lv st n L R V) vt vn vl vp := by
  refine ⟨owns_off hT hst hB, owns_off hN hst hB, owns_off hL hst hB, rg, ?_, fun i hi => ?_⟩
  · rw [grOf_len]
    have e := prodRow_ext (n := n) (L := L) (L' := fun i => ((grOf ts ns lv st n L R V).prods.getD i ⟨0, [], 0⟩).left) (r := rg) (r' := rg) (V := V) (V' := fun i => ((grOf ts ns lv st n L R V).prods.getD i ⟨0, [], 0⟩).level) (fun i hi => by rw [grOf_at _ _ _ _ _ _ _ _ hi]) (fun _ _ => rfl) (fun i hi => by rw [grOf_at _ _ _ _ _ _ _ _ hi])
    rw [← e]
    exact owns_off hP.row hst hB
  · rw [grOf_len] at hi
    rw [grOf_at _ _ _ _ _ _ _ _ hi]
    exact owns_off (hP.rights i hi) hst hB

end Go.Proofs.Ytkhmhcinepfemaa

/-
  Term, Non and Start of the document's builder.
-/
namespace Go.Proofs.Ytkhmhcinepfemaa
open Go.RowKit

attribute [local go_sem] Oper.semAt_some

theorem numFrom_at (s : ByteArray) : ∀ (l : List ByteArray) (k m : Nat), k < l.length → (∀ j, j < k → l.getD j ⟨#[]⟩ ≠ s) → l.getD k ⟨#[]⟩ = s → numFrom l s m = k + m
  | [], k, m, hk, _, _ => by simp at hk
  | x :: r, 0, m, _, _, he => by
    have : x = s := by simpa using he
    unfold numFrom
    rw [if_pos (by rw [this])]
    simp
  | x :: r, k + 1, m, hk, h, he => by
    have h0 : x ≠ s := by have := h 0 (by omega); simpa using this
    unfold numFrom
    rw [if_neg (fun e => h0 (bytes_ext e)), numFrom_at s r k (m + 1) (by simpa using hk) (fun j hj => by have := h (j + 1) (by omega); simpa using this) (by simpa using he)]
    omega
theorem numOf_at {l : List ByteArray} {s : ByteArray} {k : Nat} (hk : k < l.length) (h : ∀ j, j < k → l.getD j ⟨#[]⟩ ≠ s) (he : l.getD k ⟨#[]⟩ = s) : numOf l s = k + 1 := by
  unfold numOf; rw [numFrom_at s l k 1 hk h he]
theorem numOf_none {l : List ByteArray} {s : ByteArray} (h : ∀ j, j < l.length → l.getD j ⟨#[]⟩ ≠ s) : numOf l s = 0 := numOf_zero fun hm => by
  obtain ⟨j, hj, e⟩ := List.getElem_of_mem hm
  exact h j hj (by simp [List.getD, hj, e])

theorem numbered_z0 {l : List ByteArray} {s : ByteArray} (h : numOf l s = 0) : numbered false l s = (l.length + 1, 0) := by simp [numbered, h]
theorem numbered_z1 {l : List ByteArray} {s : ByteArray} (h : numOf l s = 0) : numbered true l s = (0, 11) := by simp [numbered, h]
theorem rts_addT (S : BS) (s : ByteArray) : rts (S.addT s) = (rts S) ++ [(s, S.lev (S.terms.length + 1))] := by
  unfold rts BS.addT
  simp only [List.length_append, List.length_cons, List.length_nil, Nat.zero_add, List.range_succ, List.map_append]
  congr 1
  · apply List.map_congr_left
    intro j hj
    have hj' : j < S.terms.length := by simpa using hj
    simp [List.getD, List.getElem?_append_left hj']
  · simp [List.getD]

def BS.startA (S : BS) (h : Int) : Int × BS := if S.isN h then (0, { S with start := h }) else (1, S)
end Go.Proofs.Ytkhmhcinepfemaa

/-
  Grade of the document's builder.
-/
namespace Go.Proofs.Ytkhmhcinepfemaa
open Go.RowKit

attribute [local go_sem] Oper.semAt_some

theorem gradeGo_some {l : Int} : ∀ (hs : List Int) (ps : List PR), (∀ h ∈ hs, 0 ≤ h ∧ h < ps.length) → ∃ ps', gradeGo l ps hs = some ps' ∧ ps'.length = ps.length
  | [], ps, _ => ⟨ps, rfl, rfl⟩
  | a :: r, ps, h => by
    have hl : (setLev ps a.toNat l).length = ps.length := by simp [setLev]
    obtain ⟨ps', h1, h2⟩ := gradeGo_some (l := l) r (setLev ps a.toNat l) (fun x hx => by rw [hl]; exact h x (by simp [hx]))
    refine ⟨ps', ?_, by rw [h2, hl]⟩
    unfold gradeGo
    rw [if_pos (h a (by simp))]
    exact h1
theorem gradeGo_none {l : Int} : ∀ (hs : List Int) (ps : List PR), (∃ h ∈ hs, ¬ (0 ≤ h ∧ h < ps.length)) → gradeGo l ps hs = none
  | [], ps, h => by simp at h
  | a :: r, ps, h => by
    unfold gradeGo
    by_cases ha : 0 ≤ a ∧ a < ps.length
    · rw [if_pos ha]
      refine gradeGo_none r _ ?_
      obtain ⟨x, hx, hn⟩ := h
      rcases List.mem_cons.1 hx with e | hx
      · rw [e] at hn; exact absurd ha hn
      · exact ⟨x, hx, by rw [show (setLev ps a.toNat l).length = ps.length by simp [setLev]]; exact hn⟩
    · rw [if_neg ha]

theorem setLev_length (ps : List PR) (i : Nat) (l : Int) : (setLev ps i l).length = ps.length := by simp [setLev]
theorem gradeGo_len {l : Int} {hs : List Int} {ps ps' : List PR} (h : gradeGo l ps hs = some ps') : ps'.length = ps.length := (gradeGo_graded hs ps ps' (Graded.refl l ps) h).1

end Go.Proofs.Ytkhmhcinepfemaa

/-
  Level of the document's builder.
-/
namespace Go.Proofs.Ytkhmhcinepfemaa
open Go.RowKit

attribute [local go_sem] Oper.semAt_some

theorem levGo_good {S : BS} {K : Int} (hK : K ≠ 0) : ∀ (l : List Int) (lev lev' : Nat → Int), levGo S K lev l = some lev' → l.Nodup ∧ ∀ h ∈ l, S.isT h = true ∧ lev h.toNat = 0
  | [], _, _, _ => ⟨List.nodup_nil, by simp⟩
  | a :: r, lev, lev', h => by
    unfold levGo at h
    split at h
    · next hc =>
      obtain ⟨h1, h2⟩ := levGo_good hK r _ _ h
      have key : ∀ x ∈ r, x.toNat ≠ a.toNat := fun x hx e => by
        have := (h2 x hx).2
        rw [e] at this
        simp [updL] at this
        exact hK this
      refine ⟨List.nodup_cons.2 ⟨fun ha => key a ha rfl, h1⟩, fun x hx => ?_⟩
      rcases List.mem_cons.1 hx with rfl | hx
      · exact hc
      · have h3 := h2 x hx
        refine ⟨h3.1, ?_⟩
        have h4 := h3.2
        simp [updL, key x hx] at h4
        exact h4
    · cases h
theorem levGo_full {S : BS} {K : Int} : ∀ (l : List Int) (lev : Nat → Int), l.Nodup → (∀ h ∈ l, S.isT h = true ∧ lev h.toNat = 0) → levGo S K lev l = some fun j : Nat => if (j : Int) ∈ l then K else lev j
  | [], lev, _, _ => by simp [levGo]
  | a :: r, lev, hn, h => by
    rw [List.nodup_cons] at hn
    obtain ⟨h1, h2⟩ := h a (by simp)
    have ha := isT_iff.1 h1
    unfold levGo
    rw [if_pos ⟨h1, h2⟩, levGo_full r _ hn.2 (fun x hx => by
      obtain ⟨q1, q2⟩ := h x (by simp [hx])
      have hx' := isT_iff.1 q1
      refine ⟨q1, ?_⟩
      have hne : x.toNat ≠ a.toNat := fun e => hn.1 (by have : x = a := by omega
                                                        rw [← this]; exact hx)
      simp [updL, hne, q2])]
    congr 1
    funext j
    by_cases hj : (j : Int) ∈ r
    · simp [hj]
    · by_cases ej : (j : Int) = a
      · have : j = a.toNat := by omega
        rw [if_neg hj, if_pos (by simp [ej])]
        simp [updL, this]
      · have : j ≠ a.toNat := by omega
        rw [if_neg hj, if_neg (by simp [ej, hj])]
        simp [updL, this]

/-- A list's places: what Level asks of each. -/
def levAsk (S : BS) (hs : List Int) (j : Nat) : Prop := S.isT (hs.getD j 0) = true ∧ S.lev (hs.getD j 0).toNat = 0 ∧ ∀ m, m < j → hs.getD m 0 ≠ hs.getD j 0
theorem getD_mem_int {l : List Int} {k : Nat} (h : k < l.length) : l.getD k 0 ∈ l := by
  have : l.getD k 0 = l[k] := by simp [List.getD, h]
  rw [this]; exact List.getElem_mem _
theorem nodup_int (l : List Int) : l.Nodup ↔ ∀ i k, k < i → i < l.length → l.getD k 0 ≠ l.getD i 0 := by
  rw [List.nodup_iff_pairwise_ne, List.pairwise_iff_getElem]
  constructor
  · intro h i k hk hi
    have := h k i (by omega) hi hk
    simpa [List.getD, hi, show k < l.length by omega] using this
  · intro h i j hi hj hij
    have := h j i hij hj
    simpa [List.getD, hi, hj] using this
theorem levGo_ask {S : BS} {K : Int} (hK : K ≠ 0) (hs : List Int) : (∀ j, j < hs.length → levAsk S hs j) ↔ ∃ lev', levGo S K S.lev hs = some lev' := by
  constructor
  · intro h
    exact ⟨_, levGo_full hs S.lev ((nodup_int hs).2 fun i k hk hi => (h i hi).2.2 k hk) (fun x hx => by
      obtain ⟨j, hj, e⟩ := List.getElem_of_mem hx
      have := h j hj
      rw [← e, show hs[j] = hs.getD j 0 by simp [List.getD, hj]]
      exact ⟨this.1, this.2.1⟩)⟩
  · rintro ⟨lev', h⟩ j hj
    obtain ⟨h1, h2⟩ := levGo_good hK hs _ _ h
    exact ⟨(h2 _ (getD_mem_int hj)).1, (h2 _ (getD_mem_int hj)).2, fun m hm => (nodup_int hs).1 h1 j m hm hj⟩

/-- The levels, told of the first k. -/
def levTold (S : BS) (K : Int) (hs : List Int) (k : Nat) : Nat → Int := fun j => if (j : Int) ∈ hs.take k then K else S.lev j
def BS.tolds (S : BS) (side K : Int) (hs : List Int) (k : Nat) : BS := { S with lev := levTold S K hs k, sides := S.sides ++ [side] }
theorem tolds_zero (S : BS) (side K : Int) (hs : List Int) : S.tolds side K hs 0 = { S with sides := S.sides ++ [side] } := by
  unfold BS.tolds
  have : levTold S K hs 0 = S.lev := by funext j; simp [levTold]
  rw [this]
theorem levTold_succ {S : BS} {K : Int} {hs : List Int} {k : Nat} (hk : k < hs.length) (hp : 0 ≤ hs.getD k 0) : levTold S K hs (k + 1) = updL (levTold S K hs k) (hs.getD k 0).toNat K := by
  funext j
  unfold levTold updL
  rw [take_succ_at hk]
  generalize hs.getD k 0 = h at *
  generalize hs.take k = l at *
  by_cases e : j = h.toNat
  · rw [if_pos e, if_pos (List.mem_append.2 (.inr (List.mem_singleton.2 (by omega))))]
  · have he : ¬ (j : Int) = h := fun x => e (by omega)
    rw [if_neg e]
    show _ = (if (j : Int) ∈ l then K else S.lev j)
    by_cases hm : (j : Int) ∈ l
    · rw [if_pos (List.mem_append.2 (.inl hm)), if_pos hm]
    · rw [if_neg hm, if_neg (fun x => by
        rcases List.mem_append.1 x with x | x
        · exact hm x
        · exact he (List.mem_singleton.1 x))]
theorem level_done {S : BS} {side : Int} {hs : List Int} (hs1 : 1 ≤ side ∧ side ≤ 3) (hne : hs ≠ []) (h : ∀ j, j < hs.length → levAsk S hs j) : S.level side hs = ((S.sides.length : Int) + 1, 0, S.tolds side ((S.sides.length : Int) + 1) hs hs.length) := by
  unfold BS.level
  rw [if_pos ⟨hs1, hne⟩, levGo_full hs S.lev ((nodup_int hs).2 fun i k hk hi => (h i hi).2.2 k hk) (fun x hx => by
      obtain ⟨j, hj, e⟩ := List.getElem_of_mem hx
      have := h j hj
      rw [← e, show hs[j] = hs.getD j 0 by simp [List.getD, hj]]
      exact ⟨this.1, this.2.1⟩)]
  simp only
  unfold BS.addL BS.tolds levTold
  rw [List.take_length]
theorem level_not {S : BS} {side : Int} {hs : List Int} (h : ¬ ∀ j, j < hs.length → levAsk S hs j) : S.level side hs = (0, 1, S) := by
  unfold BS.level
  split
  · have : levGo S ((S.sides.length : Int) + 1) S.lev hs = none := by
      cases e : levGo S ((S.sides.length : Int) + 1) S.lev hs with
      | none => rfl
      | some lev' => exact absurd ((levGo_ask (by omega) hs).2 ⟨lev', e⟩) h
    rw [this]
  · rfl

theorem tmsL_set : ∀ (ts : List (ByteArray × Int)) (i : Nat) (K : Int), (tmsL ts).set (i * 2 + 1) (.int .i64 K) = tmsL (ts.set i ((ts.getD i (⟨#[]⟩, 0)).1, K))
  | [], i, K => by simp [tmsL]
  | t :: ts, 0, K => by simp [tmsL, tmL]
  | t :: ts, i + 1, K => by
    have ih := tmsL_set ts i K
    have e : tmsL (t :: ts) = tmL t.1 t.2 ++ tmsL ts := by simp [tmsL]
    have e2 : tmsL ((t :: ts).set (i + 1) (((t :: ts).getD (i + 1) (⟨#[]⟩, 0)).1, K)) = tmL t.1 t.2 ++ tmsL (ts.set i ((ts.getD i (⟨#[]⟩, 0)).1, K)) := by simp [tmsL]
    rw [e, e2, ← ih, List.set_append_right _ _ (by simp [tmL]; omega), show (i + 1) * 2 + 1 - (tmL t.1 t.2).length = i * 2 + 1 by simp [tmL]; omega]
theorem rts_upd (S : BS) (i : Nat) (K : Int) (hi : i < S.terms.length) : (rts S).set i (((rts S).getD i (⟨#[]⟩, 0)).1, K) = rts { S with lev := updL S.lev (i + 1) K } := by
  apply List.ext_getElem
  · simp [rts]
  · intro j h1 h2
    rw [List.getElem_set]
    by_cases e : i = j
    · subst e
      rw [if_pos rfl, rts_at S hi]
      simp [rts, updL]
    · rw [if_neg e]
      simp [rts, updL, show ¬ j = i from fun x => e x.symm]

end Go.Proofs.Ytkhmhcinepfemaa

/-
  Rule of the document's builder.
-/
namespace Go.Proofs.Ytkhmhcinepfemaa
open Go.RowKit Go.Maps Go.Shelf

attribute [local go_sem] Oper.semAt_some

theorem good_iff {S : BS} {l : List Int} : S.good l = true ↔ ∀ j, j < l.length → (S.isT (l.getD j 0) || S.isN (l.getD j 0)) = true := by
  unfold BS.good
  rw [List.all_eq_true]
  constructor
  · intro h j hj
    exact h _ (getD_mem_int hj)
  · intro h x hx
    obtain ⟨j, hj, e⟩ := List.getElem_of_mem hx
    have := h j hj
    rwa [show l.getD j 0 = x by simp [List.getD, hj, e]] at this

end Go.Proofs.Ytkhmhcinepfemaa

/-
  Rule of the document's builder, walked.
-/
namespace Go.Proofs.Ytkhmhcinepfemaa
open Go.RowKit Go.Maps Go.Shelf

attribute [local go_sem] Oper.semAt_some

end Go.Proofs.Ytkhmhcinepfemaa
