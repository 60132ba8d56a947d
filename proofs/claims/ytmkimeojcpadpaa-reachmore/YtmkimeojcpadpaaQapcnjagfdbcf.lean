import Derived.Test.YtmkimeojcpadpaaQagamnncjfmap
import Derived.Test.YtmkimeojcpadpaaQkkplmjdgooej
import Derived.Test.YtmkimeojcpadpaaQolookbfchanb

/-
  The document's Same of two grammars, walked.
-/
namespace Go.Proofs.Ytmkimeojcpadpaa
open Go.RowKit Go.Maps Go.Shelf

attribute [local go_sem] Oper.semAt_some

section
variable (ta na la pa ta' na' la' pa' : Option Addr) (tn nn ln pn tc nc lc pc tn' nn' ln' pn' tc' nc' lc' pc' : Nat) (st st' : Int)

set_option maxRecDepth 100000 in
set_option maxHeartbeats 1000000 in
theorem rsame_short (w : World) (rL : Bool) (hno : ¬ (rL = true ∧ st = st' ∧ tn = tn' ∧ nn = nn' ∧ pn = pn'))
    (hL : ∀ W, w.grownBy W none → Calls Try.prog 31 #[.slice la ln lc, .slice la' ln' lc'] W fun e w' => e = .returned (.bool rL) ∧ W.grownBy w' none) :
    Calls Try.prog 14 #[.agg #[.slice ta tn tc, .slice na nn nc, .slice la ln lc, .int .i64 st, .slice pa pn pc], .agg #[.slice ta' tn' tc', .slice na' nn' nc', .slice la' ln' lc', .int .i64 st', .slice pa' pn' pc']] w fun e w' => e = .returned (.bool false) ∧ w.grownBy w' none := by
  have HL : Hid (∀ W, w.grownBy W none → Calls Try.prog 31 #[.slice la ln lc, .slice la' ln' lc'] W fun e w' => e = .returned (.bool rL) ∧ W.grownBy w' none) := hL
  have HX : Hid (Ph2 w _ #[.slice ta tn tc, .slice na nn nc, .slice la ln lc, .int .i64 st, .slice pa pn pc] #[.slice ta' tn' tc', .slice na' nn' nc', .slice la' ln' lc', .int .i64 st', .slice pa' pn' pc']) := Ph2.mk' w _ _
  have HNO : Hid (¬ (rL = true ∧ st = st' ∧ tn = tn' ∧ nn = nn' ∧ pn = pn')) := hno
  clear hL hno
  go_enter Try.func14, Try.ntmps14
  go_wp2_with fail
  refine (HL.out _ HX.out.grown).mono ?_
  rintro e w1 ⟨rfl, hg1⟩
  have HX1 : Hid (Ph2 w w1 #[.slice ta tn tc, .slice na nn nc, .slice la ln lc, .int .i64 st, .slice pa pn pc] #[.slice ta' tn' tc', .slice na' nn' nc', .slice la' ln' lc', .int .i64 st', .slice pa' pn' pc']) := HX.out.kept hg1
  clear hg1 HX HL
  obtain ⟨⟨m0, m1, m2, m3, m4⟩, n0, n1, n2, n3, n4⟩ := HX1.out.cells
  cases rL with
  | false =>
    go_wp2_with fail
    go_ret
    exact ⟨rfl, HX1.out.grown⟩
  | true =>
    by_cases h1 : st = st'
    · have d1 : (st != st') = false := by simp [h1]
      have H1 : Hid (st = st') := h1
      clear h1
      by_cases h2 : tn = tn'
      · have d2 : ((tn : Int) != (tn' : Int)) = false := by simp [h2]
        have H2 : Hid (tn = tn') := h2
        clear h2
        by_cases h3 : nn = nn'
        · have d3 : ((nn : Int) != (nn' : Int)) = false := by simp [h3]
          have H3 : Hid (nn = nn') := h3
          clear h3
          by_cases h4 : pn = pn'
          · exact absurd ⟨rfl, H1.out, H2.out, H3.out, h4⟩ HNO.out
          · have d4 : ((pn : Int) != (pn' : Int)) = true := by simp; omega
            clear h4
            go_wp2_with fail
            go_ret
            exact ⟨rfl, HX1.out.grown⟩
        · have d3 : ((nn : Int) != (nn' : Int)) = true := by simp; omega
          clear h3
          go_wp2_with fail
          go_ret
          exact ⟨rfl, HX1.out.grown⟩
      · have d2 : ((tn : Int) != (tn' : Int)) = true := by simp; omega
        clear h2
        go_wp2_with fail
        go_ret
        exact ⟨rfl, HX1.out.grown⟩
    · have d1 : (st != st') = true := by simp [h1]
      clear h1
      go_wp2_with fail
      go_ret
      exact ⟨rfl, HX1.out.grown⟩
end

theorem prod2_cells {w W : World} {l1 l2 v1 v2 : Int} {s1 s2 : Value} (hg : ((w.alloc (.cells #[.int .i64 l1, s1, .int .i64 v1] 45)).alloc (.cells #[.int .i64 l2, s2, .int .i64 v2] 45)).grownBy W none) :
    W.cell? ⟨w.heap.size, 0, none⟩ = some (.int .i64 l1) ∧ W.cell? ⟨w.heap.size, 2, none⟩ = some (.int .i64 v1) ∧ W.cell? ⟨w.heap.size + 1, 0, none⟩ = some (.int .i64 l2) ∧ W.cell? ⟨w.heap.size + 1, 2, none⟩ = some (.int .i64 v2) := by
  have h1 := heap_alloc_last w (.cells #[.int .i64 l1, s1, .int .i64 v1] 45)
  have h2 := heap_alloc_last (w.alloc (.cells #[.int .i64 l1, s1, .int .i64 v1] 45)) (.cells #[.int .i64 l2, s2, .int .i64 v2] 45)
  rw [World.size_alloc] at h2
  have h1' := ((World.grownBy_alloc (w.alloc (.cells #[.int .i64 l1, s1, .int .i64 v1] 45)) (.cells #[.int .i64 l2, s2, .int .i64 v2] 45) none).block _ (Array.getElem?_eq_some_iff.1 h1).1 (by simp)).trans h1
  have g1 := (hg.block _ (Array.getElem?_eq_some_iff.1 h1').1 (by simp)).trans h1'
  have g2 := (hg.block _ (Array.getElem?_eq_some_iff.1 h2).1 (by simp)).trans h2
  refine ⟨?_, ?_, ?_, ?_⟩
  · rw [cell_of_row _ _ _ _ _ _ g1]; rfl
  · rw [cell_of_row _ _ _ _ _ _ g1]; rfl
  · rw [cell_of_row _ _ _ _ _ _ g2]; rfl
  · rw [cell_of_row _ _ _ _ _ _ g2]; rfl

section
variable (ta na la pa ta' na' la' pa' : Option Addr) (tn nn ln pn tc nc lc pc ln' tc' nc' lc' pc' : Nat) (st : Int)

set_option maxRecDepth 100000 in
set_option maxHeartbeats 2000000 in
theorem rsame_long (w : World) (ts ts' : List (ByteArray × Int)) (ns ns' : List ByteArray) (L1 L2 V1 V2 : Nat → Int) (R1 R2 : Nat → List Int) (ra1 ra2 : Nat → Option Addr) (rc1 rc2 : Nat → Nat)
    (hlen : ts.length = tn ∧ ts'.length = tn ∧ ns.length = nn ∧ ns'.length = nn) (hT1 : TermsAt w ta ts) (hT2 : TermsAt w ta' ts') (hN1 : StrsAt w na ns) (hN2 : StrsAt w na' ns') (hP1 : ProdsAt w pa pn L1 R1 ra1 rc1 V1) (hP2 : ProdsAt w pa' pn L2 R2 ra2 rc2 V2)
    (hbt : tn ≤ 17592186044416) (hbn : nn ≤ 17592186044416) (hbp : pn ≤ 17592186044416) (r : Bool) (hr : r = true ↔ (ts = ts' ∧ ns = ns' ∧ prodsSame pn pn L1 R1 V1 L2 R2 V2))
    (hL : ∀ W, w.grownBy W none → Calls Try.prog 31 #[.slice la ln lc, .slice la' ln' lc'] W fun e w' => e = .returned (.bool true) ∧ W.grownBy w' none) :
    Calls Try.prog 14 #[.agg #[.slice ta tn tc, .slice na nn nc, .slice la ln lc, .int .i64 st, .slice pa pn pc], .agg #[.slice ta' tn tc', .slice na' nn nc', .slice la' ln' lc', .int .i64 st, .slice pa' pn pc']] w fun e w' => e = .returned (.bool r) ∧ w.grownBy w' none := by
  have HL : Hid (∀ W, w.grownBy W none → Calls Try.prog 31 #[.slice la ln lc, .slice la' ln' lc'] W fun e w' => e = .returned (.bool true) ∧ W.grownBy w' none) := hL
  have HX0 : Hid (Ph2 w _ #[.slice ta tn tc, .slice na nn nc, .slice la ln lc, .int .i64 st, .slice pa pn pc] #[.slice ta' tn tc', .slice na' nn nc', .slice la' ln' lc', .int .i64 st, .slice pa' pn pc']) := Ph2.mk' w _ _
  have HR : Hid (r = true ↔ (ts = ts' ∧ ns = ns' ∧ prodsSame pn pn L1 R1 V1 L2 R2 V2)) := hr
  have HLEN : Hid (ts.length = tn ∧ ts'.length = tn ∧ ns.length = nn ∧ ns'.length = nn) := hlen
  have HT1 : Hid (TermsAt w ta ts) := hT1
  have HT2 : Hid (TermsAt w ta' ts') := hT2
  have HN1 : Hid (StrsAt w na ns) := hN1
  have HN2 : Hid (StrsAt w na' ns') := hN2
  have HP1 : Hid (ProdsAt w pa pn L1 R1 ra1 rc1 V1) := hP1
  have HP2 : Hid (ProdsAt w pa' pn L2 R2 ra2 rc2 V2) := hP2
  clear hL hr hlen hT1 hT2 hN1 hN2 hP1 hP2
  go_enter Try.func14, Try.ntmps14
  go_wp2_with fail
  refine (HL.out _ HX0.out.grown).mono ?_
  rintro e w1 ⟨rfl, hg1⟩
  have HX1 : Hid (Ph2 w w1 #[.slice ta tn tc, .slice na nn nc, .slice la ln lc, .int .i64 st, .slice pa pn pc] #[.slice ta' tn tc', .slice na' nn nc', .slice la' ln' lc', .int .i64 st, .slice pa' pn pc']) := HX0.out.kept hg1
  clear hg1 HX0 HL
  obtain ⟨⟨m0, m1, m2, m3, m4⟩, n0, n1, n2, n3, n4⟩ := HX1.out.cells
  have d1 : (st != st) = false := bne_self_eq_false _
  have d2 : ((tn : Int) != (tn : Int)) = false := bne_self_eq_false _
  have d3 : ((nn : Int) != (nn : Int)) = false := bne_self_eq_false _
  have d4 : ((pn : Int) != (pn : Int)) = false := bne_self_eq_false _
  go_wp2_with fail
  clear m0 m1 m2 m3 m4 n0 n1 n2 n3 n4 d1 d2 d3 d4
  go_loopw [6] (fun i wr => ∃ k : Nat, k ≤ tn ∧ i = .int .i64 k ∧ Ph2 w wr #[.slice ta tn tc, .slice na nn nc, .slice la ln lc, .int .i64 st, .slice pa pn pc] #[.slice ta' tn tc', .slice na' nn nc', .slice la' ln' lc', .int .i64 st, .slice pa' pn pc'] ∧ ∀ j, j < k → ts.getD j (⟨#[]⟩, 0) = ts'.getD j (⟨#[]⟩, 0)) (fun i _ => tn - (intOf i).toNat)
  case atStart => exact ⟨0, Nat.zero_le _, rfl, HX1.out, fun j hj => by omega⟩
  case round =>
    clear HX1
    obtain ⟨k, hk, rfl, hX, hall⟩ := hrel
    have HX : Hid (Ph2 w wr #[.slice ta tn tc, .slice na nn nc, .slice la ln lc, .int .i64 st, .slice pa pn pc] #[.slice ta' tn tc', .slice na' nn nc', .slice la' ln' lc', .int .i64 st, .slice pa' pn pc']) := hX
    have HA : Hid (∀ j, j < k → ts.getD j (⟨#[]⟩, 0) = ts'.getD j (⟨#[]⟩, 0)) := hall
    clear hX hall
    by_cases hlt : k < tn
    · clear HP1 HP2 HN1 HN2
      obtain ⟨b1, o1, rfl, hc1⟩ : ∃ b off, ta = some ⟨b, off, none⟩ ∧ ∀ i, i < ts.length → wr.cell? ⟨b, off + i * 2, none⟩ = some (.string (ts.getD i (⟨#[]⟩, 0)).1) ∧ wr.cell? ⟨b, off + i * 2 + 1, none⟩ = some (.int .i64 (ts.getD i (⟨#[]⟩, 0)).2) := by
        rcases HT1.out.kept HX.out.grown with h | h
        · have := HLEN.out; subst h; simp at this; omega
        · exact h
      obtain ⟨b2, o2, rfl, hc2⟩ : ∃ b off, ta' = some ⟨b, off, none⟩ ∧ ∀ i, i < ts'.length → wr.cell? ⟨b, off + i * 2, none⟩ = some (.string (ts'.getD i (⟨#[]⟩, 0)).1) ∧ wr.cell? ⟨b, off + i * 2 + 1, none⟩ = some (.int .i64 (ts'.getD i (⟨#[]⟩, 0)).2) := by
        rcases HT2.out.kept HX.out.grown with h | h
        · have := HLEN.out; subst h; simp at this; omega
        · exact h
      obtain ⟨e1, e3⟩ := hc1 k (by rw [HLEN.out.1]; exact hlt)
      obtain ⟨e2, e4⟩ := hc2 k (by rw [HLEN.out.2.1]; exact hlt)
      obtain ⟨⟨m0, _⟩, n0, _⟩ := HX.out.cells
      have HF : Hid (ts.getD k (⟨#[]⟩, 0) ≠ ts'.getD k (⟨#[]⟩, 0) → r = false) := fun h => Bool.eq_false_iff.2 fun hh => h (by rw [(HR.out.1 hh).1])
      have HS : Hid (ts.getD k (⟨#[]⟩, 0) = ts'.getD k (⟨#[]⟩, 0) → ∀ j, j < k + 1 → ts.getD j (⟨#[]⟩, 0) = ts'.getD j (⟨#[]⟩, 0)) := fun h j hj => by
        by_cases e : j = k
        · rw [e]; exact h
        · exact HA.out j (by omega)
      clear hc1 hc2
      generalize ts.getD k (⟨#[]⟩, 0) = x at *
      generalize ts'.getD k (⟨#[]⟩, 0) = y at *
      obtain ⟨x, u⟩ := x
      obtain ⟨y, v⟩ := y
      have hne := neqTerm x y u v
      by_cases hxy : (x, u) = (y, v)
      · have hd : (x.toList == y.toList && u == v) = true := by simp at hxy; simp [hxy]
        have hne' : ∀ w, (binOp .neq 57 (.agg #[.string x, .int .i64 u]) (.agg #[.string y, .int .i64 v])).run Try.prog w = .ok (.bool false) w := fun w => by rw [hne, hd]; rfl
        have HS' := HS.out hxy
        have HS2 : Hid (∀ j, j < k + 1 → ts.getD j (⟨#[]⟩, 0) = ts'.getD j (⟨#[]⟩, 0)) := HS'
        clear hxy HS' HS HF hd hne
        go_wp2_with fail
        go_quiet (fail)
        go_wp2
        go_roundw
        case rel => exact ⟨k + 1, by omega, by go_num, HX.out.kept (grown_drewN _ _), HS2.out⟩
        case measure => simp [intOf]; omega
      · have hd : (x.toList == y.toList && u == v) = false := by
          rw [Bool.eq_false_iff]
          intro h
          simp only [Bool.and_eq_true, beq_iff_eq, bytes_toList] at h
          exact hxy (by rw [h.1, h.2])
        have hne' : ∀ w, (binOp .neq 57 (.agg #[.string x, .int .i64 u]) (.agg #[.string y, .int .i64 v])).run Try.prog w = .ok (.bool true) w := fun w => by rw [hne, hd]; rfl
        have hrf := HF.out hxy
        clear hxy HS HF hd hne
        go_wp2_with fail
        go_quiet (fail)
        go_wp2
        go_ret
        exact ⟨by rw [hrf]; rfl, grown_trans HX.out.grown (grown_drewN _ _)⟩
    · obtain rfl : tn = k := by omega
      have HTS : Hid (ts = ts') := list_same (⟨#[]⟩, 0) (by rw [HLEN.out.1, HLEN.out.2.1]) fun i hi => HA.out i (by rw [← HLEN.out.1]; exact hi)
      clear HA hlt hk HT1 HT2
      obtain ⟨⟨m0, _⟩, n0, _⟩ := HX.out.cells
      go_wp2_with fail
      clear m0 n0
      go_loopw [7] (fun i wr => ∃ k : Nat, k ≤ nn ∧ i = .int .i64 k ∧ Ph2 w wr #[.slice ta tn tc, .slice na nn nc, .slice la ln lc, .int .i64 st, .slice pa pn pc] #[.slice ta' tn tc', .slice na' nn nc', .slice la' ln' lc', .int .i64 st, .slice pa' pn pc'] ∧ ∀ j, j < k → ns.getD j ⟨#[]⟩ = ns'.getD j ⟨#[]⟩) (fun i _ => nn - (intOf i).toNat)
      case atStart => exact ⟨0, Nat.zero_le _, rfl, HX.out, fun j hj => by omega⟩
      case round =>
        clear HX
        obtain ⟨k, hk, rfl, hX, hall⟩ := hrel
        have HX : Hid (Ph2 w wr #[.slice ta tn tc, .slice na nn nc, .slice la ln lc, .int .i64 st, .slice pa pn pc] #[.slice ta' tn tc', .slice na' nn nc', .slice la' ln' lc', .int .i64 st, .slice pa' pn pc']) := hX
        have HA : Hid (∀ j, j < k → ns.getD j ⟨#[]⟩ = ns'.getD j ⟨#[]⟩) := hall
        clear hX hall
        by_cases hlt : k < nn
        · clear HP1 HP2
          obtain ⟨b1, o1, rfl, hc1⟩ : ∃ b off, na = some ⟨b, off, none⟩ ∧ ∀ i, i < ns.length → wr.cell? ⟨b, off + i, none⟩ = some (.string (ns.getD i ⟨#[]⟩)) := by
            rcases HN1.out.kept HX.out.grown with h | h
            · have := HLEN.out; subst h; simp at this; omega
            · exact h
          obtain ⟨b2, o2, rfl, hc2⟩ : ∃ b off, na' = some ⟨b, off, none⟩ ∧ ∀ i, i < ns'.length → wr.cell? ⟨b, off + i, none⟩ = some (.string (ns'.getD i ⟨#[]⟩)) := by
            rcases HN2.out.kept HX.out.grown with h | h
            · have := HLEN.out; subst h; simp at this; omega
            · exact h
          have e1 := hc1 k (by rw [HLEN.out.2.2.1]; exact hlt)
          have e2 := hc2 k (by rw [HLEN.out.2.2.2]; exact hlt)
          obtain ⟨⟨_, m1, _⟩, _, n1, _⟩ := HX.out.cells
          have HF : Hid (ns.getD k ⟨#[]⟩ ≠ ns'.getD k ⟨#[]⟩ → r = false) := fun h => Bool.eq_false_iff.2 fun hh => h (by rw [(HR.out.1 hh).2.1])
          have HS : Hid (ns.getD k ⟨#[]⟩ = ns'.getD k ⟨#[]⟩ → ∀ j, j < k + 1 → ns.getD j ⟨#[]⟩ = ns'.getD j ⟨#[]⟩) := fun h j hj => by
            by_cases e : j = k
            · rw [e]; exact h
            · exact HA.out j (by omega)
          clear hc1 hc2
          generalize ns.getD k ⟨#[]⟩ = x at *
          generalize ns'.getD k ⟨#[]⟩ = y at *
          by_cases hxy : x = y
          · have hd : (x.toList == y.toList) = true := by simp [hxy]
            have HS' := HS.out hxy
            have HS2 : Hid (∀ j, j < k + 1 → ns.getD j ⟨#[]⟩ = ns'.getD j ⟨#[]⟩) := HS'
            clear hxy HS' HS HF
            go_wp2_with fail
            go_quiet (fail)
            go_wp2
            go_roundw
            case rel => exact ⟨k + 1, by omega, by go_num, HX.out.kept (grown_drewN _ _), HS2.out⟩
            case measure => simp [intOf]; omega
          · have hd : (x.toList == y.toList) = false := beq_eq_false_iff_ne.2 fun h => hxy ((bytes_toList x y).1 h)
            have hrf := HF.out hxy
            clear hxy HS HF
            go_wp2_with fail
            go_quiet (fail)
            go_wp2
            go_ret
            exact ⟨by rw [hrf]; rfl, grown_trans HX.out.grown (grown_drewN _ _)⟩
        · obtain rfl : nn = k := by omega
          have HNS : Hid (ns = ns') := list_same ⟨#[]⟩ (by rw [HLEN.out.2.2.1, HLEN.out.2.2.2]) fun i hi => HA.out i (by rw [← HLEN.out.2.2.1]; exact hi)
          clear HA hlt hk HN1 HN2
          obtain ⟨⟨_, m1, _⟩, _, n1, _⟩ := HX.out.cells
          go_wp2_with fail
          clear m1 n1
          go_loopw [8] (fun i wr => ∃ k : Nat, k ≤ pn ∧ i = .int .i64 k ∧ Ph2 w wr #[.slice ta tn tc, .slice na nn nc, .slice la ln lc, .int .i64 st, .slice pa pn pc] #[.slice ta' tn tc', .slice na' nn nc', .slice la' ln' lc', .int .i64 st, .slice pa' pn pc'] ∧ ∀ j, j < k → L1 j = L2 j ∧ R1 j = R2 j ∧ V1 j = V2 j) (fun i _ => pn - (intOf i).toNat)
          case atStart => exact ⟨0, Nat.zero_le _, rfl, HX.out, fun j hj => by omega⟩
          case round =>
            clear HX
            obtain ⟨k, hk, rfl, hX, hall⟩ := hrel
            have HX : Hid (Ph2 w wr #[.slice ta tn tc, .slice na nn nc, .slice la ln lc, .int .i64 st, .slice pa pn pc] #[.slice ta' tn tc', .slice na' nn nc', .slice la' ln' lc', .int .i64 st, .slice pa' pn pc']) := hX
            have HA : Hid (∀ j, j < k → L1 j = L2 j ∧ R1 j = R2 j ∧ V1 j = V2 j) := hall
            clear hX hall
            by_cases hlt : k < pn
            · obtain ⟨b1, o1, rfl, hc1⟩ : ∃ b off, pa = some ⟨b, off, none⟩ ∧ ∀ k, k < pn → w.cell? ⟨b, off + k * 3, none⟩ = some (.int .i64 (L1 k)) ∧ w.cell? ⟨b, off + k * 3 + 1, none⟩ = some (.slice (ra1 k) (R1 k).length (rc1 k)) ∧ w.cell? ⟨b, off + k * 3 + 2, none⟩ = some (.int .i64 (V1 k)) ∧ IntsAt w (ra1 k) (R1 k) ∧ (ra1 k = none → rc1 k = 0) ∧ (R1 k).length ≤ 17592186044416 := by
                rcases HP1.out with h | h
                · omega
                · exact h
              obtain ⟨b2, o2, rfl, hc2⟩ : ∃ b off, pa' = some ⟨b, off, none⟩ ∧ ∀ k, k < pn → w.cell? ⟨b, off + k * 3, none⟩ = some (.int .i64 (L2 k)) ∧ w.cell? ⟨b, off + k * 3 + 1, none⟩ = some (.slice (ra2 k) (R2 k).length (rc2 k)) ∧ w.cell? ⟨b, off + k * 3 + 2, none⟩ = some (.int .i64 (V2 k)) ∧ IntsAt w (ra2 k) (R2 k) ∧ (ra2 k = none → rc2 k = 0) ∧ (R2 k).length ≤ 17592186044416 := by
                rcases HP2.out with h | h
                · omega
                · exact h
              obtain ⟨p1, p2, p3, p4, _, p6⟩ := hc1 k hlt
              obtain ⟨q1, q2, q3, q4, _, _⟩ := hc2 k hlt
              have p1 := HX.out.grown.cell p1 (by simp)
              have p2 := HX.out.grown.cell p2 (by simp)
              have p3 := HX.out.grown.cell p3 (by simp)
              have q1' := fun o => (World.grownBy_alloc wr o none).cell (HX.out.grown.cell q1 (by simp)) (by simp)
              have q2' := fun o => (World.grownBy_alloc wr o none).cell (HX.out.grown.cell q2 (by simp)) (by simp)
              have q3' := fun o => (World.grownBy_alloc wr o none).cell (HX.out.grown.cell q3 (by simp)) (by simp)
              obtain ⟨⟨_, _, _, _, m4⟩, _, _, _, _, n4⟩ := HX.out.cells
              have n4' := fun o => (World.grownBy_alloc wr o none).cell n4 (by simp)
              obtain ⟨rk, hrk⟩ := boolOf (R1 k = R2 k)
              have HC : Hid (∀ W, w.grownBy W none → Calls Try.prog 31 #[.slice (ra1 k) (R1 k).length (rc1 k), .slice (ra2 k) (R2 k).length (rc2 k)] W fun e w' => e = .returned (.bool rk) ∧ W.grownBy w' none) := fun W hg =>
                (sameInts_any (ra1 k) (ra2 k) (rc1 k) (rc2 k) (R1 k) (R2 k) W (p4.kept hg) (q4.kept hg) p6 rk hrk).mono fun e w' h => ⟨h.1, by obtain ⟨q, hq⟩ := h.2; rw [hq]; exact grown_drewN _ _⟩
              have HS : Hid (rk = true → L1 k = L2 k → V1 k = V2 k → ∀ j, j < k + 1 → L1 j = L2 j ∧ R1 j = R2 j ∧ V1 j = V2 j) := fun h h1 h2 j hj => by
                by_cases e : j = k
                · rw [e]; exact ⟨h1, hrk.1 h, h2⟩
                · exact HA.out j (by omega)
              have HF1 : Hid (rk = false → r = false) := fun h => Bool.eq_false_iff.2 fun hh => by
                have := hrk.2 ((HR.out.1 hh).2.2.2 k hlt).2.1
                rw [h] at this
                cases this
              have HF2 : Hid (L1 k ≠ L2 k → r = false) := fun h => Bool.eq_false_iff.2 fun hh => h ((HR.out.1 hh).2.2.2 k hlt).1
              have HF3 : Hid (V1 k ≠ V2 k → r = false) := fun h => Bool.eq_false_iff.2 fun hh => h ((HR.out.1 hh).2.2.2 k hlt).2.2
              clear hc1 hc2 p4 q4 p6 q1 q2 q3 hrk n4
              generalize (R1 k).length = z1 at *
              generalize (R2 k).length = z2 at *
              generalize L1 k = l1 at *
              generalize L2 k = l2 at *
              generalize V1 k = v1 at *
              generalize V2 k = v2 at *
              generalize ra1 k = x1 at *
              generalize ra2 k = x2 at *
              generalize rc1 k = y1 at *
              generalize rc2 k = y2 at *
              go_wp2_with fail
              refine (HC.out _ (grown_trans (grown_trans HX.out.grown (World.grownBy_alloc _ _ none)) (World.grownBy_alloc _ _ none))).mono ?_
              rintro e w2 ⟨rfl, hg2⟩
              have HX2 : Hid (Ph2 w w2 #[.slice ta tn tc, .slice na nn nc, .slice la ln lc, .int .i64 st, .slice (some ⟨b1, o1, none⟩) pn pc] #[.slice ta' tn tc', .slice na' nn nc', .slice la' ln' lc', .int .i64 st, .slice (some ⟨b2, o2, none⟩) pn pc']) := HX.out.kept (grown_trans (grown_trans (World.grownBy_alloc _ _ none) (World.grownBy_alloc _ _ none)) hg2)
              obtain ⟨u1, u2, u3, u4⟩ := prod2_cells hg2
              clear hg2 HX HC p1 p2 p3 q1' q2' q3' n4' m4
              cases rk with
              | false =>
                have hrf := HF1.out rfl
                clear HS HF1 HF2 HF3
                go_wp2_with fail
                go_ret
                exact ⟨by rw [hrf]; rfl, HX2.out.grown⟩
              | true =>
                by_cases h1 : l1 = l2
                · have d1 : (l1 != l2) = false := by simp [h1]
                  by_cases h2 : v1 = v2
                  · have d2 : (v1 != v2) = false := by simp [h2]
                    have HS2 : Hid (∀ j, j < k + 1 → L1 j = L2 j ∧ R1 j = R2 j ∧ V1 j = V2 j) := HS.out rfl h1 h2
                    clear HS HF1 HF2 HF3 h1 h2
                    go_wp2_with fail
                    go_roundw
                    case rel => exact ⟨k + 1, by omega, by go_num, HX2.out, HS2.out⟩
                    case measure => simp [intOf]; omega
                  · have d2 : (v1 != v2) = true := by simp [h2]
                    have hrf := HF3.out h2
                    clear HS HF1 HF2 HF3 h1 h2
                    go_wp2_with fail
                    go_ret
                    exact ⟨by rw [hrf]; rfl, HX2.out.grown⟩
                · have d1 : (l1 != l2) = true := by simp [h1]
                  have hrf := HF2.out h1
                  clear HS HF1 HF2 HF3 h1
                  go_wp2_with fail
                  go_ret
                  exact ⟨by rw [hrf]; rfl, HX2.out.grown⟩
            · obtain rfl : pn = k := by omega
              have hrt : r = true := HR.out.2 ⟨HTS.out, HNS.out, rfl, HA.out⟩
              obtain ⟨⟨_, _, _, _, m4⟩, _, _, _, _, n4⟩ := HX.out.cells
              go_wp2_with fail
              go_ret
              exact ⟨by rw [hrt]; rfl, HX.out.grown⟩
end

end Go.Proofs.Ytmkimeojcpadpaa

/-
  Same and the document's Same of any two grammars, wherever they lie.
-/
namespace Go.Proofs.Ytmkimeojcpadpaa
open Go.RowKit Go.Maps Go.Shelf

section
variable {w : World} {ta na la pa ta' na' la' pa' : Option Addr} {tc nc lc pc tc' nc' lc' pc' : Nat} {ts ts' : List (ByteArray × Int)} {ns ns' : List ByteArray} {lv lv' : List Int} {n n' : Nat} {L L' : Nat → Int} {R R' : Nat → List Int} {ra ra' : Nat → Option Addr} {rc rc' : Nat → Nat} {V V' : Nat → Int} (st st' : Int)

/-- Are two grammars the same? -/
def sameG (ts ts' : List (ByteArray × Int)) (ns ns' : List ByteArray) (lv lv' : List Int) (st st' : Int) (n n' : Nat) (L L' : Nat → Int) (R R' : Nat → List Int) (V V' : Nat → Int) : Prop := ts = ts' ∧ ns = ns' ∧ lv = lv' ∧ st = st' ∧ prodsSame n n' L R V L' R' V'

theorem rsame_any (h : GAt w ta na la pa tc nc lc pc ts ns lv n L R ra rc V) (h' : GAt w ta' na' la' pa' tc' nc' lc' pc' ts' ns' lv' n' L' R' ra' rc' V') (r : Bool) (hr : r = true ↔ sameG ts ts' ns ns' lv lv' st st' n n' L L' R R' V V') :
    Calls Try.prog 14 #[.agg #[.slice ta ts.length tc, .slice na ns.length nc, .slice la lv.length lc, .int .i64 st, .slice pa n pc], .agg #[.slice ta' ts'.length tc', .slice na' ns'.length nc', .slice la' lv'.length lc', .int .i64 st', .slice pa' n' pc']] w fun e w' => e = .returned (.bool r) ∧ w.grownBy w' none := by
  obtain ⟨rL, hL⟩ := boolOf (lv = lv')
  have kL : ∀ W, w.grownBy W none → Calls Try.prog 31 #[.slice la lv.length lc, .slice la' lv'.length lc'] W fun e w' => e = .returned (.bool rL) ∧ W.grownBy w' none := fun W hg => (sameInts_any la la' lc lc' lv lv' W (h.levels.kept hg) (h'.levels.kept hg) h.llen rL hL).mono fun e w' k => ⟨k.1, by obtain ⟨q, hq⟩ := k.2; rw [hq]; exact grown_drewN _ _⟩
  by_cases hs : rL = true ∧ st = st' ∧ ts.length = ts'.length ∧ ns.length = ns'.length ∧ n = n'
  · obtain ⟨rfl, rfl, h1, h2, rfl⟩ := hs
    have := rsame_long ta na la pa ta' na' la' pa' ts.length ns.length lv.length n tc nc lc pc lv'.length tc' nc' lc' pc' st w ts ts' ns ns' L L' V V' R R' ra ra' rc rc' ⟨rfl, h1.symm, rfl, h2.symm⟩ h.terms h'.terms h.nons h'.nons h.prods h'.prods h.tlen h.nlen h.plen r
      (by rw [hr]; have := hL.1 rfl; simp [sameG, this]) kL
    rwa [← h1, ← h2]
  · have hf : r = false := Bool.eq_false_iff.2 fun hh => hs (by
      obtain ⟨h1, h2, h3, h4, h5, _⟩ := hr.1 hh
      exact ⟨hL.2 h3, h4, by rw [h1], by rw [h2], h5⟩)
    rw [hf]
    exact rsame_short ta na la pa ta' na' la' pa' ts.length ns.length lv.length n tc nc lc pc ts'.length ns'.length lv'.length n' tc' nc' lc' pc' st st' w rL hs kL

end

end Go.Proofs.Ytmkimeojcpadpaa

/-
  Copy of any grammar: the same in new memory.
-/
namespace Go.Proofs.Ytmkimeojcpadpaa
open Go.RowKit Go.Maps Go.Shelf

theorem copiedTerm_any (a : Option Addr) (n cap : Nat) (xs : List Value) (w : World) (hl : xs.length = n * 2) (hnil : a = none → n = 0 ∧ cap = 0) (hc : ∀ x, a = some x → ∀ j u, xs[j]? = some u → w.cell? (x.add j) = some u) (h1 : ∀ u ∈ xs, u.oneCell' = true) (hb : n * 24 ≤ 140737488355328) :
    Calls Try.prog 77 #[.slice a n cap] w fun e w' => ∃ a' c', e = .returned (.slice a' n c') ∧ w'.ownsRow w.heap.size 57 2 (.slice a' n c') n xs ∧ w.grownBy w' none := by
  obtain ⟨i0, hi, hz0, hz1, hz2⟩ := info_parts infoTerm
  cases a with
  | none =>
    obtain ⟨rfl, rfl⟩ := hnil rfl
    have hx : xs = [] := List.eq_nil_of_length_eq_zero (by simpa using hl)
    subst hx
    clear hnil hc hl h1 hb
    go_enter Try.func77, Try.ntmps77
    go_wp2_with (at_builtin; refine wpList_append_own_none rfl _ _ 22 rfl w.heap.size 57 i0 2 Try.underlying22 hi (.slice none 0 0) 0 [] rfl (World.ownsRow_nil _ _ _ _) rfl ?_)
    go_ret
    exact ⟨none, 0, rfl, World.ownsRow_nil _ _ _ _, grown_refl _ _⟩
  | some x =>
    have HN : Hid (∀ j u, xs[j]? = some u → w.cell? (x.add j) = some u) := hc x rfl
    have H1 : Hid (∀ u ∈ xs, u.oneCell' = true) := h1
    clear hc hnil h1
    go_enter Try.func77, Try.ntmps77
    go_wp2_with (at_builtin; refine wpList_append_own _ rfl _ _ 22 rfl w.heap.size 57 i0 (.agg #[.string ByteArray.empty, .int .i64 0]) 2 24 Try.underlying22 hi hz0 hz1 hz2 rfl (by decide) (.slice none 0 0) 0 [] rfl (World.ownsRow_nil _ _ _ _) x n cap xs rfl hl HN.out H1.out (by unfold maxLen; omega) (by omega) (Nat.le_refl _) ?_; intro v' w1 hown hg _)
    go_ret
    have hown' : w1.ownsRow w.heap.size 57 2 v' n xs := by simpa using hown
    obtain ⟨a', c', hv⟩ := owns_slice hown'
    have hg' : w.grownBy w1 none := hg
    rw [hv] at hown'
    exact ⟨a', c', by rw [← hv]; rfl, hown', hg'⟩

theorem copiedStr_any (a : Option Addr) (n cap : Nat) (xs : List Value) (w : World) (hl : xs.length = n * 1) (hnil : a = none → n = 0 ∧ cap = 0) (hc : ∀ x, a = some x → ∀ j u, xs[j]? = some u → w.cell? (x.add j) = some u) (h1 : ∀ u ∈ xs, u.oneCell' = true) (hb : n * 16 ≤ 140737488355328) :
    Calls Try.prog 78 #[.slice a n cap] w fun e w' => ∃ a' c', e = .returned (.slice a' n c') ∧ w'.ownsRow w.heap.size 9 1 (.slice a' n c') n xs ∧ w.grownBy w' none := by
  obtain ⟨i0, hi, hz0, hz1, hz2⟩ := info_parts infoStr
  cases a with
  | none =>
    obtain ⟨rfl, rfl⟩ := hnil rfl
    have hx : xs = [] := List.eq_nil_of_length_eq_zero (by simpa using hl)
    subst hx
    clear hnil hc hl h1 hb
    go_enter Try.func78, Try.ntmps78
    go_wp2_with (at_builtin; refine wpList_append_own_none rfl _ _ 23 rfl w.heap.size 9 i0 1 Try.underlying23 hi (.slice none 0 0) 0 [] rfl (World.ownsRow_nil _ _ _ _) rfl ?_)
    go_ret
    exact ⟨none, 0, rfl, World.ownsRow_nil _ _ _ _, grown_refl _ _⟩
  | some x =>
    have HN : Hid (∀ j u, xs[j]? = some u → w.cell? (x.add j) = some u) := hc x rfl
    have H1 : Hid (∀ u ∈ xs, u.oneCell' = true) := h1
    clear hc hnil h1
    go_enter Try.func78, Try.ntmps78
    go_wp2_with (at_builtin; refine wpList_append_own _ rfl _ _ 23 rfl w.heap.size 9 i0 (.string ByteArray.empty) 1 16 Try.underlying23 hi hz0 hz1 hz2 rfl (by decide) (.slice none 0 0) 0 [] rfl (World.ownsRow_nil _ _ _ _) x n cap xs rfl hl HN.out H1.out (by unfold maxLen; omega) (by omega) (Nat.le_refl _) ?_; intro v' w1 hown hg _)
    go_ret
    have hown' : w1.ownsRow w.heap.size 9 1 v' n xs := by simpa using hown
    obtain ⟨a', c', hv⟩ := owns_slice hown'
    have hg' : w.grownBy w1 none := hg
    rw [hv] at hown'
    exact ⟨a', c', by rw [← hv]; rfl, hown', hg'⟩

set_option maxRecDepth 100000 in
theorem copiedProds_none (a : Option Addr) (cap : Nat) (w : World) (hnil : a = none → cap = 0) :
    Calls Try.prog 80 #[.slice a 0 cap] w fun e w' => ∃ a' c', e = .returned (.slice a' 0 c') ∧ w'.ownsRow w.heap.size 45 3 (.slice a' 0 c') 0 [] ∧ w.grownBy w' none := by
  have hcp := show Hid _ from copiedProd_any a 0 cap [] w rfl (fun h => ⟨rfl, hnil h⟩) (fun x _ j u hu => by simp at hu) (fun u hu => by cases hu) (by omega)
  clear hnil
  go_enter Try.func80, Try.ntmps80
  go_wp2_with fail
  refine Calls.mono hcp.out ?_
  rintro e w1 ⟨a', c', rfl, hown, hg⟩
  have HO : Hid (w1.ownsRow w.heap.size 45 3 (.slice a' 0 c') 0 []) := hown
  have HG : Hid (w.grownBy w1 none) := hg
  clear hown hg hcp
  go_wp2_with fail
  refine wp_loop_rounds 1 ?_
  rw [rounds_succ]
  go_wp2_with fail
  go_ret
  exact ⟨a', c', rfl, HO.out, HG.out⟩

theorem tms_cells_len : ∀ ts : List (ByteArray × Int), (tmsL ts).length = ts.length * 2
  | [] => rfl
  | t :: ts => by
    have := tms_cells_len ts
    simp only [tmsL, List.flatMap_cons, List.length_append, List.length_cons] at this ⊢
    simp [tmL] at this ⊢
    omega

theorem terms_cells {w : World} {ta : Option Addr} {ts : List (ByteArray × Int)} (h : TermsAt w ta ts) : ∀ x, ta = some x → ∀ j u, (tmsL ts)[j]? = some u → w.cell? (x.add j) = some u := by
  intro x hx j u hu
  rcases h with h | ⟨b, off, e, hc⟩
  · rw [h] at hu; simp [tmsL] at hu
  · rw [hx] at e
    simp only [Option.some.injEq] at e
    subst e
    rw [Addr.add_mid]
    have hj : j < ts.length * 2 := by
      have := (List.getElem?_eq_some_iff.1 hu).1
      have e := tms_cells_len ts
      omega
    obtain ⟨h1, h2⟩ := hc (j / 2) (by omega)
    obtain ⟨k1, k2⟩ := tmsL_at ts (j / 2) (by omega)
    have hr : j % 2 = 0 ∨ j % 2 = 1 := by omega
    rcases hr with hr | hr
    · have e : j = j / 2 * 2 := by omega
      rw [e, k1] at hu
      rw [e, h1]
      exact hu
    · have e : j = j / 2 * 2 + 1 := by omega
      rw [e, k2] at hu
      rw [e, ← Nat.add_assoc, h2]
      exact hu
theorem strs_cells {w : World} {na : Option Addr} {ns : List ByteArray} (h : StrsAt w na ns) : ∀ x, na = some x → ∀ j u, (ns.map Value.string)[j]? = some u → w.cell? (x.add j) = some u := by
  intro x hx j u hu
  rcases h with h | ⟨b, off, e, hc⟩
  · rw [h] at hu; simp at hu
  · rw [hx] at e
    simp only [Option.some.injEq] at e
    subst e
    rw [Addr.add_mid]
    have hj : j < ns.length := by have := (List.getElem?_eq_some_iff.1 hu).1; simpa using this
    rw [hc j hj]
    simp [hj] at hu
    simp [List.getD, hj, hu]
theorem tms_one (ts : List (ByteArray × Int)) : ∀ u ∈ tmsL ts, u.oneCell' = true := by
  intro u hu
  simp only [tmsL, List.mem_flatMap] at hu
  obtain ⟨t, _, hu⟩ := hu
  simp [tmL] at hu
  rcases hu with rfl | rfl <;> rfl
theorem strs_one (ns : List ByteArray) : ∀ u ∈ ns.map Value.string, u.oneCell' = true := by
  intro u hu
  obtain ⟨t, _, rfl⟩ := List.mem_map.1 hu
  rfl

/-- A grammar out of its lists. -/
def grOf (ts : List (ByteArray × Int)) (ns : List ByteArray) (lv : List Int) (st : Int) (n : Nat) (L : Nat → Int) (R : Nat → List Int) (V : Nat → Int) : GR := ⟨ts, ns, lv, st, (List.range n).map fun i => ⟨L i, R i, V i⟩⟩
theorem grOf_len (ts : List (ByteArray × Int)) (ns : List ByteArray) (lv : List Int) (st : Int) (n : Nat) (L : Nat → Int) (R : Nat → List Int) (V : Nat → Int) : (grOf ts ns lv st n L R V).prods.length = n := by simp [grOf]
theorem grOf_at (ts : List (ByteArray × Int)) (ns : List ByteArray) (lv : List Int) (st : Int) (n : Nat) (L : Nat → Int) (R : Nat → List Int) (V : Nat → Int) {i : Nat} (hi : i < n) : (grOf ts ns lv st n L R V).prods.getD i ⟨0, [], 0⟩ = ⟨L i, R i, V i⟩ := by simp [grOf, List.getD, hi]

/-- Copied productions, in their own memory. -/
structure CNew (W : World) (B : Nat) (v : Value) (n : Nat) (L : Nat → Int) (R : Nat → List Int) (V : Nat → Int) (rg : Nat → Value) : Prop where
  row : W.ownsRow B 45 3 v n (prodRow n L rg V)
  rights : ∀ i, i < n → W.ownsRow B 3 1 (rg i) (R i).length ((R i).map (Value.int .i64))
theorem keepC {W W' : World} {B : Nat} {v : Value} {n : Nat} {L : Nat → Int} {R : Nat → List Int} {V : Nat → Int} {rg : Nat → Value} (h : CNew W B v n L R V rg) (hg : W.grownBy W' none) : Hid (CNew W' B v n L R V rg) :=
  ⟨h.row.kept hg (by cases hv : v.ownBlock <;> simp), fun i hi => (h.rights i hi).kept hg (by cases hv : (rg i).ownBlock <;> simp)⟩

theorem copiedProds_new (a : Option Addr) (n cap : Nat) (L : Nat → Int) (R : Nat → List Int) (ra : Nat → Option Addr) (rc : Nat → Nat) (V : Nat → Int) (w : World) (B : Nat) (hB : B ≤ w.heap.size) (hP : ProdsAt w a n L R ra rc V) (hnil : a = none → n = 0 ∧ cap = 0) (hb : n * 40 ≤ 140737488355328) :
    Calls Try.prog 80 #[.slice a n cap] w fun e w' => ∃ a' c' rg, e = .returned (.slice a' n c') ∧ Hid (CNew w' B (.slice a' n c') n L R V rg) ∧ w.grownBy w' none := by
  by_cases h0 : n = 0
  · subst h0
    refine (copiedProds_none a cap w (fun h => (hnil h).2)).mono ?_
    rintro e w' ⟨a', c', rfl, ho, hg⟩
    exact ⟨a', c', fun _ => undef, rfl, ⟨owns_lower ho hB, fun i hi => absurd hi (Nat.not_lt_zero i)⟩, hg⟩
  · obtain ⟨b, off, rfl⟩ : ∃ b off, a = some ⟨b, off, none⟩ := by
      rcases hP with h | ⟨b, off, e, _⟩
      · exact absurd h h0
      · exact ⟨b, off, e⟩
    refine (copiedProds_some b off n cap L R ra rc V w hP (by omega) hb).mono ?_
    rintro e w' ⟨g, c, rg, rfl, hn⟩
    exact ⟨_, c, rg, rfl, ⟨owns_lower hn.row hB, fun i hi => owns_lower (hn.rights i hi) hB⟩, hn.grown⟩

theorem results_copy (tmps : Array Value) (w : World) (g : Nat) (cs : Array Value) (h2 : tmps.getD 2 undef = .pointer (some ⟨g, 0, none⟩)) (hg : w.heap[g]? = some (.cells cs 27 (0, 0))) (hs : cs.size = 5) :
    (results Try.f54 tmps).run Try.prog w = .ok (.agg cs) w := by
  have h2' : tmps[2]?.getD undef = .pointer (some ⟨g, 0, none⟩) := by simpa using h2
  have hl := run_loadVar_row (P := Try.prog) w g 27 27 cs (0, 0) _ hg Try.underlying27 rfl (by rw [infoG, hs])
  simp [results, Try.results54, h2', asAddr, hl]

theorem copy_fin {W W' : World} {B k n : Nat} {ts : List (ByteArray × Int)} {ns : List ByteArray} {lv : List Int} {st : Int} {L : Nat → Int} {R : Nat → List Int} {V : Nat → Int} {vt vn vl vp : Value} {rg : Nat → Value} (hB : B ≤ k)
    (hT : W.ownsRow (k + 1) 57 2 vt ts.length (tmsL ts)) (hN : W.ownsRow (k + 1) 9 1 vn ns.length (ns.map Value.string)) (hL : W.ownsRow (k + 1) 3 1 vl lv.length (lv.map (Value.int .i64))) (hP : CNew W (k + 1) vp n L R V rg) (hst : W.grownBy W' (some k)) :
    GramNew W' B (grOf ts ns lv st n L R V) vt vn vl vp := by
  refine ⟨owns_off hT hst hB, owns_off hN hst hB, owns_off hL hst hB, rg, ?_, fun i hi => ?_⟩
  · rw [grOf_len]
    have e := prodRow_ext (n := n) (L := L) (L' := fun i => ((grOf ts ns lv st n L R V).prods.getD i ⟨0, [], 0⟩).left) (r := rg) (r' := rg) (V := V) (V' := fun i => ((grOf ts ns lv st n L R V).prods.getD i ⟨0, [], 0⟩).level) (fun i hi => by rw [grOf_at _ _ _ _ _ _ _ _ hi]) (fun _ _ => rfl) (fun i hi => by rw [grOf_at _ _ _ _ _ _ _ _ hi])
    rw [← e]
    exact owns_off hP.row hst hB
  · rw [grOf_len] at hi
    rw [grOf_at _ _ _ _ _ _ _ _ hi]
    exact owns_off (hP.rights i hi) hst hB

set_option maxRecDepth 100000 in
set_option maxHeartbeats 8000000 in
theorem copy_core (ta na la pa : Option Addr) (tn nn ln n tc nc lc pc : Nat) (st : Int) (ts : List (ByteArray × Int)) (ns : List ByteArray) (lv : List Int) (L : Nat → Int) (R : Nat → List Int) (V : Nat → Int) (w W : World) (gb : Nat) (hgb : gb = w.heap.size)
    (hW : W = (w.alloc (.cells #[.slice ta tn tc, .slice na nn nc, .slice la ln lc, .int .i64 st, .slice pa n pc] 27)).alloc (.cells #[.slice none 0 0, .slice none 0 0, .slice none 0 0, .int .i64 0, .slice none 0 0] 27)) (hlen : ts.length = tn ∧ ns.length = nn ∧ lv.length = ln)
    (hT : ∀ X, W.grownBy X none → Calls Try.prog 77 #[.slice ta tn tc] X fun e w' => ∃ a' c', e = .returned (.slice a' tn c') ∧ Hid (w'.ownsRow (gb + 1 + 1) 57 2 (.slice a' tn c') tn (tmsL ts)) ∧ X.grownBy w' none)
    (hN : ∀ X, W.grownBy X none → Calls Try.prog 78 #[.slice na nn nc] X fun e w' => ∃ a' c', e = .returned (.slice a' nn c') ∧ Hid (w'.ownsRow (gb + 1 + 1) 9 1 (.slice a' nn c') nn (ns.map Value.string)) ∧ X.grownBy w' none)
    (hL : ∀ X, W.grownBy X none → Calls Try.prog 79 #[.slice la ln lc] X fun e w' => ∃ a' c', e = .returned (.slice a' ln c') ∧ Hid (w'.ownsRow (gb + 1 + 1) 3 1 (.slice a' ln c') ln (lv.map (Value.int .i64))) ∧ X.grownBy w' none)
    (hP : ∀ X, W.grownBy X none → Calls Try.prog 80 #[.slice pa n pc] X fun e w' => ∃ a' c' rg, e = .returned (.slice a' n c') ∧ Hid (CNew w' (gb + 1 + 1) (.slice a' n c') n L R V rg) ∧ X.grownBy w' none) :
    Calls Try.prog 54 #[.agg #[.slice ta tn tc, .slice na nn nc, .slice la ln lc, .int .i64 st, .slice pa n pc]] w fun e w' => ∃ vt vn vl vp, e = .returned (.agg #[vt, vn, vl, .int .i64 st, vp]) ∧ GramNew w' w.heap.size (grOf ts ns lv st n L R V) vt vn vl vp ∧ w.grownBy w' none := by
  have HT0 := show Hid _ from hT
  have HN0 := show Hid _ from hN
  have HL0 := show Hid _ from hL
  have HP0 := show Hid _ from hP
  have HW := show Hid _ from hW
  have HLN : Hid (ts.length = tn ∧ ns.length = nn ∧ lv.length = ln) := hlen
  have hgW : w.grownBy W none := by rw [hW]; exact grown_trans (World.grownBy_alloc _ _ none) (World.grownBy_alloc _ _ none)
  have HGW : Hid (w.grownBy W none) := hgW
  have HGB : Hid (gb = w.heap.size) := hgb
  have hb0 : W.heap[gb]? = some (.cells #[.slice ta tn tc, .slice na nn nc, .slice la ln lc, .int .i64 st, .slice pa n pc] 27 (0, 0)) := by
    rw [hW, hgb]
    exact ((World.grownBy_alloc (w.alloc _) _ none).block _ (by simp) (by simp)).trans (heap_alloc_last w _)
  have hb1 : W.heap[gb + 1]? = some (.cells #[.slice none 0 0, .slice none 0 0, .slice none 0 0, .int .i64 0, .slice none 0 0] 27 (0, 0)) := by
    rw [hW, hgb]
    have := heap_alloc_last (w.alloc (.cells #[.slice ta tn tc, .slice na nn nc, .slice la ln lc, .int .i64 st, .slice pa n pc] 27)) (.cells #[.slice none 0 0, .slice none 0 0, .slice none 0 0, .int .i64 0, .slice none 0 0] 27)
    simpa using this
  have HKP : Hid (∀ w', W.grownBy w' none → w'.cell? ⟨gb, 0, none⟩ = some (.slice ta tn tc) ∧ w'.cell? ⟨gb, 1, none⟩ = some (.slice na nn nc) ∧ w'.cell? ⟨gb, 2, none⟩ = some (.slice la ln lc) ∧ w'.cell? ⟨gb, 3, none⟩ = some (.int .i64 st) ∧ w'.cell? ⟨gb, 4, none⟩ = some (.slice pa n pc) ∧ w'.cell? ⟨gb + 1, 0, none⟩ = some (.slice none 0 0) ∧ w'.cell? ⟨gb + 1, 1, none⟩ = some (.slice none 0 0) ∧ w'.cell? ⟨gb + 1, 2, none⟩ = some (.slice none 0 0) ∧ w'.cell? ⟨gb + 1, 3, none⟩ = some (.int .i64 0) ∧ w'.cell? ⟨gb + 1, 4, none⟩ = some (.slice none 0 0) ∧ (∀ j, w'.frozen? ⟨gb + 1, j, none⟩ = false)) := fun w' h => by
    have k0 := (h.block gb (Array.getElem?_eq_some_iff.1 hb0).1 (by simp)).trans hb0
    have k1 := (h.block (gb + 1) (Array.getElem?_eq_some_iff.1 hb1).1 (by simp)).trans hb1
    refine ⟨?_, ?_, ?_, ?_, ?_, ?_, ?_, ?_, ?_, ?_, fun j => frozen_of_row _ _ _ _ _ k1⟩
    all_goals first | (rw [cell_of_row _ _ _ _ _ _ k0]; rfl) | (rw [cell_of_row _ _ _ _ _ _ k1]; rfl)
  have HKQ : Hid (∀ w', W.grownBy w' none → w'.cell? ⟨gb, 0, none⟩ = some (.slice ta tn tc) ∧ w'.cell? ⟨gb, 1, none⟩ = some (.slice na nn nc) ∧ w'.cell? ⟨gb, 2, none⟩ = some (.slice la ln lc) ∧ w'.cell? ⟨gb, 3, none⟩ = some (.int .i64 st) ∧ w'.cell? ⟨gb, 4, none⟩ = some (.slice pa n pc)) := fun w' h => by
    obtain ⟨q0, q1, q2, q3, q4, _⟩ := HKP.out w' h
    exact ⟨q0, q1, q2, q3, q4⟩
  have HB1 : Hid (∀ w', W.grownBy w' none → w'.heap[gb + 1]? = some (.cells #[.slice none 0 0, .slice none 0 0, .slice none 0 0, .int .i64 0, .slice none 0 0] 27 (0, 0))) := fun w' h => (h.block (gb + 1) (Array.getElem?_eq_some_iff.1 hb1).1 (by simp)).trans hb1
  have HGc : Hid (W.grownBy W.drew none) := grown_drewN W 1
  obtain ⟨s0, s1, s2, s3, s4, r0, r1, r2, r3, r4, rf⟩ := HKP.out W (grown_refl _ _)
  clear hT hN hL hP hW hlen hgW hgb hb0 hb1
  go_enter Try.func54, Try.ntmps54
  go_wp2_with fail
  rw [← HW.out, ← HGB.out]
  go_region_held3 (fun w' => w'.cell? ⟨gb, 0, none⟩ = some (.slice ta tn tc) ∧ w'.cell? ⟨gb, 1, none⟩ = some (.slice na nn nc) ∧ w'.cell? ⟨gb, 2, none⟩ = some (.slice la ln lc) ∧ w'.cell? ⟨gb, 3, none⟩ = some (.int .i64 st) ∧ w'.cell? ⟨gb, 4, none⟩ = some (.slice pa n pc)) (first | go_keep | exact HKQ.out _ HGc.out)
    ((first
      | (go_at_call 77; refine Calls.mono (HT0.out _ HGc.out) ?_; rintro e w1 ⟨aT, cT, rfl, HT, hg1⟩; have HGc : Hid (W.grownBy w1 none) := grown_trans HGc.out hg1; obtain ⟨r0, r1, r2, r3, r4, rf⟩ := (HKP.out w1 HGc.out).2.2.2.2.2; (try have HN := keepR HN.out hg1); (try have HL := keepR HL.out hg1); (try have HP := keepC HP.out hg1))
      | (go_at_call 78; refine Calls.mono (HN0.out _ HGc.out) ?_; rintro e w1 ⟨aN, cN, rfl, HN, hg1⟩; have HGc : Hid (W.grownBy w1 none) := grown_trans HGc.out hg1; obtain ⟨r0, r1, r2, r3, r4, rf⟩ := (HKP.out w1 HGc.out).2.2.2.2.2; (try have HT := keepR HT.out hg1); (try have HL := keepR HL.out hg1); (try have HP := keepC HP.out hg1))
      | (go_at_call 79; refine Calls.mono (HL0.out _ HGc.out) ?_; rintro e w1 ⟨aL, cL, rfl, HL, hg1⟩; have HGc : Hid (W.grownBy w1 none) := grown_trans HGc.out hg1; obtain ⟨r0, r1, r2, r3, r4, rf⟩ := (HKP.out w1 HGc.out).2.2.2.2.2; (try have HT := keepR HT.out hg1); (try have HN := keepR HN.out hg1); (try have HP := keepC HP.out hg1))
      | (go_at_call 80; refine Calls.mono (HP0.out _ HGc.out) ?_; rintro e w1 ⟨aP, cP, rgP, rfl, HP, hg1⟩; have HGc : Hid (W.grownBy w1 none) := grown_trans HGc.out hg1; obtain ⟨r0, r1, r2, r3, r4, rf⟩ := (HKP.out w1 HGc.out).2.2.2.2.2; (try have HT := keepR HT.out hg1); (try have HN := keepR HN.out hg1); (try have HL := keepR HL.out hg1))))
  all_goals go_wp2_with fail
  all_goals
    have hst := set5_grown w1 (gb + 1) (.slice aT tn cT) (.slice aN nn cN) (.slice aL ln cL) (.int .i64 st) (.slice aP n cP)
    have hF3 := set5_heap (HB1.out w1 HGc.out) (.slice aT tn cT) (.slice aN nn cN) (.slice aL ln cL) (.int .i64 st) (.slice aP n cP)
    refine bodyPost_ret (v := .agg #[.slice aT tn cT, .slice aN nn cN, .slice aL ln cL, .int .i64 st, .slice aP n cP]) ?_ rfl ?_
    · exact results_copy _ _ (gb + 1) _ rfl hF3 rfl
    · have hT' := HT.out
      have hN' := HN.out
      have hL' := HL.out
      rw [← HLN.out.1] at hT' ⊢
      rw [← HLN.out.2.1] at hN' ⊢
      rw [← HLN.out.2.2] at hL' ⊢
      exact ⟨_, _, _, _, rfl, copy_fin (by rw [HGB.out]; omega) hT' hN' hL' HP.out (by rw [← HLN.out.1, ← HLN.out.2.1, ← HLN.out.2.2] at hst; exact hst), grown_new (grown_trans HGW.out HGc.out) (by rw [← HLN.out.1, ← HLN.out.2.1, ← HLN.out.2.2] at hst; exact hst) (by rw [HGB.out]; omega)⟩

theorem copy_any (ta na la pa : Option Addr) (tc nc lc pc : Nat) (ts : List (ByteArray × Int)) (ns : List ByteArray) (lv : List Int) (n : Nat) (L : Nat → Int) (R : Nat → List Int) (ra : Nat → Option Addr) (rc : Nat → Nat) (V : Nat → Int) (st : Int) (w : World) (hG : GAt w ta na la pa tc nc lc pc ts ns lv n L R ra rc V) (hnt : ta = none → ts.length = 0 ∧ tc = 0) (hnl : la = none → lv.length = 0 ∧ lc = 0) (h1 : ts.length ≤ 4398046511104) (h2 : ns.length ≤ 4398046511104) (h4 : n ≤ 2199023255552) :
    Calls Try.prog 54 #[.agg #[.slice ta ts.length tc, .slice na ns.length nc, .slice la lv.length lc, .int .i64 st, .slice pa n pc]] w fun e w' => ∃ vt vn vl vp, e = .returned (.agg #[vt, vn, vl, .int .i64 st, vp]) ∧ GramNew w' w.heap.size (grOf ts ns lv st n L R V) vt vn vl vp ∧ w.grownBy w' none := by
  obtain ⟨W, hW⟩ : ∃ W, W = (w.alloc (.cells #[.slice ta ts.length tc, .slice na ns.length nc, .slice la lv.length lc, .int .i64 st, .slice pa n pc] 27)).alloc (.cells #[.slice none 0 0, .slice none 0 0, .slice none 0 0, .int .i64 0, .slice none 0 0] 27) := ⟨_, rfl⟩
  have hgW : w.grownBy W none := by rw [hW]; exact grown_trans (World.grownBy_alloc _ _ none) (World.grownBy_alloc _ _ none)
  have hz : W.heap.size = w.heap.size + 1 + 1 := by rw [hW]; simp
  refine copy_core ta na la pa ts.length ns.length lv.length n tc nc lc pc st ts ns lv L R V w W w.heap.size rfl hW ⟨rfl, rfl, rfl⟩ (fun X hX => ?_) (fun X hX => ?_) (fun X hX => ?_) (fun X hX => ?_)
  · have hg := hG.kept (grown_trans hgW hX)
    refine (copiedTerm_any ta ts.length tc (tmsL ts) X (tms_cells_len ts) hnt (terms_cells hg.terms) (tms_one ts) (by omega)).mono ?_
    rintro e w' ⟨a', c', rfl, ho, h⟩
    exact ⟨a', c', rfl, owns_hid ho (by have := hX.size; omega), h⟩
  · have hg := hG.kept (grown_trans hgW hX)
    refine (copiedStr_any na ns.length nc (ns.map Value.string) X (by simp) hG.nnil (strs_cells hg.nons) (strs_one ns) (by omega)).mono ?_
    rintro e w' ⟨a', c', rfl, ho, h⟩
    exact ⟨a', c', rfl, owns_hid ho (by have := hX.size; omega), h⟩
  · have hg := hG.kept (grown_trans hgW hX)
    refine (copiedInt_new la lc lv X hg.levels (fun h => (hnl h).2) hG.llen).mono ?_
    rintro e w' ⟨a', c', rfl, ho, h⟩
    exact ⟨a', c', rfl, owns_hid ho (by have := hX.size; omega), h⟩
  · have hg := hG.kept (grown_trans hgW hX)
    exact copiedProds_new pa n pc L R ra rc V X _ (by have := hX.size; omega) hg.prods hG.pnil (by omega)

end Go.Proofs.Ytmkimeojcpadpaa
