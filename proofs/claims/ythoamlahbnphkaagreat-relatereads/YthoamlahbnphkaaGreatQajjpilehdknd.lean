import Derived.Test.YthoamlahbnphkaaGreatQmjckmdcikhia
import Derived.Test.YthoamlahbnphkaaGreatQhilhekbodjfg
import Derived.Test.YthoamlahbnphkaaGreatQdbmccflpknai
import Derived.Test.YthoamlahbnphkaaGreatQclnnonbocidb
import Derived.Test.YthoamlahbnphkaaGreatQidndonkccbgm

/-
  The document's Same of two grammars, walked.
-/
namespace Go.Proofs.YthoamlahbnphkaaGreat
open Go.RowKit Go.Maps Go.Shelf

attribute [local go_sem] Oper.semAt_some

section
variable (ta na la pa ta' na' la' pa' : Option Addr) (tn nn ln pn tc nc lc pc tn' nn' ln' pn' tc' nc' lc' pc' : Nat) (st st' : Int)

set_option maxRecDepth 100000 in
set_option maxHeartbeats 1000000 in
theorem rsame_short (w : World) (rL : Bool) (hno : ¬ (rL = true ∧ st = st' ∧ tn = tn' ∧ nn = nn' ∧ pn = pn'))
    (hL : ∀ W, w.grownBy W none → Calls Tryz.prog 35 #[.slice la ln lc, .slice la' ln' lc'] W fun e w' => e = .returned (.bool rL) ∧ W.grownBy w' none) :
    Calls Tryz.prog 17 #[.agg #[.slice ta tn tc, .slice na nn nc, .slice la ln lc, .int .i64 st, .slice pa pn pc], .agg #[.slice ta' tn' tc', .slice na' nn' nc', .slice la' ln' lc', .int .i64 st', .slice pa' pn' pc']] w fun e w' => e = .returned (.bool false) ∧ w.grownBy w' none := by
  have HL : Hid (∀ W, w.grownBy W none → Calls Tryz.prog 35 #[.slice la ln lc, .slice la' ln' lc'] W fun e w' => e = .returned (.bool rL) ∧ W.grownBy w' none) := hL
  have HX : Hid (Ph2 w _ #[.slice ta tn tc, .slice na nn nc, .slice la ln lc, .int .i64 st, .slice pa pn pc] #[.slice ta' tn' tc', .slice na' nn' nc', .slice la' ln' lc', .int .i64 st', .slice pa' pn' pc']) := Ph2.mk' w _ _
  have HNO : Hid (¬ (rL = true ∧ st = st' ∧ tn = tn' ∧ nn = nn' ∧ pn = pn')) := hno
  clear hL hno
  go_enter Tryz.func17, Tryz.ntmps17
  go_wp2_with fail
  refine (HL.out _ HX.out.grown).mono ?_
  rintro e w1 ⟨rfl, hg1⟩
  have HX1 : Hid (Ph2 w w1 #[.slice ta tn tc, .slice na nn nc, .slice la ln lc, .int .i64 st, .slice pa pn pc] #[.slice ta' tn' tc', .slice na' nn' nc', .slice la' ln' lc', .int .i64 st', .slice pa' pn' pc']) := HX.out.kept hg1
  clear hg1 HX HL
  obtain ⟨⟨m0, m1, m2, m3, m4⟩, n0, n1, n2, n3, n4⟩ := HX1.out.cells
  cases rL with
  | false =>
    go_wp2_with fail
    go_ret
    exact ⟨rfl, HX1.out.grown⟩
  | true =>
    by_cases h1 : st = st'
    · have d1 : (st != st') = false := by simp [h1]
      have H1 : Hid (st = st') := h1
      clear h1
      by_cases h2 : tn = tn'
      · have d2 : ((tn : Int) != (tn' : Int)) = false := by simp [h2]
        have H2 : Hid (tn = tn') := h2
        clear h2
        by_cases h3 : nn = nn'
        · have d3 : ((nn : Int) != (nn' : Int)) = false := by simp [h3]
          have H3 : Hid (nn = nn') := h3
          clear h3
          by_cases h4 : pn = pn'
          · exact absurd ⟨rfl, H1.out, H2.out, H3.out, h4⟩ HNO.out
          · have d4 : ((pn : Int) != (pn' : Int)) = true := by simp; omega
            clear h4
            go_wp2_with fail
            go_ret
            exact ⟨rfl, HX1.out.grown⟩
        · have d3 : ((nn : Int) != (nn' : Int)) = true := by simp; omega
          clear h3
          go_wp2_with fail
          go_ret
          exact ⟨rfl, HX1.out.grown⟩
      · have d2 : ((tn : Int) != (tn' : Int)) = true := by simp; omega
        clear h2
        go_wp2_with fail
        go_ret
        exact ⟨rfl, HX1.out.grown⟩
    · have d1 : (st != st') = true := by simp [h1]
      clear h1
      go_wp2_with fail
      go_ret
      exact ⟨rfl, HX1.out.grown⟩
end

theorem prod2_cells {w W : World} {l1 l2 v1 v2 : Int} {s1 s2 : Value} (hg : ((w.alloc (.cells #[.int .i64 l1, s1, .int .i64 v1] 71)).alloc (.cells #[.int .i64 l2, s2, .int .i64 v2] 71)).grownBy W none) :
    W.cell? ⟨w.heap.size, 0, none⟩ = some (.int .i64 l1) ∧ W.cell? ⟨w.heap.size, 2, none⟩ = some (.int .i64 v1) ∧ W.cell? ⟨w.heap.size + 1, 0, none⟩ = some (.int .i64 l2) ∧ W.cell? ⟨w.heap.size + 1, 2, none⟩ = some (.int .i64 v2) := by
  have h1 := heap_alloc_last w (.cells #[.int .i64 l1, s1, .int .i64 v1] 71)
  have h2 := heap_alloc_last (w.alloc (.cells #[.int .i64 l1, s1, .int .i64 v1] 71)) (.cells #[.int .i64 l2, s2, .int .i64 v2] 71)
  rw [World.size_alloc] at h2
  have h1' := ((World.grownBy_alloc (w.alloc (.cells #[.int .i64 l1, s1, .int .i64 v1] 71)) (.cells #[.int .i64 l2, s2, .int .i64 v2] 71) none).block _ (Array.getElem?_eq_some_iff.1 h1).1 (by simp)).trans h1
  have g1 := (hg.block _ (Array.getElem?_eq_some_iff.1 h1').1 (by simp)).trans h1'
  have g2 := (hg.block _ (Array.getElem?_eq_some_iff.1 h2).1 (by simp)).trans h2
  refine ⟨?_, ?_, ?_, ?_⟩
  · rw [cell_of_row _ _ _ _ _ _ g1]; rfl
  · rw [cell_of_row _ _ _ _ _ _ g1]; rfl
  · rw [cell_of_row _ _ _ _ _ _ g2]; rfl
  · rw [cell_of_row _ _ _ _ _ _ g2]; rfl

section
variable (ta na la pa ta' na' la' pa' : Option Addr) (tn nn ln pn tc nc lc pc ln' tc' nc' lc' pc' : Nat) (st : Int)

set_option maxRecDepth 100000 in
set_option maxHeartbeats 2000000 in
theorem rsame_long (w : World) (ts ts' : List (ByteArray × Int)) (ns ns' : List ByteArray) (L1 L2 V1 V2 : Nat → Int) (R1 R2 : Nat → List Int) (ra1 ra2 : Nat → Option Addr) (rc1 rc2 : Nat → Nat)
    (hlen : ts.length = tn ∧ ts'.length = tn ∧ ns.length = nn ∧ ns'.length = nn) (hT1 : TermsAt w ta ts) (hT2 : TermsAt w ta' ts') (hN1 : StrsAt w na ns) (hN2 : StrsAt w na' ns') (hP1 : ProdsAt w pa pn L1 R1 ra1 rc1 V1) (hP2 : ProdsAt w pa' pn L2 R2 ra2 rc2 V2)
    (hbt : tn ≤ 17592186044416) (hbn : nn ≤ 17592186044416) (hbp : pn ≤ 17592186044416) (r : Bool) (hr : r = true ↔ (ts = ts' ∧ ns = ns' ∧ prodsSame pn pn L1 R1 V1 L2 R2 V2))
    (hL : ∀ W, w.grownBy W none → Calls Tryz.prog 35 #[.slice la ln lc, .slice la' ln' lc'] W fun e w' => e = .returned (.bool true) ∧ W.grownBy w' none) :
    Calls Tryz.prog 17 #[.agg #[.slice ta tn tc, .slice na nn nc, .slice la ln lc, .int .i64 st, .slice pa pn pc], .agg #[.slice ta' tn tc', .slice na' nn nc', .slice la' ln' lc', .int .i64 st, .slice pa' pn pc']] w fun e w' => e = .returned (.bool r) ∧ w.grownBy w' none := by
  have HL : Hid (∀ W, w.grownBy W none → Calls Tryz.prog 35 #[.slice la ln lc, .slice la' ln' lc'] W fun e w' => e = .returned (.bool true) ∧ W.grownBy w' none) := hL
  have HX0 : Hid (Ph2 w _ #[.slice ta tn tc, .slice na nn nc, .slice la ln lc, .int .i64 st, .slice pa pn pc] #[.slice ta' tn tc', .slice na' nn nc', .slice la' ln' lc', .int .i64 st, .slice pa' pn pc']) := Ph2.mk' w _ _
  have HR : Hid (r = true ↔ (ts = ts' ∧ ns = ns' ∧ prodsSame pn pn L1 R1 V1 L2 R2 V2)) := hr
  have HLEN : Hid (ts.length = tn ∧ ts'.length = tn ∧ ns.length = nn ∧ ns'.length = nn) := hlen
  have HT1 : Hid (TermsAt w ta ts) := hT1
  have HT2 : Hid (TermsAt w ta' ts') := hT2
  have HN1 : Hid (StrsAt w na ns) := hN1
  have HN2 : Hid (StrsAt w na' ns') := hN2
  have HP1 : Hid (ProdsAt w pa pn L1 R1 ra1 rc1 V1) := hP1
  have HP2 : Hid (ProdsAt w pa' pn L2 R2 ra2 rc2 V2) := hP2
  clear hL hr hlen hT1 hT2 hN1 hN2 hP1 hP2
  go_enter Tryz.func17, Tryz.ntmps17
  go_wp2_with fail
  refine (HL.out _ HX0.out.grown).mono ?_
  rintro e w1 ⟨rfl, hg1⟩
  have HX1 : Hid (Ph2 w w1 #[.slice ta tn tc, .slice na nn nc, .slice la ln lc, .int .i64 st, .slice pa pn pc] #[.slice ta' tn tc', .slice na' nn nc', .slice la' ln' lc', .int .i64 st, .slice pa' pn pc']) := HX0.out.kept hg1
  clear hg1 HX0 HL
  obtain ⟨⟨m0, m1, m2, m3, m4⟩, n0, n1, n2, n3, n4⟩ := HX1.out.cells
  have d1 : (st != st) = false := bne_self_eq_false _
  have d2 : ((tn : Int) != (tn : Int)) = false := bne_self_eq_false _
  have d3 : ((nn : Int) != (nn : Int)) = false := bne_self_eq_false _
  have d4 : ((pn : Int) != (pn : Int)) = false := bne_self_eq_false _
  go_wp2_with fail
  clear m0 m1 m2 m3 m4 n0 n1 n2 n3 n4 d1 d2 d3 d4
  go_loopw [6] (fun i wr => ∃ k : Nat, k ≤ tn ∧ i = .int .i64 k ∧ Ph2 w wr #[.slice ta tn tc, .slice na nn nc, .slice la ln lc, .int .i64 st, .slice pa pn pc] #[.slice ta' tn tc', .slice na' nn nc', .slice la' ln' lc', .int .i64 st, .slice pa' pn pc'] ∧ ∀ j, j < k → ts.getD j (⟨#[]⟩, 0) = ts'.getD j (⟨#[]⟩, 0)) (fun i _ => tn - (intOf i).toNat)
  case atStart => exact ⟨0, Nat.zero_le _, rfl, HX1.out, fun j hj => by omega⟩
  case round =>
    clear HX1
    obtain ⟨k, hk, rfl, hX, hall⟩ := hrel
    have HX : Hid (Ph2 w wr #[.slice ta tn tc, .slice na nn nc, .slice la ln lc, .int .i64 st, .slice pa pn pc] #[.slice ta' tn tc', .slice na' nn nc', .slice la' ln' lc', .int .i64 st, .slice pa' pn pc']) := hX
    have HA : Hid (∀ j, j < k → ts.getD j (⟨#[]⟩, 0) = ts'.getD j (⟨#[]⟩, 0)) := hall
    clear hX hall
    by_cases hlt : k < tn
    · clear HP1 HP2 HN1 HN2
      obtain ⟨b1, o1, rfl, hc1⟩ : ∃ b off, ta = some ⟨b, off, none⟩ ∧ ∀ i, i < ts.length → wr.cell? ⟨b, off + i * 2, none⟩ = some (.string (ts.getD i (⟨#[]⟩, 0)).1) ∧ wr.cell? ⟨b, off + i * 2 + 1, none⟩ = some (.int .i64 (ts.getD i (⟨#[]⟩, 0)).2) := by
        rcases HT1.out.kept HX.out.grown with h | h
        · have := HLEN.out; subst h; simp at this; omega
        · exact h
      obtain ⟨b2, o2, rfl, hc2⟩ : ∃ b off, ta' = some ⟨b, off, none⟩ ∧ ∀ i, i < ts'.length → wr.cell? ⟨b, off + i * 2, none⟩ = some (.string (ts'.getD i (⟨#[]⟩, 0)).1) ∧ wr.cell? ⟨b, off + i * 2 + 1, none⟩ = some (.int .i64 (ts'.getD i (⟨#[]⟩, 0)).2) := by
        rcases HT2.out.kept HX.out.grown with h | h
        · have := HLEN.out; subst h; simp at this; omega
        · exact h
      obtain ⟨e1, e3⟩ := hc1 k (by rw [HLEN.out.1]; exact hlt)
      obtain ⟨e2, e4⟩ := hc2 k (by rw [HLEN.out.2.1]; exact hlt)
      obtain ⟨⟨m0, _⟩, n0, _⟩ := HX.out.cells
      have HF : Hid (ts.getD k (⟨#[]⟩, 0) ≠ ts'.getD k (⟨#[]⟩, 0) → r = false) := fun h => Bool.eq_false_iff.2 fun hh => h (by rw [(HR.out.1 hh).1])
      have HS : Hid (ts.getD k (⟨#[]⟩, 0) = ts'.getD k (⟨#[]⟩, 0) → ∀ j, j < k + 1 → ts.getD j (⟨#[]⟩, 0) = ts'.getD j (⟨#[]⟩, 0)) := fun h j hj => by
        by_cases e : j = k
        · rw [e]; exact h
        · exact HA.out j (by omega)
      clear hc1 hc2
      generalize ts.getD k (⟨#[]⟩, 0) = x at *
      generalize ts'.getD k (⟨#[]⟩, 0) = y at *
      obtain ⟨x, u⟩ := x
      obtain ⟨y, v⟩ := y
      have hne := neqTerm x y u v
      by_cases hxy : (x, u) = (y, v)
      · have hd : (x.toList == y.toList && u == v) = true := by simp at hxy; simp [hxy]
        have hne' : ∀ w, (binOp .neq 88 (.agg #[.string x, .int .i64 u]) (.agg #[.string y, .int .i64 v])).run Tryz.prog w = .ok (.bool false) w := fun w => by rw [hne, hd]; rfl
        have HS' := HS.out hxy
        have HS2 : Hid (∀ j, j < k + 1 → ts.getD j (⟨#[]⟩, 0) = ts'.getD j (⟨#[]⟩, 0)) := HS'
        clear hxy HS' HS HF hd hne
        go_wp2_with fail
        go_quiet (fail)
        go_wp2
        go_roundw
        case rel => exact ⟨k + 1, by omega, by go_num, HX.out.kept (grown_drewN _ _), HS2.out⟩
        case measure => simp [intOf]; omega
      · have hd : (x.toList == y.toList && u == v) = false := by
          rw [Bool.eq_false_iff]
          intro h
          simp only [Bool.and_eq_true, beq_iff_eq, bytes_toList] at h
          exact hxy (by rw [h.1, h.2])
        have hne' : ∀ w, (binOp .neq 88 (.agg #[.string x, .int .i64 u]) (.agg #[.string y, .int .i64 v])).run Tryz.prog w = .ok (.bool true) w := fun w => by rw [hne, hd]; rfl
        have hrf := HF.out hxy
        clear hxy HS HF hd hne
        go_wp2_with fail
        go_quiet (fail)
        go_wp2
        go_ret
        exact ⟨by rw [hrf]; rfl, grown_trans HX.out.grown (grown_drewN _ _)⟩
    · obtain rfl : tn = k := by omega
      have HTS : Hid (ts = ts') := list_same (⟨#[]⟩, 0) (by rw [HLEN.out.1, HLEN.out.2.1]) fun i hi => HA.out i (by rw [← HLEN.out.1]; exact hi)
      clear HA hlt hk HT1 HT2
      obtain ⟨⟨m0, _⟩, n0, _⟩ := HX.out.cells
      go_wp2_with fail
      clear m0 n0
      go_loopw [7] (fun i wr => ∃ k : Nat, k ≤ nn ∧ i = .int .i64 k ∧ Ph2 w wr #[.slice ta tn tc, .slice na nn nc, .slice la ln lc, .int .i64 st, .slice pa pn pc] #[.slice ta' tn tc', .slice na' nn nc', .slice la' ln' lc', .int .i64 st, .slice pa' pn pc'] ∧ ∀ j, j < k → ns.getD j ⟨#[]⟩ = ns'.getD j ⟨#[]⟩) (fun i _ => nn - (intOf i).toNat)
      case atStart => exact ⟨0, Nat.zero_le _, rfl, HX.out, fun j hj => by omega⟩
      case round =>
        clear HX
        obtain ⟨k, hk, rfl, hX, hall⟩ := hrel
        have HX : Hid (Ph2 w wr #[.slice ta tn tc, .slice na nn nc, .slice la ln lc, .int .i64 st, .slice pa pn pc] #[.slice ta' tn tc', .slice na' nn nc', .slice la' ln' lc', .int .i64 st, .slice pa' pn pc']) := hX
        have HA : Hid (∀ j, j < k → ns.getD j ⟨#[]⟩ = ns'.getD j ⟨#[]⟩) := hall
        clear hX hall
        by_cases hlt : k < nn
        · clear HP1 HP2
          obtain ⟨b1, o1, rfl, hc1⟩ : ∃ b off, na = some ⟨b, off, none⟩ ∧ ∀ i, i < ns.length → wr.cell? ⟨b, off + i, none⟩ = some (.string (ns.getD i ⟨#[]⟩)) := by
            rcases HN1.out.kept HX.out.grown with h | h
            · have := HLEN.out; subst h; simp at this; omega
            · exact h
          obtain ⟨b2, o2, rfl, hc2⟩ : ∃ b off, na' = some ⟨b, off, none⟩ ∧ ∀ i, i < ns'.length → wr.cell? ⟨b, off + i, none⟩ = some (.string (ns'.getD i ⟨#[]⟩)) := by
            rcases HN2.out.kept HX.out.grown with h | h
            · have := HLEN.out; subst h; simp at this; omega
            · exact h
          have e1 := hc1 k (by rw [HLEN.out.2.2.1]; exact hlt)
          have e2 := hc2 k (by rw [HLEN.out.2.2.2]; exact hlt)
          obtain ⟨⟨_, m1, _⟩, _, n1, _⟩ := HX.out.cells
          have HF : Hid (ns.getD k ⟨#[]⟩ ≠ ns'.getD k ⟨#[]⟩ → r = false) := fun h => Bool.eq_false_iff.2 fun hh => h (by rw [(HR.out.1 hh).2.1])
          have HS : Hid (ns.getD k ⟨#[]⟩ = ns'.getD k ⟨#[]⟩ → ∀ j, j < k + 1 → ns.getD j ⟨#[]⟩ = ns'.getD j ⟨#[]⟩) := fun h j hj => by
            by_cases e : j = k
            · rw [e]; exact h
            · exact HA.out j (by omega)
          clear hc1 hc2
          generalize ns.getD k ⟨#[]⟩ = x at *
          generalize ns'.getD k ⟨#[]⟩ = y at *
          by_cases hxy : x = y
          · have hd : (x.toList == y.toList) = true := by simp [hxy]
            have HS' := HS.out hxy
            have HS2 : Hid (∀ j, j < k + 1 → ns.getD j ⟨#[]⟩ = ns'.getD j ⟨#[]⟩) := HS'
            clear hxy HS' HS HF
            go_wp2_with fail
            go_quiet (fail)
            go_wp2
            go_roundw
            case rel => exact ⟨k + 1, by omega, by go_num, HX.out.kept (grown_drewN _ _), HS2.out⟩
            case measure => simp [intOf]; omega
          · have hd : (x.toList == y.toList) = false := beq_eq_false_iff_ne.2 fun h => hxy ((bytes_toList x y).1 h)
            have hrf := HF.out hxy
            clear hxy HS HF
            go_wp2_with fail
            go_quiet (fail)
            go_wp2
            go_ret
            exact ⟨by rw [hrf]; rfl, grown_trans HX.out.grown (grown_drewN _ _)⟩
        · obtain rfl : nn = k := by omega
          have HNS : Hid (ns = ns') := list_same ⟨#[]⟩ (by rw [HLEN.out.2.2.1, HLEN.out.2.2.2]) fun i hi => HA.out i (by rw [← HLEN.out.2.2.1]; exact hi)
          clear HA hlt hk HN1 HN2
          obtain ⟨⟨_, m1, _⟩, _, n1, _⟩ := HX.out.cells
          go_wp2_with fail
          clear m1 n1
          go_loopw [8] (fun i wr => ∃ k : Nat, k ≤ pn ∧ i = .int .i64 k ∧ Ph2 w wr #[.slice ta tn tc, .slice na nn nc, .slice la ln lc, .int .i64 st, .slice pa pn pc] #[.slice ta' tn tc', .slice na' nn nc', .slice la' ln' lc', .int .i64 st, .slice pa' pn pc'] ∧ ∀ j, j < k → L1 j = L2 j ∧ R1 j = R2 j ∧ V1 j = V2 j) (fun i _ => pn - (intOf i).toNat)
          case atStart => exact ⟨0, Nat.zero_le _, rfl, HX.out, fun j hj => by omega⟩
          case round =>
            clear HX
            obtain ⟨k, hk, rfl, hX, hall⟩ := hrel
            have HX : Hid (Ph2 w wr #[.slice ta tn tc, .slice na nn nc, .slice la ln lc, .int .i64 st, .slice pa pn pc] #[.slice ta' tn tc', .slice na' nn nc', .slice la' ln' lc', .int .i64 st, .slice pa' pn pc']) := hX
            have HA : Hid (∀ j, j < k → L1 j = L2 j ∧ R1 j = R2 j ∧ V1 j = V2 j) := hall
            clear hX hall
            by_cases hlt : k < pn
            · obtain ⟨b1, o1, rfl, hc1⟩ : ∃ b off, pa = some ⟨b, off, none⟩ ∧ ∀ k, k < pn → w.cell? ⟨b, off + k * 3, none⟩ = some (.int .i64 (L1 k)) ∧ w.cell? ⟨b, off + k * 3 + 1, none⟩ = some (.slice (ra1 k) (R1 k).length (rc1 k)) ∧ w.cell? ⟨b, off + k * 3 + 2, none⟩ = some (.int .i64 (V1 k)) ∧ IntsAt w (ra1 k) (R1 k) ∧ (ra1 k = none → rc1 k = 0) ∧ (R1 k).length ≤ 17592186044416 := by
                rcases HP1.out with h | h
                · omega
                · exact h
              obtain ⟨b2, o2, rfl, hc2⟩ : ∃ b off, pa' = some ⟨b, off, none⟩ ∧ ∀ k, k < pn → w.cell? ⟨b, off + k * 3, none⟩ = some (.int .i64 (L2 k)) ∧ w.cell? ⟨b, off + k * 3 + 1, none⟩ = some (.slice (ra2 k) (R2 k).length (rc2 k)) ∧ w.cell? ⟨b, off + k * 3 + 2, none⟩ = some (.int .i64 (V2 k)) ∧ IntsAt w (ra2 k) (R2 k) ∧ (ra2 k = none → rc2 k = 0) ∧ (R2 k).length ≤ 17592186044416 := by
                rcases HP2.out with h | h
                · omega
                · exact h
              obtain ⟨p1, p2, p3, p4, _, p6⟩ := hc1 k hlt
              obtain ⟨q1, q2, q3, q4, _, _⟩ := hc2 k hlt
              have p1 := HX.out.grown.cell p1 (by simp)
              have p2 := HX.out.grown.cell p2 (by simp)
              have p3 := HX.out.grown.cell p3 (by simp)
              have q1' := fun o => (World.grownBy_alloc wr o none).cell (HX.out.grown.cell q1 (by simp)) (by simp)
              have q2' := fun o => (World.grownBy_alloc wr o none).cell (HX.out.grown.cell q2 (by simp)) (by simp)
              have q3' := fun o => (World.grownBy_alloc wr o none).cell (HX.out.grown.cell q3 (by simp)) (by simp)
              obtain ⟨⟨_, _, _, _, m4⟩, _, _, _, _, n4⟩ := HX.out.cells
              have n4' := fun o => (World.grownBy_alloc wr o none).cell n4 (by simp)
              obtain ⟨rk, hrk⟩ := boolOf (R1 k = R2 k)
              have HC : Hid (∀ W, w.grownBy W none → Calls Tryz.prog 35 #[.slice (ra1 k) (R1 k).length (rc1 k), .slice (ra2 k) (R2 k).length (rc2 k)] W fun e w' => e = .returned (.bool rk) ∧ W.grownBy w' none) := fun W hg =>
                (sameInts_any (ra1 k) (ra2 k) (rc1 k) (rc2 k) (R1 k) (R2 k) W (p4.kept hg) (q4.kept hg) p6 rk hrk).mono fun e w' h => ⟨h.1, by obtain ⟨q, hq⟩ := h.2; rw [hq]; exact grown_drewN _ _⟩
              have HS : Hid (rk = true → L1 k = L2 k → V1 k = V2 k → ∀ j, j < k + 1 → L1 j = L2 j ∧ R1 j = R2 j ∧ V1 j = V2 j) := fun h h1 h2 j hj => by
                by_cases e : j = k
                · rw [e]; exact ⟨h1, hrk.1 h, h2⟩
                · exact HA.out j (by omega)
              have HF1 : Hid (rk = false → r = false) := fun h => Bool.eq_false_iff.2 fun hh => by
                have := hrk.2 ((HR.out.1 hh).2.2.2 k hlt).2.1
                rw [h] at this
                cases this
              have HF2 : Hid (L1 k ≠ L2 k → r = false) := fun h => Bool.eq_false_iff.2 fun hh => h ((HR.out.1 hh).2.2.2 k hlt).1
              have HF3 : Hid (V1 k ≠ V2 k → r = false) := fun h => Bool.eq_false_iff.2 fun hh => h ((HR.out.1 hh).2.2.2 k hlt).2.2
              clear hc1 hc2 p4 q4 p6 q1 q2 q3 hrk n4
              generalize (R1 k).length = z1 at *
              generalize (R2 k).length = z2 at *
              generalize L1 k = l1 at *
              generalize L2 k = l2 at *
              generalize V1 k = v1 at *
              generalize V2 k = v2 at *
              generalize ra1 k = x1 at *
              generalize ra2 k = x2 at *
              generalize rc1 k = y1 at *
              generalize rc2 k = y2 at *
              go_wp2_with fail
              refine (HC.out _ (grown_trans (grown_trans HX.out.grown (World.grownBy_alloc _ _ none)) (World.grownBy_alloc _ _ none))).mono ?_
              rintro e w2 ⟨rfl, hg2⟩
              have HX2 : Hid (Ph2 w w2 #[.slice ta tn tc, .slice na nn nc, .slice la ln lc, .int .i64 st, .slice (some ⟨b1, o1, none⟩) pn pc] #[.slice ta' tn tc', .slice na' nn nc', .slice la' ln' lc', .int .i64 st, .slice (some ⟨b2, o2, none⟩) pn pc']) := HX.out.kept (grown_trans (grown_trans (World.grownBy_alloc _ _ none) (World.grownBy_alloc _ _ none)) hg2)
              obtain ⟨u1, u2, u3, u4⟩ := prod2_cells hg2
              clear hg2 HX HC p1 p2 p3 q1' q2' q3' n4' m4
              cases rk with
              | false =>
                have hrf := HF1.out rfl
                clear HS HF1 HF2 HF3
                go_wp2_with fail
                go_ret
                exact ⟨by rw [hrf]; rfl, HX2.out.grown⟩
              | true =>
                by_cases h1 : l1 = l2
                · have d1 : (l1 != l2) = false := by simp [h1]
                  by_cases h2 : v1 = v2
                  · have d2 : (v1 != v2) = false := by simp [h2]
                    have HS2 : Hid (∀ j, j < k + 1 → L1 j = L2 j ∧ R1 j = R2 j ∧ V1 j = V2 j) := HS.out rfl h1 h2
                    clear HS HF1 HF2 HF3 h1 h2
                    go_wp2_with fail
                    go_roundw
                    case rel => exact ⟨k + 1, by omega, by go_num, HX2.out, HS2.out⟩
                    case measure => simp [intOf]; omega
                  · have d2 : (v1 != v2) = true := by simp [h2]
                    have hrf := HF3.out h2
                    clear HS HF1 HF2 HF3 h1 h2
                    go_wp2_with fail
                    go_ret
                    exact ⟨by rw [hrf]; rfl, HX2.out.grown⟩
                · have d1 : (l1 != l2) = true := by simp [h1]
                  have hrf := HF2.out h1
                  clear HS HF1 HF2 HF3 h1
                  go_wp2_with fail
                  go_ret
                  exact ⟨by rw [hrf]; rfl, HX2.out.grown⟩
            · obtain rfl : pn = k := by omega
              have hrt : r = true := HR.out.2 ⟨HTS.out, HNS.out, rfl, HA.out⟩
              obtain ⟨⟨_, _, _, _, m4⟩, _, _, _, _, n4⟩ := HX.out.cells
              go_wp2_with fail
              go_ret
              exact ⟨by rw [hrt]; rfl, HX.out.grown⟩
end

end Go.Proofs.YthoamlahbnphkaaGreat

/-
  Same and the document's Same of any two grammars, wherever they lie.
-/
namespace Go.Proofs.YthoamlahbnphkaaGreat
open Go.RowKit Go.Maps Go.Shelf

section
variable {w : World} {ta na la pa ta' na' la' pa' : Option Addr} {tc nc lc pc tc' nc' lc' pc' : Nat} {ts ts' : List (ByteArray × Int)} {ns ns' : List ByteArray} {lv lv' : List Int} {n n' : Nat} {L L' : Nat → Int} {R R' : Nat → List Int} {ra ra' : Nat → Option Addr} {rc rc' : Nat → Nat} {V V' : Nat → Int} (st st' : Int)

/-- Are two grammars the same? -/
def sameG (ts ts' : List (ByteArray × Int)) (ns ns' : List ByteArray) (lv lv' : List Int) (st st' : Int) (n n' : Nat) (L L' : Nat → Int) (R R' : Nat → List Int) (V V' : Nat → Int) : Prop := ts = ts' ∧ ns = ns' ∧ lv = lv' ∧ st = st' ∧ prodsSame n n' L R V L' R' V'

theorem rsame_any (h : GAt w ta na la pa tc nc lc pc ts ns lv n L R ra rc V) (h' : GAt w ta' na' la' pa' tc' nc' lc' pc' ts' ns' lv' n' L' R' ra' rc' V') (r : Bool) (hr : r = true ↔ sameG ts ts' ns ns' lv lv' st st' n n' L L' R R' V V') :
    Calls Tryz.prog 17 #[.agg #[.slice ta ts.length tc, .slice na ns.length nc, .slice la lv.length lc, .int .i64 st, .slice pa n pc], .agg #[.slice ta' ts'.length tc', .slice na' ns'.length nc', .slice la' lv'.length lc', .int .i64 st', .slice pa' n' pc']] w fun e w' => e = .returned (.bool r) ∧ w.grownBy w' none := by
  obtain ⟨rL, hL⟩ := boolOf (lv = lv')
  have kL : ∀ W, w.grownBy W none → Calls Tryz.prog 35 #[.slice la lv.length lc, .slice la' lv'.length lc'] W fun e w' => e = .returned (.bool rL) ∧ W.grownBy w' none := fun W hg => (sameInts_any la la' lc lc' lv lv' W (h.levels.kept hg) (h'.levels.kept hg) h.llen rL hL).mono fun e w' k => ⟨k.1, by obtain ⟨q, hq⟩ := k.2; rw [hq]; exact grown_drewN _ _⟩
  by_cases hs : rL = true ∧ st = st' ∧ ts.length = ts'.length ∧ ns.length = ns'.length ∧ n = n'
  · obtain ⟨rfl, rfl, h1, h2, rfl⟩ := hs
    have := rsame_long ta na la pa ta' na' la' pa' ts.length ns.length lv.length n tc nc lc pc lv'.length tc' nc' lc' pc' st w ts ts' ns ns' L L' V V' R R' ra ra' rc rc' ⟨rfl, h1.symm, rfl, h2.symm⟩ h.terms h'.terms h.nons h'.nons h.prods h'.prods h.tlen h.nlen h.plen r
      (by rw [hr]; have := hL.1 rfl; simp [sameG, this]) kL
    rwa [← h1, ← h2]
  · have hf : r = false := Bool.eq_false_iff.2 fun hh => hs (by
      obtain ⟨h1, h2, h3, h4, h5, _⟩ := hr.1 hh
      exact ⟨hL.2 h3, h4, by rw [h1], by rw [h2], h5⟩)
    rw [hf]
    exact rsame_short ta na la pa ta' na' la' pa' ts.length ns.length lv.length n tc nc lc pc ts'.length ns'.length lv'.length n' tc' nc' lc' pc' st st' w rL hs kL

end

end Go.Proofs.YthoamlahbnphkaaGreat

/-
  Copy of any grammar: the same in new memory.
-/
namespace Go.Proofs.YthoamlahbnphkaaGreat
open Go.RowKit Go.Maps Go.Shelf

theorem tms_cells_len : ∀ ts : List (ByteArray × Int), (tmsL ts).length = ts.length * 2
  | [] => rfl
  | t :: ts => by
    have := tms_cells_len ts
    simp only [tmsL, List.flatMap_cons, List.length_append, List.length_cons] at this ⊢
    simp [tmL] at this ⊢
    omega

theorem terms_cells {w : World} {ta : Option Addr} {ts : List (ByteArray × Int)} (h : TermsAt w ta ts) : ∀ x, ta = some x → ∀ j u, (tmsL ts)[j]? = some u → w.cell? (x.add j) = some u := by
  intro x hx j u hu
  rcases h with h | ⟨b, off, e, hc⟩
  · rw [h] at hu; simp [tmsL] at hu
  · rw [hx] at e
    simp only [Option.some.injEq] at e
    subst e
    rw [Addr.add_mid]
    have hj : j < ts.length * 2 := by
      have := (List.getElem?_eq_some_iff.1 hu).1
      have e := tms_cells_len ts
      omega
    obtain ⟨h1, h2⟩ := hc (j / 2) (by omega)
    obtain ⟨k1, k2⟩ := tmsL_at ts (j / 2) (by omega)
    have hr : j % 2 = 0 ∨ j % 2 = 1 := by omega
    rcases hr with hr | hr
    · have e : j = j / 2 * 2 := by omega
      rw [e, k1] at hu
      rw [e, h1]
      exact hu
    · have e : j = j / 2 * 2 + 1 := by omega
      rw [e, k2] at hu
      rw [e, ← Nat.add_assoc, h2]
      exact hu
theorem strs_cells {w : World} {na : Option Addr} {ns : List ByteArray} (h : StrsAt w na ns) : ∀ x, na = some x → ∀ j u, (ns.map Value.string)[j]? = some u → w.cell? (x.add j) = some u := by
  intro x hx j u hu
  rcases h with h | ⟨b, off, e, hc⟩
  · rw [h] at hu; simp at hu
  · rw [hx] at e
    simp only [Option.some.injEq] at e
    subst e
    rw [Addr.add_mid]
    have hj : j < ns.length := by have := (List.getElem?_eq_some_iff.1 hu).1; simpa using this
    rw [hc j hj]
    simp [hj] at hu
    simp [List.getD, hj, hu]
theorem tms_one (ts : List (ByteArray × Int)) : ∀ u ∈ tmsL ts, u.oneCell' = true := by
  intro u hu
  simp only [tmsL, List.mem_flatMap] at hu
  obtain ⟨t, _, hu⟩ := hu
  simp [tmL] at hu
  rcases hu with rfl | rfl <;> rfl
theorem strs_one (ns : List ByteArray) : ∀ u ∈ ns.map Value.string, u.oneCell' = true := by
  intro u hu
  obtain ⟨t, _, rfl⟩ := List.mem_map.1 hu
  rfl

/-- A grammar out of its lists. -/
def grOf (ts : List (ByteArray × Int)) (ns : List ByteArray) (lv : List Int) (st : Int) (n : Nat) (L : Nat → Int) (R : Nat → List Int) (V : Nat → Int) : GR := ⟨ts, ns, lv, st, (List.range n).map fun i => ⟨L i, R i, V i⟩⟩
theorem grOf_len (ts : List (ByteArray × Int)) (ns : List ByteArray) (lv : List Int) (st : Int) (n : Nat) (L : Nat → Int) (R : Nat → List Int) (V : Nat → Int) : (grOf ts ns lv st n L R V).prods.length = n := by simp [grOf]
theorem grOf_at (ts : List (ByteArray × Int)) (ns : List ByteArray) (lv : List Int) (st : Int) (n : Nat) (L : Nat → Int) (R : Nat → List Int) (V : Nat → Int) {i : Nat} (hi : i < n) : (grOf ts ns lv st n L R V).prods.getD i ⟨0, [], 0⟩ = ⟨L i, R i, V i⟩ := by simp [grOf, List.getD, hi]

/-- Copied productions, in their own memory. -/
structure CNew (W : World) (B : Nat) (v : Value) (n : Nat) (L : Nat → Int) (R : Nat → List Int) (V : Nat → Int) (rg : Nat → Value) : Prop where
  row : W.ownsRow B 71 3 v n (prodRow n L rg V)
  rights : ∀ i, i < n → W.ownsRow B 3 1 (rg i) (R i).length ((R i).map (Value.int .i64))
theorem keepC {W W' : World} {B : Nat} {v : Value} {n : Nat} {L : Nat → Int} {R : Nat → List Int} {V : Nat → Int} {rg : Nat → Value} (h : CNew W B v n L R V rg) (hg : W.grownBy W' none) : Hid (CNew W' B v n L R V rg) :=
  ⟨h.row.kept hg (by cases hv : v.ownBlock <;> simp), fun i hi => (h.rights i hi).kept hg (by cases hv : (rg i).ownBlock <;> simp)⟩

theorem copy_fin {W W' : World} {B k n : Nat} {ts : List (ByteArray × Int)} {ns : List ByteArray} {lv : List Int} {st : Int} {L : Nat → Int} {R : Nat → List Int} {V : Nat → Int} {vt vn vl vp : Value} {rg : Nat → Value} (hB : B ≤ k)
    (hT : W.ownsRow (k + 1) 88 2 vt ts.length (tmsL ts)) (hN : W.ownsRow (k + 1) 9 1 vn ns.length (ns.map Value.string)) (hL : W.ownsRow (k + 1) 3 1 vl lv.length (lv.map (Value.int .i64))) (hP : CNew W (k + 1) vp n L R V rg) (hst : W.grownBy W' (some k)) :
    GramNew W' B (grOf ts ns lv st n L R V) vt vn vl vp := by
  refine ⟨owns_off hT hst hB, owns_off hN hst hB, owns_off hL hst hB, rg, ?_, fun i hi => ?_⟩
  · rw [grOf_len]
    have e := prodRow_ext (n := n) (L := L) (L' := fun i => ((grOf ts ns lv st n L R V).prods.getD i ⟨0, [], 0⟩).left) (r := rg) (r' := rg) (V := V) (V' := fun i => ((grOf ts ns lv st n L R V).prods.getD i ⟨0, [], 0⟩).level) (fun i hi => by rw [grOf_at _ _ _ _ _ _ _ _ hi]) (fun _ _ => rfl) (fun i hi => by rw [grOf_at _ _ _ _ _ _ _ _ hi])
    rw [← e]
    exact owns_off hP.row hst hB
  · rw [grOf_len] at hi
    rw [grOf_at _ _ _ _ _ _ _ _ hi]
    exact owns_off (hP.rights i hi) hst hB

end Go.Proofs.YthoamlahbnphkaaGreat

/-
  Term, Non and Start of the document's builder.
-/
namespace Go.Proofs.YthoamlahbnphkaaGreat
open Go.RowKit

attribute [local go_sem] Oper.semAt_some

theorem numFrom_at (s : ByteArray) : ∀ (l : List ByteArray) (k m : Nat), k < l.length → (∀ j, j < k → l.getD j ⟨#[]⟩ ≠ s) → l.getD k ⟨#[]⟩ = s → numFrom l s m = k + m
  | [], k, m, hk, _, _ => by simp at hk
  | x :: r, 0, m, _, _, he => by
    have : x = s := by simpa using he
    unfold numFrom
    rw [if_pos (by rw [this])]
    simp
  | x :: r, k + 1, m, hk, h, he => by
    have h0 : x ≠ s := by have := h 0 (by omega); simpa using this
    unfold numFrom
    rw [if_neg (fun e => h0 (bytes_ext e)), numFrom_at s r k (m + 1) (by simpa using hk) (fun j hj => by have := h (j + 1) (by omega); simpa using this) (by simpa using he)]
    omega
theorem numOf_at {l : List ByteArray} {s : ByteArray} {k : Nat} (hk : k < l.length) (h : ∀ j, j < k → l.getD j ⟨#[]⟩ ≠ s) (he : l.getD k ⟨#[]⟩ = s) : numOf l s = k + 1 := by
  unfold numOf; rw [numFrom_at s l k 1 hk h he]
theorem numOf_none {l : List ByteArray} {s : ByteArray} (h : ∀ j, j < l.length → l.getD j ⟨#[]⟩ ≠ s) : numOf l s = 0 := numOf_zero fun hm => by
  obtain ⟨j, hj, e⟩ := List.getElem_of_mem hm
  exact h j hj (by simp [List.getD, hj, e])

theorem numbered_z0 {l : List ByteArray} {s : ByteArray} (h : numOf l s = 0) : numbered false l s = (l.length + 1, 0) := by simp [numbered, h]
theorem numbered_z1 {l : List ByteArray} {s : ByteArray} (h : numOf l s = 0) : numbered true l s = (0, 11) := by simp [numbered, h]
theorem rts_addT (S : BS) (s : ByteArray) : rts (S.addT s) = (rts S) ++ [(s, S.lev (S.terms.length + 1))] := by
  unfold rts BS.addT
  simp only [List.length_append, List.length_cons, List.length_nil, Nat.zero_add, List.range_succ, List.map_append]
  congr 1
  · apply List.map_congr_left
    intro j hj
    have hj' : j < S.terms.length := by simpa using hj
    simp [List.getD, List.getElem?_append_left hj']
  · simp [List.getD]

def BS.startA (S : BS) (h : Int) : Int × BS := if S.isN h then (0, { S with start := h }) else (1, S)
end Go.Proofs.YthoamlahbnphkaaGreat

/-
  Grade of the document's builder.
-/
namespace Go.Proofs.YthoamlahbnphkaaGreat
open Go.RowKit

attribute [local go_sem] Oper.semAt_some

theorem gradeGo_some {l : Int} : ∀ (hs : List Int) (ps : List PR), (∀ h ∈ hs, 0 ≤ h ∧ h < ps.length) → ∃ ps', gradeGo l ps hs = some ps' ∧ ps'.length = ps.length
  | [], ps, _ => ⟨ps, rfl, rfl⟩
  | a :: r, ps, h => by
    have hl : (setLev ps a.toNat l).length = ps.length := by simp [setLev]
    obtain ⟨ps', h1, h2⟩ := gradeGo_some (l := l) r (setLev ps a.toNat l) (fun x hx => by rw [hl]; exact h x (by simp [hx]))
    refine ⟨ps', ?_, by rw [h2, hl]⟩
    unfold gradeGo
    rw [if_pos (h a (by simp))]
    exact h1
theorem gradeGo_none {l : Int} : ∀ (hs : List Int) (ps : List PR), (∃ h ∈ hs, ¬ (0 ≤ h ∧ h < ps.length)) → gradeGo l ps hs = none
  | [], ps, h => by simp at h
  | a :: r, ps, h => by
    unfold gradeGo
    by_cases ha : 0 ≤ a ∧ a < ps.length
    · rw [if_pos ha]
      refine gradeGo_none r _ ?_
      obtain ⟨x, hx, hn⟩ := h
      rcases List.mem_cons.1 hx with e | hx
      · rw [e] at hn; exact absurd ha hn
      · exact ⟨x, hx, by rw [show (setLev ps a.toNat l).length = ps.length by simp [setLev]]; exact hn⟩
    · rw [if_neg ha]

theorem setLev_length (ps : List PR) (i : Nat) (l : Int) : (setLev ps i l).length = ps.length := by simp [setLev]
theorem gradeGo_len {l : Int} {hs : List Int} {ps ps' : List PR} (h : gradeGo l ps hs = some ps') : ps'.length = ps.length := (gradeGo_graded hs ps ps' (Graded.refl l ps) h).1

end Go.Proofs.YthoamlahbnphkaaGreat

/-
  Level of the document's builder.
-/
namespace Go.Proofs.YthoamlahbnphkaaGreat
open Go.RowKit

attribute [local go_sem] Oper.semAt_some

theorem levGo_good {S : BS} {K : Int} (hK : K ≠ 0) : ∀ (l : List Int) (lev lev' : Nat → Int), levGo S K lev l = some lev' → l.Nodup ∧ ∀ h ∈ l, S.isT h = true ∧ lev h.toNat = 0
  | [], _, _, _ => ⟨List.nodup_nil, by simp⟩
  | a :: r, lev, lev', h => by
    unfold levGo at h
    split at h
    · next hc =>
      obtain ⟨h1, h2⟩ := levGo_good hK r _ _ h
      have key : ∀ x ∈ r, x.toNat ≠ a.toNat := fun x hx e => by
        have := (h2 x hx).2
        rw [e] at this
        simp [updL] at this
        exact hK this
      refine ⟨List.nodup_cons.2 ⟨fun ha => key a ha rfl, h1⟩, fun x hx => ?_⟩
      rcases List.mem_cons.1 hx with rfl | hx
      · exact hc
      · have h3 := h2 x hx
        refine ⟨h3.1, ?_⟩
        have h4 := h3.2
        simp [updL, key x hx] at h4
        exact h4
    · cases h
theorem levGo_full {S : BS} {K : Int} : ∀ (l : List Int) (lev : Nat → Int), l.Nodup → (∀ h ∈ l, S.isT h = true ∧ lev h.toNat = 0) → levGo S K lev l = some fun j : Nat => if (j : Int) ∈ l then K else lev j
  | [], lev, _, _ => by simp [levGo]
  | a :: r, lev, hn, h => by
    rw [List.nodup_cons] at hn
    obtain ⟨h1, h2⟩ := h a (by simp)
    have ha := isT_iff.1 h1
    unfold levGo
    rw [if_pos ⟨h1, h2⟩, levGo_full r _ hn.2 (fun x hx => by
      obtain ⟨q1, q2⟩ := h x (by simp [hx])
      have hx' := isT_iff.1 q1
      refine ⟨q1, ?_⟩
      have hne : x.toNat ≠ a.toNat := fun e => hn.1 (by have : x = a := by omega
                                                        rw [← this]; exact hx)
      simp [updL, hne, q2])]
    congr 1
    funext j
    by_cases hj : (j : Int) ∈ r
    · simp [hj]
    · by_cases ej : (j : Int) = a
      · have : j = a.toNat := by omega
        rw [if_neg hj, if_pos (by simp [ej])]
        simp [updL, this]
      · have : j ≠ a.toNat := by omega
        rw [if_neg hj, if_neg (by simp [ej, hj])]
        simp [updL, this]

/-- A list's places: what Level asks of each. -/
def levAsk (S : BS) (hs : List Int) (j : Nat) : Prop := S.isT (hs.getD j 0) = true ∧ S.lev (hs.getD j 0).toNat = 0 ∧ ∀ m, m < j → hs.getD m 0 ≠ hs.getD j 0
theorem getD_mem_int {l : List Int} {k : Nat} (h : k < l.length) : l.getD k 0 ∈ l := by
  have : l.getD k 0 = l[k] := by simp [List.getD, h]
  rw [this]; exact List.getElem_mem _
theorem nodup_int (l : List Int) : l.Nodup ↔ ∀ i k, k < i → i < l.length → l.getD k 0 ≠ l.getD i 0 := by
  rw [List.nodup_iff_pairwise_ne, List.pairwise_iff_getElem]
  constructor
  · intro h i k hk hi
    have := h k i (by omega) hi hk
    simpa [List.getD, hi, show k < l.length by omega] using this
  · intro h i j hi hj hij
    have := h j i hij hj
    simpa [List.getD, hi, hj] using this
theorem levGo_ask {S : BS} {K : Int} (hK : K ≠ 0) (hs : List Int) : (∀ j, j < hs.length → levAsk S hs j) ↔ ∃ lev', levGo S K S.lev hs = some lev' := by
  constructor
  · intro h
    exact ⟨_, levGo_full hs S.lev ((nodup_int hs).2 fun i k hk hi => (h i hi).2.2 k hk) (fun x hx => by
      obtain ⟨j, hj, e⟩ := List.getElem_of_mem hx
      have := h j hj
      rw [← e, show hs[j] = hs.getD j 0 by simp [List.getD, hj]]
      exact ⟨this.1, this.2.1⟩)⟩
  · rintro ⟨lev', h⟩ j hj
    obtain ⟨h1, h2⟩ := levGo_good hK hs _ _ h
    exact ⟨(h2 _ (getD_mem_int hj)).1, (h2 _ (getD_mem_int hj)).2, fun m hm => (nodup_int hs).1 h1 j m hm hj⟩

/-- The levels, told of the first k. -/
def levTold (S : BS) (K : Int) (hs : List Int) (k : Nat) : Nat → Int := fun j => if (j : Int) ∈ hs.take k then K else S.lev j
def BS.tolds (S : BS) (side K : Int) (hs : List Int) (k : Nat) : BS := { S with lev := levTold S K hs k, sides := S.sides ++ [side] }
theorem tolds_zero (S : BS) (side K : Int) (hs : List Int) : S.tolds side K hs 0 = { S with sides := S.sides ++ [side] } := by
  unfold BS.tolds
  have : levTold S K hs 0 = S.lev := by funext j; simp [levTold]
  rw [this]
theorem levTold_succ {S : BS} {K : Int} {hs : List Int} {k : Nat} (hk : k < hs.length) (hp : 0 ≤ hs.getD k 0) : levTold S K hs (k + 1) = updL (levTold S K hs k) (hs.getD k 0).toNat K := by
  funext j
  unfold levTold updL
  rw [take_succ_at hk]
  generalize hs.getD k 0 = h at *
  generalize hs.take k = l at *
  by_cases e : j = h.toNat
  · rw [if_pos e, if_pos (List.mem_append.2 (.inr (List.mem_singleton.2 (by omega))))]
  · have he : ¬ (j : Int) = h := fun x => e (by omega)
    rw [if_neg e]
    show _ = (if (j : Int) ∈ l then K else S.lev j)
    by_cases hm : (j : Int) ∈ l
    · rw [if_pos (List.mem_append.2 (.inl hm)), if_pos hm]
    · rw [if_neg hm, if_neg (fun x => by
        rcases List.mem_append.1 x with x | x
        · exact hm x
        · exact he (List.mem_singleton.1 x))]
theorem level_done {S : BS} {side : Int} {hs : List Int} (hs1 : 1 ≤ side ∧ side ≤ 3) (hne : hs ≠ []) (h : ∀ j, j < hs.length → levAsk S hs j) : S.level side hs = ((S.sides.length : Int) + 1, 0, S.tolds side ((S.sides.length : Int) + 1) hs hs.length) := by
  unfold BS.level
  rw [if_pos ⟨hs1, hne⟩, levGo_full hs S.lev ((nodup_int hs).2 fun i k hk hi => (h i hi).2.2 k hk) (fun x hx => by
      obtain ⟨j, hj, e⟩ := List.getElem_of_mem hx
      have := h j hj
      rw [← e, show hs[j] = hs.getD j 0 by simp [List.getD, hj]]
      exact ⟨this.1, this.2.1⟩)]
  simp only
  unfold BS.addL BS.tolds levTold
  rw [List.take_length]
theorem level_not {S : BS} {side : Int} {hs : List Int} (h : ¬ ∀ j, j < hs.length → levAsk S hs j) : S.level side hs = (0, 1, S) := by
  unfold BS.level
  split
  · have : levGo S ((S.sides.length : Int) + 1) S.lev hs = none := by
      cases e : levGo S ((S.sides.length : Int) + 1) S.lev hs with
      | none => rfl
      | some lev' => exact absurd ((levGo_ask (by omega) hs).2 ⟨lev', e⟩) h
    rw [this]
  · rfl

theorem tmsL_set : ∀ (ts : List (ByteArray × Int)) (i : Nat) (K : Int), (tmsL ts).set (i * 2 + 1) (.int .i64 K) = tmsL (ts.set i ((ts.getD i (⟨#[]⟩, 0)).1, K))
  | [], i, K => by simp [tmsL]
  | t :: ts, 0, K => by simp [tmsL, tmL]
  | t :: ts, i + 1, K => by
    have ih := tmsL_set ts i K
    have e : tmsL (t :: ts) = tmL t.1 t.2 ++ tmsL ts := by simp [tmsL]
    have e2 : tmsL ((t :: ts).set (i + 1) (((t :: ts).getD (i + 1) (⟨#[]⟩, 0)).1, K)) = tmL t.1 t.2 ++ tmsL (ts.set i ((ts.getD i (⟨#[]⟩, 0)).1, K)) := by simp [tmsL]
    rw [e, e2, ← ih, List.set_append_right _ _ (by simp [tmL]; omega), show (i + 1) * 2 + 1 - (tmL t.1 t.2).length = i * 2 + 1 by simp [tmL]; omega]
theorem rts_upd (S : BS) (i : Nat) (K : Int) (hi : i < S.terms.length) : (rts S).set i (((rts S).getD i (⟨#[]⟩, 0)).1, K) = rts { S with lev := updL S.lev (i + 1) K } := by
  apply List.ext_getElem
  · simp [rts]
  · intro j h1 h2
    rw [List.getElem_set]
    by_cases e : i = j
    · subst e
      rw [if_pos rfl, rts_at S hi]
      simp [rts, updL]
    · rw [if_neg e]
      simp [rts, updL, show ¬ j = i from fun x => e x.symm]

end Go.Proofs.YthoamlahbnphkaaGreat

/-
  Rule of the document's builder.
-/
namespace Go.Proofs.YthoamlahbnphkaaGreat
open Go.RowKit Go.Maps Go.Shelf

attribute [local go_sem] Oper.semAt_some

theorem good_iff {S : BS} {l : List Int} : S.good l = true ↔ ∀ j, j < l.length → (S.isT (l.getD j 0) || S.isN (l.getD j 0)) = true := by
  unfold BS.good
  rw [List.all_eq_true]
  constructor
  · intro h j hj
    exact h _ (getD_mem_int hj)
  · intro h x hx
    obtain ⟨j, hj, e⟩ := List.getElem_of_mem hx
    have := h j hj
    rwa [show l.getD j 0 = x by simp [List.getD, hj, e]] at this

end Go.Proofs.YthoamlahbnphkaaGreat

/-
  Rule of the document's builder, walked.
-/
namespace Go.Proofs.YthoamlahbnphkaaGreat
open Go.RowKit Go.Maps Go.Shelf

attribute [local go_sem] Oper.semAt_some

end Go.Proofs.YthoamlahbnphkaaGreat
