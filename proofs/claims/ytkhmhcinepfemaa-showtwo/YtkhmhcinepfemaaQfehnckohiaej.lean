import Derived.Test.YtkhmhcinepfemaaQdkahmhalhpmh

/-
  The document's Row.
-/
namespace Go.Proofs.Ytkhmhcinepfemaa
open Go.RowKit Go.Maps Go.Shelf

attribute [local go_sem] Oper.semAt_some

theorem symsT_len1000 {ts : List (ByteArray × Int)} {ns : List ByteArray} (h : ∀ k : Nat, k < ts.length + ns.length → (symT ts ns k).length ≤ 1000) : ∀ (inl : Bool) (l : List Int), (∀ z ∈ l, 0 ≤ z ∧ z < (ts.length : Int) + ns.length) → (symsT ts ns inl l).length ≤ l.length * 1001
  | _, [], _ => by simp [symsT]
  | inl, z :: r, hl => by
    have h1 := symsT_len1000 h true r (fun y hy => hl y (List.mem_cons_of_mem _ hy))
    have hz := hl z (List.mem_cons_self ..)
    have h2 := h z.toNat (by omega)
    have h3 := sp_le inl
    simp only [symsT, List.length_append, List.length_cons]
    omega

set_option maxRecDepth 100000 in
set_option maxHeartbeats 4000000 in
theorem rRow_any (ta na la pa : Option Addr) (tn nn ln n tc nc lc pc : Nat) (st : Int) (ts : List (ByteArray × Int)) (ns : List ByteArray) (w : World) (htn : ts.length = tn) (hnn : ns.length = nn) (r : Bool) (hE : ∀ Y, w.grownBy Y none → Calls Try.prog 22 #[.agg #[.slice ta tn tc, .slice na nn nc, .slice la ln lc, .int .i64 st, .slice pa n pc]] Y fun e w' => e = .returned (.bool r) ∧ Y.grownBy w' none)
    (hS : r = true → ∀ k : Nat, k < tn + nn → ∀ Y, w.grownBy Y none → Calls Try.prog 32 #[.agg #[.slice ta tn tc, .slice na nn nc, .slice la ln lc, .int .i64 st, .slice pa n pc], .int .i64 k] Y fun e w' => e = .returned (.string (strOf (symT ts ns k))) ∧ Y.grownBy w' none) (hl : r = true → ∀ k : Nat, k < tn + nn → (symT ts ns k).length ≤ 1000) (ht : tn ≤ 17592186044416) (hn : nn ≤ 17592186044416)
    (sa : Option Addr) (m cap : Nat) (l : List Int) (hm : l.length = m) (hI : IntsAt w sa l) (hmm : m ≤ 1048576) (q : Bool) (hq : q = true ↔ ∀ i, i < m → 0 ≤ l.getD i 0 ∧ l.getD i 0 < (tn : Int) + nn) :
    Calls Try.prog 14 #[.agg #[.slice ta tn tc, .slice na nn nc, .slice la ln lc, .int .i64 st, .slice pa n pc], .slice sa m cap] w fun e w' => e = .returned (.tuple #[.string (if r && q then strOf (symsT ts ns false l) else ⟨#[]⟩), .int .i64 (if r && q then 0 else 1)]) ∧ w.grownBy w' none := by
  have HX0 : Hid (PhAt w (w.alloc (.cells #[.slice ta tn tc, .slice na nn nc, .slice la ln lc, .int .i64 st, .slice pa n pc] 27)) w.heap.size #[.slice ta tn tc, .slice na nn nc, .slice la ln lc, .int .i64 st, .slice pa n pc]) := ⟨World.grownBy_alloc _ _ none, heap_alloc_last w _⟩
  have HE : Hid (∀ Y, w.grownBy Y none → Calls Try.prog 22 #[.agg #[.slice ta tn tc, .slice na nn nc, .slice la ln lc, .int .i64 st, .slice pa n pc]] Y fun e w' => e = .returned (.bool r) ∧ Y.grownBy w' none) := hE
  have HS : Hid (r = true → ∀ k : Nat, k < tn + nn → ∀ Y, w.grownBy Y none → Calls Try.prog 32 #[.agg #[.slice ta tn tc, .slice na nn nc, .slice la ln lc, .int .i64 st, .slice pa n pc], .int .i64 k] Y fun e w' => e = .returned (.string (strOf (symT ts ns k))) ∧ Y.grownBy w' none) := hS
  have HL : Hid (r = true → ∀ k : Nat, k < tn + nn → (symT ts ns k).length ≤ 1000) := hl
  have HI : Hid (IntsAt w sa l) := hI
  have HM : Hid (l.length = m) := hm
  have HQ : Hid (q = true ↔ ∀ i, i < m → 0 ≤ l.getD i 0 ∧ l.getD i 0 < (tn : Int) + nn) := hq
  have HTN : Hid (ts.length = tn ∧ ns.length = nn) := ⟨htn, hnn⟩
  have hwr : IntKind.i64.wrap ((tn : Int) + (nn : Int)) = (tn : Int) + nn := by simp [IntKind.wrap, IntKind.signed, IntKind.bits]; omega
  clear hE hS hl hI hm hq htn hnn
  cases r with
  | false =>
    go_enter Try.func14, Try.ntmps14
    go_wp2_with fail
    refine Calls.mono (HE.out _ HX0.out.grown) ?_
    rintro e w1 ⟨rfl, hg1⟩
    have HG1 : Hid (w.grownBy w1 none) := grown_trans HX0.out.grown hg1
    clear hg1 HX0
    go_wp2_with fail
    go_ret2
    exact ⟨rfl, HG1.out⟩
  | true =>
    have HS1 : Hid (∀ k : Nat, k < tn + nn → ∀ Y, w.grownBy Y none → Calls Try.prog 32 #[.agg #[.slice ta tn tc, .slice na nn nc, .slice la ln lc, .int .i64 st, .slice pa n pc], .int .i64 k] Y fun e w' => e = .returned (.string (strOf (symT ts ns k))) ∧ Y.grownBy w' none) := HS.out rfl
    have HL1 : Hid (∀ k : Nat, k < tn + nn → (symT ts ns k).length ≤ 1000) := HL.out rfl
    clear HS HL
    go_enter Try.func14, Try.ntmps14
    go_wp2_with fail
    refine Calls.mono (HE.out _ HX0.out.grown) ?_
    rintro e w1 ⟨rfl, hg1⟩
    have HX1 : Hid (PhAt w w1 w.heap.size #[.slice ta tn tc, .slice na nn nc, .slice la ln lc, .int .i64 st, .slice pa n pc]) := HX0.out.kept hg1
    clear hg1 HX0
    go_wp2_with fail
    go_loopg [6] m (fun gk i wr => ∃ k : Nat, k ≤ m ∧ gk = m - k ∧ i = .int .i64 k ∧ PhAt w wr w.heap.size #[.slice ta tn tc, .slice na nn nc, .slice la ln lc, .int .i64 st, .slice pa n pc] ∧ ∀ j, j < k → 0 ≤ l.getD j 0 ∧ l.getD j 0 < (tn : Int) + nn)
    case atStart => exact ⟨0, Nat.zero_le _, rfl, rfl, HX1.out, fun j hj => absurd hj (Nat.not_lt_zero _)⟩
    case round =>
      obtain ⟨k, hk, hgk, rfl, hX, hall⟩ := hrel
      have HX : Hid (PhAt w wr w.heap.size #[.slice ta tn tc, .slice na nn nc, .slice la ln lc, .int .i64 st, .slice pa n pc]) := hX
      have HA : Hid (∀ j, j < k → 0 ≤ l.getD j 0 ∧ l.getD j 0 < (tn : Int) + nn) := hall
      have HGK : Hid (gk = m - k) := hgk
      obtain ⟨k0, k1, k2, k3, k4⟩ := hX.cells
      clear hX hall hgk HX1
      by_cases hlt : k < m
      · obtain ⟨sb, so, rfl, hc⟩ : ∃ sb so, sa = some ⟨sb, so, none⟩ ∧ ∀ i, i < l.length → w.cell? ⟨sb, so + i, none⟩ = some (.int .i64 (l.getD i 0)) := by
          rcases HI.out with h | h
          · have h9 := HM.out; rw [h] at h9; simp at h9; omega
          · exact h
        have c0 := HX.out.grown.cell (hc k (by rw [HM.out]; exact hlt)) (by simp)
        obtain ⟨z, hz⟩ : ∃ z, z = l.getD k 0 := ⟨_, rfl⟩
        rw [← hz] at c0
        have HZ : Hid (z = l.getD k 0) := hz
        have hk0 : (0 : Int) ≤ (k : Int) := by omega
        have hk1 : (k : Int) < (m : Int) := by omega
        clear hc hz
        by_cases h1 : z < 0
        · have d1 : decide (z < 0) = true := decide_eq_true h1
          have hf : q = false := Bool.eq_false_iff.2 fun hh => by have := (HQ.out.1 hh k hlt).1; rw [← HZ.out] at this; omega
          subst hf
          go_wp2_with fail
          go_quiet (fail)
          go_wp2_with fail
          go_ret2
          exact ⟨rfl, grown_trans HX.out.grown (grown_drewN _ _)⟩
        · have d1 : decide (z < 0) = false := decide_eq_false h1
          by_cases h2 : (tn : Int) + nn ≤ z
          · have d2 : decide ((tn : Int) + nn ≤ z) = true := decide_eq_true h2
            have hf : q = false := Bool.eq_false_iff.2 fun hh => by have := (HQ.out.1 hh k hlt).2; rw [← HZ.out] at this; omega
            subst hf
            go_wp2_with fail
            go_quiet (fail)
            go_wp2_with fail
            go_ret2
            exact ⟨rfl, grown_trans HX.out.grown (grown_drewN _ _)⟩
          · have d2 : decide ((tn : Int) + nn ≤ z) = false := decide_eq_false h2
            have HA2 : Hid (∀ j, j < k + 1 → 0 ≤ l.getD j 0 ∧ l.getD j 0 < (tn : Int) + nn) := fun j hj => by
              by_cases e : j = k
              · rw [e, ← HZ.out]; omega
              · exact HA.out j (by omega)
            go_wp2_with fail
            go_quiet (fail)
            go_wp2_with fail
            go_roundg (m - (k + 1))
            case measure => have := HGK.out; omega
            case rel => exact ⟨k + 1, by omega, rfl, by go_num, HX.out.kept (grown_drewN _ _), HA2.out⟩
      · obtain rfl : m = k := by omega
        have hqt : q = true := HQ.out.2 HA.out
        subst hqt
        generalize wr = XR at *
        have HIX : Hid (IntsAt XR sa l) := HI.out.kept HX.out.grown
        have HKP : Hid (∀ Y, XR.grownBy Y none → Y.cell? ⟨w.heap.size, 0, none⟩ = some (.slice ta tn tc) ∧ Y.cell? ⟨w.heap.size, 1, none⟩ = some (.slice na nn nc) ∧ Y.cell? ⟨w.heap.size, 2, none⟩ = some (.slice la ln lc) ∧ Y.cell? ⟨w.heap.size, 3, none⟩ = some (.int .i64 st) ∧ Y.cell? ⟨w.heap.size, 4, none⟩ = some (.slice pa n pc)) := fun Y hY => (HX.out.kept hY).cells
        have HLB0 : Hid (∀ j, (symsT ts ns false (l.take j)).length ≤ 1048576 * 1001) := fun j => by
          have h1 := symsT_len1000 (ts := ts) (ns := ns) (by rw [HTN.out.1, HTN.out.2]; exact HL1.out) false (l.take j) (fun z hz => by
            obtain ⟨i, hi, rfl⟩ := List.getElem_of_mem (List.mem_of_mem_take hz)
            have := HA.out i (by rw [← HM.out]; exact hi)
            rw [HTN.out.1, HTN.out.2]
            simpa [List.getD, hi] using this)
          have h2 : (l.take j).length ≤ l.length := by rw [List.length_take]; omega
          rw [HM.out] at h2
          have h3 : (l.take j).length * 1001 ≤ 1048576 * 1001 := Nat.mul_le_mul_right _ (by omega)
          omega
        obtain ⟨i0, hi, hz0, hz1, hz2⟩ := info_parts infoByte
        clear k0 k1 k2 k3 k4
        go_wp2_with fail
        go_loopg [7, 8] m (fun gk v7 i wr => ∃ j : Nat, j ≤ m ∧ gk = m - j ∧ i = .int .i64 j ∧ wr.ownsRow XR.heap.size 5 1 v7 (symsT ts ns false (l.take j)).length (Lib.byteCells (symsT ts ns false (l.take j))) ∧ XR.grownBy wr none)
        case atStart => exact ⟨0, Nat.zero_le _, rfl, rfl, by simp only [List.take_zero, symsT]; exact World.ownsRow_nil _ _ _ _, grown_refl _ _⟩
        case round =>
          obtain ⟨j, hj, hgj, rfl, hB, hG⟩ := hrel
          have HGJ : Hid (gk = m - j) := hgj
          have HB : Hid (wr.ownsRow XR.heap.size 5 1 u7 (symsT ts ns false (l.take j)).length (Lib.byteCells (symsT ts ns false (l.take j)))) := hB
          have HG : Hid (XR.grownBy wr none) := hG
          clear hgj hB hG
          by_cases hlt2 : j < m
          · obtain ⟨sb, so, rfl, hc⟩ : ∃ sb so, sa = some ⟨sb, so, none⟩ ∧ ∀ i, i < l.length → XR.cell? ⟨sb, so + i, none⟩ = some (.int .i64 (l.getD i 0)) := by
              rcases HIX.out with h | h
              · have h9 := HM.out; rw [h] at h9; simp at h9; omega
              · exact h
            have c0 := hc j (by rw [HM.out]; exact hlt2)
            have hok := HA.out j hlt2
            obtain ⟨y, hy⟩ : ∃ y : Nat, l.getD j 0 = (y : Int) := ⟨(l.getD j 0).toNat, by omega⟩
            rw [hy] at c0 hok
            have hyn : y < tn + nn := by omega
            obtain ⟨sy, hsy⟩ : ∃ sy, sy = strOf (symT ts ns y) := ⟨_, rfl⟩
            have HSY : Hid (sy = strOf (symT ts ns y)) := hsy
            have HCY : Hid (∀ Y, XR.grownBy Y none → Calls Try.prog 32 #[.agg #[.slice ta tn tc, .slice na nn nc, .slice la ln lc, .int .i64 st, .slice pa n pc], .int .i64 (y : Int)] Y fun e w' => e = .returned (.string sy) ∧ Y.grownBy w' none) := fun Y hY => by rw [hsy]; exact HS1.out y hyn Y (grown_trans HX.out.grown hY)
            have HKS : Hid (∀ Y, XR.grownBy Y none → Y.cell? ⟨w.heap.size, 0, none⟩ = some (.slice ta tn tc) ∧ Y.cell? ⟨w.heap.size, 1, none⟩ = some (.slice na nn nc) ∧ Y.cell? ⟨w.heap.size, 2, none⟩ = some (.slice la ln lc) ∧ Y.cell? ⟨w.heap.size, 3, none⟩ = some (.int .i64 st) ∧ Y.cell? ⟨w.heap.size, 4, none⟩ = some (.slice pa n pc) ∧ Y.cell? ⟨sb, so + j, none⟩ = some (.int .i64 (y : Int))) := fun Y hY => by
              obtain ⟨q0, q1, q2, q3, q4⟩ := HKP.out Y hY
              exact ⟨q0, q1, q2, q3, q4, hY.cell c0 (by simp)⟩
            have hj1 : (j : Int) < (m : Int) := by omega
            have hsl := HL1.out y hyn
            by_cases hj0 : 0 < j
            · have hj0i : (0 : Int) < (j : Int) := by omega
              have HLB : Hid ((symsT ts ns false (l.take j) ++ [32]).length + (symT ts ns y).length ≤ 140737488355328) := by
                show _ ≤ _
                have h1 := HLB0.out j
                simp only [List.length_append, List.length_cons, List.length_nil]
                omega
              have HLA : Hid ((symsT ts ns false (l.take j)).length ≤ 1048576 * 1001) := HLB0.out j
              have HNX : Hid (symsT ts ns false (l.take (j + 1)) = symsT ts ns false (l.take j) ++ [32] ++ symT ts ns y) := by
                show _ = _
                rw [take_succ_getD (by rw [HM.out]; exact hlt2), symsT_append, hy]
                have : (l.take j).isEmpty = false := by
                  cases h : l.take j with
                  | nil =>
                    have h2 : (l.take j).length = 0 := by rw [h]; rfl
                    rw [List.length_take, HM.out] at h2
                    omega
                  | cons a b => rfl
                simp [symsT, this, sp]
              clear hc hy hsy hok c0 hyn hsl
              go_wp2_with (at_builtin; refine wpList_append_src rfl (.tmp 45) (.tmp 46) 51 rfl XR.heap.size 5 i0 (.int .u8 0) 1 1 Try.underlying51 hi hz0 hz1 hz2 rfl (by decide) u7 (symsT ts ns false (l.take j)).length (Lib.byteCells (symsT ts ns false (l.take j))) rfl (keep0 HB.out (World.grownBy_alloc _ _ none)) (some ⟨wr.heap.size, 0, none⟩) 1 1 [.int .u8 32] rfl (fun h => by cases h) rfl (fun ad e => by cases e; exact news_new wr _ _) (by simp [Value.oneCell']) (by have := HLA.out; unfold maxLen; omega) (by have := HLA.out; omega) (by simp; have := HG.out.size; omega) ?_; intro v2 w2 hB2 hg2; have HB2 : Hid (w2.ownsRow XR.heap.size 5 1 v2 (symsT ts ns false (l.take j) ++ [32]).length (Lib.byteCells (symsT ts ns false (l.take j) ++ [32]))) := (by rw [List.length_append, byteCells_app]; exact hB2); have HG2 : Hid (XR.grownBy w2 none) := grown_row (grown_trans HG.out (World.grownBy_alloc _ _ none)) (keep0 HB.out (World.grownBy_alloc _ _ none)) (Nat.le_refl _) hg2; clear hB2 hg2)
              have hk0 : (0 : Int) ≤ (j : Int) := by omega
              have HGc : Hid (XR.grownBy w2.drew none) := grown_trans HG2.out (grown_drewN _ 1)
              have HBc : Hid (w2.drew.ownsRow XR.heap.size 5 1 v2 (symsT ts ns false (l.take j) ++ [32]).length (Lib.byteCells (symsT ts ns false (l.take j) ++ [32]))) := keep0 HB2.out (grown_drewN _ 1)
              go_region_held3 (fun w' => w'.cell? ⟨w.heap.size, 0, none⟩ = some (.slice ta tn tc) ∧ w'.cell? ⟨w.heap.size, 1, none⟩ = some (.slice na nn nc) ∧ w'.cell? ⟨w.heap.size, 2, none⟩ = some (.slice la ln lc) ∧ w'.cell? ⟨w.heap.size, 3, none⟩ = some (.int .i64 st) ∧ w'.cell? ⟨w.heap.size, 4, none⟩ = some (.slice pa n pc) ∧ w'.cell? ⟨sb, so + j, none⟩ = some (.int .i64 (y : Int))) (first | exact HKS.out _ HGc.out | go_keep)
                ((first
                  | (go_at_call 32; refine Calls.mono (HCY.out _ HGc.out) ?_; rintro e w5 ⟨rfl, hg5⟩; have HBc : Hid (w5.ownsRow XR.heap.size 5 1 v2 (symsT ts ns false (l.take j) ++ [32]).length (Lib.byteCells (symsT ts ns false (l.take j) ++ [32]))) := keep0 HBc.out hg5; have HGc : Hid (XR.grownBy w5 none) := grown_trans HGc.out hg5)
                  | (refine step_append_S rfl (.tmp 48) (.tmp 54) rfl XR.heap.size v2 (symsT ts ns false (l.take j) ++ [32]) (symT ts ns y) sy HSY.out (by simp [Act.eval]) (by simp [Act.eval]) HBc.out HLB.out HGc.out.size ?_; intro v6 w6 hB6 hg6; have HG6 : Hid (XR.grownBy w6 none) := grown_row HGc.out HBc.out (Nat.le_refl _) hg6; have HB6 : Hid (w6.ownsRow XR.heap.size 5 1 v6 (symsT ts ns false (l.take j) ++ [32] ++ symT ts ns y).length (Lib.byteCells (symsT ts ns false (l.take j) ++ [32] ++ symT ts ns y))) := hB6; have HGc : Hid (XR.grownBy w6 none) := HG6.out)))
              go_wp2_with fail
              go_roundg (m - (j + 1))
              case measure => have := HGJ.out; omega
              case rel => exact ⟨j + 1, by omega, rfl, by go_num, by rw [HNX.out]; exact HB6.out, HG6.out⟩
            · obtain rfl : j = 0 := by omega
              have HKS0 : Hid (∀ Y, XR.grownBy Y none → Y.cell? ⟨w.heap.size, 0, none⟩ = some (.slice ta tn tc) ∧ Y.cell? ⟨w.heap.size, 1, none⟩ = some (.slice na nn nc) ∧ Y.cell? ⟨w.heap.size, 2, none⟩ = some (.slice la ln lc) ∧ Y.cell? ⟨w.heap.size, 3, none⟩ = some (.int .i64 st) ∧ Y.cell? ⟨w.heap.size, 4, none⟩ = some (.slice pa n pc) ∧ Y.cell? ⟨sb, so, none⟩ = some (.int .i64 (y : Int))) := HKS.out
              have HLB : Hid ((symsT ts ns false (l.take 0)).length + (symT ts ns y).length ≤ 140737488355328) := by
                show _ ≤ _
                have h1 := HLB0.out 0
                omega
              have HNX : Hid (symsT ts ns false (l.take (0 + 1)) = symsT ts ns false (l.take 0) ++ symT ts ns y) := by
                show _ = _
                rw [take_succ_getD (by rw [HM.out]; exact hlt2), symsT_append, hy]
                simp [symsT, sp]
              clear hc hy hsy hok c0 hyn hsl
              go_wp2_with fail
              have hk0 : (0 : Int) ≤ ((0 : Nat) : Int) := by omega
              have HGc : Hid (XR.grownBy wr.drew none) := grown_trans HG.out (grown_drewN _ 1)
              have HBc : Hid (wr.drew.ownsRow XR.heap.size 5 1 u7 (symsT ts ns false (l.take 0)).length (Lib.byteCells (symsT ts ns false (l.take 0)))) := keep0 HB.out (grown_drewN _ 1)
              go_region_held3 (fun w' => w'.cell? ⟨w.heap.size, 0, none⟩ = some (.slice ta tn tc) ∧ w'.cell? ⟨w.heap.size, 1, none⟩ = some (.slice na nn nc) ∧ w'.cell? ⟨w.heap.size, 2, none⟩ = some (.slice la ln lc) ∧ w'.cell? ⟨w.heap.size, 3, none⟩ = some (.int .i64 st) ∧ w'.cell? ⟨w.heap.size, 4, none⟩ = some (.slice pa n pc) ∧ w'.cell? ⟨sb, so, none⟩ = some (.int .i64 (y : Int))) (first | exact HKS0.out _ HGc.out | go_keep)
                ((first
                  | (go_at_call 32; refine Calls.mono (HCY.out _ HGc.out) ?_; rintro e w5 ⟨rfl, hg5⟩; have HBc : Hid (w5.ownsRow XR.heap.size 5 1 u7 (symsT ts ns false (l.take 0)).length (Lib.byteCells (symsT ts ns false (l.take 0)))) := keep0 HBc.out hg5; have HGc : Hid (XR.grownBy w5 none) := grown_trans HGc.out hg5)
                  | (refine step_append_S rfl (.tmp 48) (.tmp 54) rfl XR.heap.size u7 (symsT ts ns false (l.take 0)) (symT ts ns y) sy HSY.out (by simp [Act.eval]) (by simp [Act.eval]) HBc.out HLB.out HGc.out.size ?_; intro v6 w6 hB6 hg6; have HG6 : Hid (XR.grownBy w6 none) := grown_row HGc.out HBc.out (Nat.le_refl _) hg6; have HB6 : Hid (w6.ownsRow XR.heap.size 5 1 v6 (symsT ts ns false (l.take 0) ++ symT ts ns y).length (Lib.byteCells (symsT ts ns false (l.take 0) ++ symT ts ns y))) := hB6; have HGc : Hid (XR.grownBy w6 none) := HG6.out)))
              go_wp2_with fail
              go_roundg (m - (0 + 1))
              case measure => have := HGJ.out; omega
              case rel => exact ⟨0 + 1, by omega, rfl, by go_num, by rw [HNX.out]; exact HB6.out, HG6.out⟩
          · obtain rfl : m = j := by omega
            have hcs := conv_string (BRowAt.of HB.out)
            go_wp2_with fail
            go_ret2
            refine ⟨?_, grown_trans HX.out.grown HG.out⟩
            rw [List.take_of_length_le (by rw [HM.out]; exact Nat.le_refl _)]
            rfl

end Go.Proofs.Ytkhmhcinepfemaa

/-
  show's example: the text and an item of a small grammar.
-/
namespace Go.Proofs.Ytkhmhcinepfemaa
open Go.RowKit Go.Maps Go.Shelf

attribute [local go_sem] Oper.semAt_some

def awTs : List (ByteArray × Int) := [(⟨#[]⟩, 0), (⟨#[97]⟩, 0)]
def awNs : List ByteArray := [⟨#[83]⟩]
def awR (i : Nat) : List Int := if i = 0 then [2, 1] else []
theorem aw_valid : validOK awTs awNs [] 2 2 (fun _ => 2) awR (fun _ => 0) := by
  refine ⟨⟨by decide, by decide, ⟨[(⟨#[97]⟩, 0)], rfl, ?_, by decide⟩, ⟨?_, by decide⟩, fun j hj => absurd hj (Nat.not_lt_zero j), ?_, rfl, ⟨by decide, by decide⟩⟩, ?_⟩
  · intro t ht
    simp only [List.mem_singleton] at ht
    subst ht
    exact ⟨by rfl, by decide, by decide⟩
  · intro s hs
    simp only [awNs, List.mem_singleton] at hs
    subst hs
    rfl
  · intro i hi
    refine ⟨⟨by decide, by decide⟩, ⟨by decide, by decide⟩, ?_⟩
    intro x hx
    have h2 : i = 0 ∨ i = 1 := by omega
    rcases h2 with rfl | rfl
    · simp only [awR, if_true, List.mem_cons, List.not_mem_nil, or_false] at hx
      rcases hx with rfl | rfl
      · exact .inr ⟨by decide, by decide⟩
      · exact .inl ⟨by decide, by decide⟩
    · simp [awR] at hx
  · intro i hi
    have : (leftsTo (fun _ => 2) 2).length = 1 := by rfl
    omega
theorem aw_text : textT awTs awNs [] 2 2 (fun _ => 2) awR (fun _ => 0) = [37, 116, 111, 107, 101, 110, 32, 39, 97, 39, 32, 59, 10, 37, 115, 116, 97, 114, 116, 32, 83, 32, 59, 10, 83, 32, 58, 32, 83, 32, 39, 97, 39, 32, 59, 10, 83, 32, 58, 32, 59, 10] := by decide
theorem aw_item : itemT awTs awNs 2 (awR 0) 1 = [83, 32, 45, 62, 32, 83, 32, 46, 32, 39, 97, 39] := by decide

def awRa (B : Nat) (i : Nat) : Option Addr := if i = 0 then some ⟨B + 1 + 1, 0, none⟩ else none
def awRc (i : Nat) : Nat := if i = 0 then 2 else 0
theorem aw_rc : ∀ i, i < 2 → (awR i).length ≤ awRc i := by
  intro i hi
  have h2 : i = 0 ∨ i = 1 := by omega
  rcases h2 with rfl | rfl <;> decide
theorem aw_len : ∀ k, k < 2 → (prodT awTs awNs 2 (awR k)).length + 8 ≤ 140737488355328 := by
  intro k hk
  have h2 : k = 0 ∨ k = 1 := by omega
  rcases h2 with rfl | rfl
  · have : (prodT awTs awNs 2 (awR 0)).length = 10 := by decide
    omega
  · have : (prodT awTs awNs 2 (awR 1)).length = 4 := by decide
    omega
theorem aw_gat (w : World) : GAt ((((w.alloc (.cells #[.string ⟨#[]⟩, .int .i64 0, .string ⟨#[97]⟩, .int .i64 0] 60)).alloc (.cells #[.string ⟨#[83]⟩] 9)).alloc (.cells #[.int .i64 2, .int .i64 1] 3)).alloc (.cells #[.int .i64 2, .slice (some ⟨w.heap.size + 1 + 1, 0, none⟩) 2 2, .int .i64 0, .int .i64 2, .slice none 0 0, .int .i64 0] 47)) (some ⟨w.heap.size, 0, none⟩) (some ⟨w.heap.size + 1, 0, none⟩) none (some ⟨w.heap.size + 1 + 1 + 1, 0, none⟩) 2 1 0 2 awTs awNs [] 2 (fun _ => 2) awR (awRa w.heap.size) awRc (fun _ => 0) ∧ w.grownBy ((((w.alloc (.cells #[.string ⟨#[]⟩, .int .i64 0, .string ⟨#[97]⟩, .int .i64 0] 60)).alloc (.cells #[.string ⟨#[83]⟩] 9)).alloc (.cells #[.int .i64 2, .int .i64 1] 3)).alloc (.cells #[.int .i64 2, .slice (some ⟨w.heap.size + 1 + 1, 0, none⟩) 2 2, .int .i64 0, .int .i64 2, .slice none 0 0, .int .i64 0] 47)) none := by
  have g1 := World.grownBy_alloc w (.cells #[.string ⟨#[]⟩, .int .i64 0, .string ⟨#[97]⟩, .int .i64 0] 60) none
  have b1 := heap_alloc_last w (.cells #[.string ⟨#[]⟩, .int .i64 0, .string ⟨#[97]⟩, .int .i64 0] 60)
  have g2 := World.grownBy_alloc (w.alloc (.cells #[.string ⟨#[]⟩, .int .i64 0, .string ⟨#[97]⟩, .int .i64 0] 60)) (.cells #[.string ⟨#[83]⟩] 9) none
  have b2 := heap_alloc_last (w.alloc (.cells #[.string ⟨#[]⟩, .int .i64 0, .string ⟨#[97]⟩, .int .i64 0] 60)) (.cells #[.string ⟨#[83]⟩] 9)
  have g3 := World.grownBy_alloc ((w.alloc (.cells #[.string ⟨#[]⟩, .int .i64 0, .string ⟨#[97]⟩, .int .i64 0] 60)).alloc (.cells #[.string ⟨#[83]⟩] 9)) (.cells #[.int .i64 2, .int .i64 1] 3) none
  have b3 := heap_alloc_last ((w.alloc (.cells #[.string ⟨#[]⟩, .int .i64 0, .string ⟨#[97]⟩, .int .i64 0] 60)).alloc (.cells #[.string ⟨#[83]⟩] 9)) (.cells #[.int .i64 2, .int .i64 1] 3)
  have g4 := World.grownBy_alloc (((w.alloc (.cells #[.string ⟨#[]⟩, .int .i64 0, .string ⟨#[97]⟩, .int .i64 0] 60)).alloc (.cells #[.string ⟨#[83]⟩] 9)).alloc (.cells #[.int .i64 2, .int .i64 1] 3)) (.cells #[.int .i64 2, .slice (some ⟨w.heap.size + 1 + 1, 0, none⟩) 2 2, .int .i64 0, .int .i64 2, .slice none 0 0, .int .i64 0] 47) none
  have b4 := heap_alloc_last (((w.alloc (.cells #[.string ⟨#[]⟩, .int .i64 0, .string ⟨#[97]⟩, .int .i64 0] 60)).alloc (.cells #[.string ⟨#[83]⟩] 9)).alloc (.cells #[.int .i64 2, .int .i64 1] 3)) (.cells #[.int .i64 2, .slice (some ⟨w.heap.size + 1 + 1, 0, none⟩) 2 2, .int .i64 0, .int .i64 2, .slice none 0 0, .int .i64 0] 47)
  rw [World.size_alloc] at b2
  rw [World.size_alloc, World.size_alloc] at b3
  rw [World.size_alloc, World.size_alloc, World.size_alloc] at b4
  have c1 := (g2.block _ (Array.getElem?_eq_some_iff.1 b1).1 (by simp)).trans b1
  have c1 := (g3.block _ (Array.getElem?_eq_some_iff.1 c1).1 (by simp)).trans c1
  have c1 := (g4.block _ (Array.getElem?_eq_some_iff.1 c1).1 (by simp)).trans c1
  have c2 := (g3.block _ (Array.getElem?_eq_some_iff.1 b2).1 (by simp)).trans b2
  have c2 := (g4.block _ (Array.getElem?_eq_some_iff.1 c2).1 (by simp)).trans c2
  have c3 := (g4.block _ (Array.getElem?_eq_some_iff.1 b3).1 (by simp)).trans b3
  refine ⟨⟨.inr ⟨_, 0, rfl, fun i hi => ?_⟩, .inr ⟨_, 0, rfl, fun i hi => ?_⟩, .inl rfl, .inr ⟨_, 0, rfl, fun k hk => ?_⟩, by decide, by decide, by decide, (fun h => by cases h), (fun h => by cases h), by decide, by decide, by decide, by decide⟩, grown_trans g1 (grown_trans g2 (grown_trans g3 g4))⟩
  · have h2 : i = 0 ∨ i = 1 := by simp [awTs] at hi; omega
    rcases h2 with rfl | rfl
    · exact ⟨by rw [cell_of_row _ _ _ _ _ _ c1]; rfl, by rw [cell_of_row _ _ _ _ _ _ c1]; rfl⟩
    · exact ⟨by rw [cell_of_row _ _ _ _ _ _ c1]; rfl, by rw [cell_of_row _ _ _ _ _ _ c1]; rfl⟩
  · have h2 : i = 0 := by simp [awNs] at hi; omega
    subst h2
    rw [cell_of_row _ _ _ _ _ _ c2]
    rfl
  · have h2 : k = 0 ∨ k = 1 := by omega
    rcases h2 with rfl | rfl
    · refine ⟨by rw [cell_of_row _ _ _ _ _ _ b4]; rfl, by rw [cell_of_row _ _ _ _ _ _ b4]; rfl, by rw [cell_of_row _ _ _ _ _ _ b4]; rfl, .inr ⟨w.heap.size + 1 + 1, 0, rfl, fun i hi => ?_⟩, (fun h => by cases h), by decide⟩
      have h2 : i = 0 ∨ i = 1 := by simp [awR] at hi; omega
      rcases h2 with rfl | rfl <;> (rw [cell_of_row _ _ _ _ _ _ c3]; rfl)
    · exact ⟨by rw [cell_of_row _ _ _ _ _ _ b4]; rfl, by rw [cell_of_row _ _ _ _ _ _ b4]; rfl, by rw [cell_of_row _ _ _ _ _ _ b4]; rfl, .inl rfl, fun _ => rfl, by decide⟩

set_option maxRecDepth 100000 in
set_option maxHeartbeats 2000000 in
theorem hawake_any (w : World) : Calls Try.prog 11 #[] w fun e w' => e = .returned (.bool true) ∧ w.grownBy w' none := by
  obtain ⟨hG, hg⟩ := aw_gat w
  obtain ⟨h1, h2⟩ := either_text (.inl aw_valid)
  have HX0 : Hid (PhAt ((((w.alloc (.cells #[.string ⟨#[]⟩, .int .i64 0, .string ⟨#[97]⟩, .int .i64 0] 60)).alloc (.cells #[.string ⟨#[83]⟩] 9)).alloc (.cells #[.int .i64 2, .int .i64 1] 3)).alloc (.cells #[.int .i64 2, .slice (some ⟨w.heap.size + 1 + 1, 0, none⟩) 2 2, .int .i64 0, .int .i64 2, .slice none 0 0, .int .i64 0] 47)) (((((w.alloc (.cells #[.string ⟨#[]⟩, .int .i64 0, .string ⟨#[97]⟩, .int .i64 0] 60)).alloc (.cells #[.string ⟨#[83]⟩] 9)).alloc (.cells #[.int .i64 2, .int .i64 1] 3)).alloc (.cells #[.int .i64 2, .slice (some ⟨w.heap.size + 1 + 1, 0, none⟩) 2 2, .int .i64 0, .int .i64 2, .slice none 0 0, .int .i64 0] 47)).alloc (.cells #[.slice (some ⟨w.heap.size, 0, none⟩) 2 2, .slice (some ⟨w.heap.size + 1, 0, none⟩) 1 1, .slice none 0 0, .int .i64 2, .slice (some ⟨w.heap.size + 1 + 1 + 1, 0, none⟩) 2 2] 27)) (w.heap.size + 1 + 1 + 1 + 1) #[.slice (some ⟨w.heap.size, 0, none⟩) 2 2, .slice (some ⟨w.heap.size + 1, 0, none⟩) 1 1, .slice none 0 0, .int .i64 2, .slice (some ⟨w.heap.size + 1 + 1 + 1, 0, none⟩) 2 2]) := by
    have h9 : PhAt ((((w.alloc (.cells #[.string ⟨#[]⟩, .int .i64 0, .string ⟨#[97]⟩, .int .i64 0] 60)).alloc (.cells #[.string ⟨#[83]⟩] 9)).alloc (.cells #[.int .i64 2, .int .i64 1] 3)).alloc (.cells #[.int .i64 2, .slice (some ⟨w.heap.size + 1 + 1, 0, none⟩) 2 2, .int .i64 0, .int .i64 2, .slice none 0 0, .int .i64 0] 47)) (((((w.alloc (.cells #[.string ⟨#[]⟩, .int .i64 0, .string ⟨#[97]⟩, .int .i64 0] 60)).alloc (.cells #[.string ⟨#[83]⟩] 9)).alloc (.cells #[.int .i64 2, .int .i64 1] 3)).alloc (.cells #[.int .i64 2, .slice (some ⟨w.heap.size + 1 + 1, 0, none⟩) 2 2, .int .i64 0, .int .i64 2, .slice none 0 0, .int .i64 0] 47)).alloc (.cells #[.slice (some ⟨w.heap.size, 0, none⟩) 2 2, .slice (some ⟨w.heap.size + 1, 0, none⟩) 1 1, .slice none 0 0, .int .i64 2, .slice (some ⟨w.heap.size + 1 + 1 + 1, 0, none⟩) 2 2] 27)) _ #[.slice (some ⟨w.heap.size, 0, none⟩) 2 2, .slice (some ⟨w.heap.size + 1, 0, none⟩) 1 1, .slice none 0 0, .int .i64 2, .slice (some ⟨w.heap.size + 1 + 1 + 1, 0, none⟩) 2 2] := ⟨World.grownBy_alloc _ _ none, heap_alloc_last _ _⟩
    rw [World.size_alloc, World.size_alloc, World.size_alloc, World.size_alloc] at h9
    exact h9
  have HT : Hid (∀ Y, ((((w.alloc (.cells #[.string ⟨#[]⟩, .int .i64 0, .string ⟨#[97]⟩, .int .i64 0] 60)).alloc (.cells #[.string ⟨#[83]⟩] 9)).alloc (.cells #[.int .i64 2, .int .i64 1] 3)).alloc (.cells #[.int .i64 2, .slice (some ⟨w.heap.size + 1 + 1, 0, none⟩) 2 2, .int .i64 0, .int .i64 2, .slice none 0 0, .int .i64 0] 47)).grownBy Y none → Calls Try.prog 8 #[.agg #[.slice (some ⟨w.heap.size, 0, none⟩) 2 2, .slice (some ⟨w.heap.size + 1, 0, none⟩) 1 1, .slice none 0 0, .int .i64 2, .slice (some ⟨w.heap.size + 1 + 1 + 1, 0, none⟩) 2 2]] Y fun e w' => e = .returned (.tuple #[.string { data := #[37, 116, 111, 107, 101, 110, 32, 39, 97, 39, 32, 59, 10, 37, 115, 116, 97, 114, 116, 32, 83, 32, 59, 10, 83, 32, 58, 32, 83, 32, 39, 97, 39, 32, 59, 10, 83, 32, 58, 32, 59, 10] }, .int .i64 0]) ∧ Y.grownBy w' none) := fun Y hY => by
    have h9 := text_core _ _ _ _ _ _ _ _ awTs awNs [] 2 (fun _ => 2) awR (awRa w.heap.size) awRc (fun _ => 0) 2 Y 2 1 0 ⟨rfl, rfl, rfl⟩ (hG.kept hY) true ⟨fun _ => .inl aw_valid, fun _ => rfl⟩ (fun _ => h1) (fun _ => h2)
    rw [aw_text] at h9
    exact h9
  have HI : Hid (∀ Y, ((((w.alloc (.cells #[.string ⟨#[]⟩, .int .i64 0, .string ⟨#[97]⟩, .int .i64 0] 60)).alloc (.cells #[.string ⟨#[83]⟩] 9)).alloc (.cells #[.int .i64 2, .int .i64 1] 3)).alloc (.cells #[.int .i64 2, .slice (some ⟨w.heap.size + 1 + 1, 0, none⟩) 2 2, .int .i64 0, .int .i64 2, .slice none 0 0, .int .i64 0] 47)).grownBy Y none → Calls Try.prog 20 #[.agg #[.slice (some ⟨w.heap.size, 0, none⟩) 2 2, .slice (some ⟨w.heap.size + 1, 0, none⟩) 1 1, .slice none 0 0, .int .i64 2, .slice (some ⟨w.heap.size + 1 + 1 + 1, 0, none⟩) 2 2], .agg #[.int .i64 0, .int .i64 1]] Y fun e w' => e = .returned (.tuple #[.string { data := #[83, 32, 45, 62, 32, 83, 32, 46, 32, 39, 97, 39] }, .int .i64 0]) ∧ Y.grownBy w' none) := fun Y hY => by
    have h9 := item_any _ _ _ _ _ _ _ _ awTs awNs [] 2 (fun _ => 2) awR (awRa w.heap.size) awRc (fun _ => 0) 2 Y 2 1 0 ⟨rfl, rfl, rfl⟩ (hG.kept hY) aw_rc true ⟨fun _ => .inl aw_valid, fun _ => rfl⟩ 0 1 (fun _ => aw_len) true (by decide)
    rw [show itemT awTs awNs 2 (awR (Int.toNat 0)) (Int.toNat 1) = [83, 32, 45, 62, 32, 83, 32, 46, 32, 39, 97, 39] from aw_item] at h9
    exact h9
  have HG : Hid (w.grownBy ((((w.alloc (.cells #[.string ⟨#[]⟩, .int .i64 0, .string ⟨#[97]⟩, .int .i64 0] 60)).alloc (.cells #[.string ⟨#[83]⟩] 9)).alloc (.cells #[.int .i64 2, .int .i64 1] 3)).alloc (.cells #[.int .i64 2, .slice (some ⟨w.heap.size + 1 + 1, 0, none⟩) 2 2, .int .i64 0, .int .i64 2, .slice none 0 0, .int .i64 0] 47)) none) := hg
  clear hG hg h1 h2
  go_enter Try.func11, Try.ntmps11
  go_wp2_with fail
  refine Calls.mono (HT.out _ HX0.out.grown) ?_
  rintro e w1 ⟨rfl, hg1⟩
  have HX1 : Hid (PhAt ((((w.alloc (.cells #[.string ⟨#[]⟩, .int .i64 0, .string ⟨#[97]⟩, .int .i64 0] 60)).alloc (.cells #[.string ⟨#[83]⟩] 9)).alloc (.cells #[.int .i64 2, .int .i64 1] 3)).alloc (.cells #[.int .i64 2, .slice (some ⟨w.heap.size + 1 + 1, 0, none⟩) 2 2, .int .i64 0, .int .i64 2, .slice none 0 0, .int .i64 0] 47)) w1 (w.heap.size + 1 + 1 + 1 + 1) #[.slice (some ⟨w.heap.size, 0, none⟩) 2 2, .slice (some ⟨w.heap.size + 1, 0, none⟩) 1 1, .slice none 0 0, .int .i64 2, .slice (some ⟨w.heap.size + 1 + 1 + 1, 0, none⟩) 2 2]) := HX0.out.kept hg1
  clear hg1 HX0
  obtain ⟨k0, k1, k2, k3, k4⟩ := HX1.out.cells
  go_wp2_with fail
  refine Calls.mono (HI.out _ HX1.out.grown) ?_
  rintro e w2 ⟨rfl, hg2⟩
  have HG2 : Hid (w.grownBy w2 none) := grown_trans HG.out (grown_trans HX1.out.grown hg2)
  clear hg2
  go_wp2_with fail
  go_ret
  exact ⟨rfl, HG2.out⟩

end Go.Proofs.Ytkhmhcinepfemaa
