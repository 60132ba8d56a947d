import Derived.Test.YtfcholpleeiddaaGreatQgabgifjlojpb

/-
  trans: automatonOf, where there is an automaton.
-/
namespace Go.Proofs.YtfcholpleeiddaaGreat.J
open Go.RowKit Go.Maps Go.Shelf

attribute [local go_sem] Oper.semAt_some

/-- What automatonOf tells. -/
def OfTold (ta na la pa : Option Addr) (tc nc lc pc : Nat) (n : Nat) (st : Int) (tn nn ln : Nat) (ks : List (List It)) (es : List (List (Nat × Nat))) (w : World) (e : Ending) (y : World) : Prop :=
  ∃ (sa : Option Addr) (sc : Nat) (kv ev : Nat → Value) (lb m : Nat), e = .returned (.tuple #[.agg #[.slice ta tn tc, .slice na nn nc, .slice la ln lc, .int .i64 st, .slice pa n pc, .slice sa ks.length sc, .map (some lb)], .int .i64 0]) ∧ AutP w.heap.size y (.slice sa ks.length sc) ks (elF es) kv ev ∧ LdAt y lb m (leadA es) ∧ w.grownBy y none

section
variable (ta na la pa : Option Addr) (tc nc lc pc : Nat) (n : Nat) (st : Int) (w : World) (tn nn ln : Nat)

set_option maxRecDepth 100000 in
set_option maxHeartbeats 4000000 in
theorem of_ok (ask : Nat) (ks : List (List It)) (es : List (List (Nat × Nat))) (hN256 : ks.length ≤ 256) (hel : es.length = ks.length) (hes : ∀ q, q < ks.length → (es.getD q []).length ≤ 130 ∧ ((es.getD q []).map Prod.fst).Nodup ∧ ∀ x ∈ es.getD q [], x.1 < 130 ∧ x.2 < 256)
    (hBU : ∀ X, w.grownBy X none → Calls Tryz.prog 32 #[.agg #[.slice ta tn tc, .slice na nn nc, .slice la ln lc, .int .i64 st, .slice pa n pc]] X fun e y => ∃ sa sc kv ev, e = .returned (.tuple #[.agg #[.slice sa ks.length sc, .int .i64 (ask : Int), .int .i64 (ks.length : Int)], .int .i64 0]) ∧ AutP w.heap.size y (.slice sa ks.length sc) ks (elF es) kv ev ∧ X.grownBy y none) :
    Calls Tryz.prog 17 #[.agg #[.slice ta tn tc, .slice na nn nc, .slice la ln lc, .int .i64 st, .slice pa n pc]] w fun e y => OfTold ta na la pa tc nc lc pc n st tn nn ln ks es w e y := by
  have HBU := show Hid _ from hBU
  have HES := show Hid _ from hes
  have HEL : Hid (es.length = ks.length) := hel
  have HX0 : Hid (PhAt w ((w.alloc (.cells #[.slice ta tn tc, .slice na nn nc, .slice la ln lc, .int .i64 st, .slice pa n pc] 27)).alloc (.cells #[.slice none 0 0, .slice none 0 0, .slice none 0 0, .int .i64 0, .slice none 0 0, .slice none 0 0, .map none] 56)) w.heap.size #[.slice ta tn tc, .slice na nn nc, .slice la ln lc, .int .i64 st, .slice pa n pc]) := PhAt.kept ⟨World.grownBy_alloc _ _ none, heap_alloc_last w _⟩ (World.grownBy_alloc _ _ none)
  have HB0 : Hid (((w.alloc (.cells #[.slice ta tn tc, .slice na nn nc, .slice la ln lc, .int .i64 st, .slice pa n pc] 27)).alloc (.cells #[.slice none 0 0, .slice none 0 0, .slice none 0 0, .int .i64 0, .slice none 0 0, .slice none 0 0, .map none] 56)).heap[w.heap.size + 1]? = some (.cells #[.slice none 0 0, .slice none 0 0, .slice none 0 0, .int .i64 0, .slice none 0 0, .slice none 0 0, .map none] 56 (0, 0))) := by
    have h := heap_alloc_last (w.alloc (.cells #[.slice ta tn tc, .slice na nn nc, .slice la ln lc, .int .i64 st, .slice pa n pc] 27)) (.cells #[.slice none 0 0, .slice none 0 0, .slice none 0 0, .int .i64 0, .slice none 0 0, .slice none 0 0, .map none] 56)
    rw [World.size_alloc] at h; exact h
  have hmm := @run_makeMap Tryz.prog
  obtain ⟨N, hN⟩ : ∃ n, n = ks.length := ⟨_, rfl⟩
  have HN : Hid (N = ks.length) := hN
  rw [← hN] at hN256 HBU
  clear hBU hes hel hN
  go_enter Tryz.func17, Tryz.ntmps17
  go_wp2_with fail
  refine Calls.mono (HBU.out _ HX0.out.grown) ?_
  rintro e w1 ⟨sa, sc, kv, ev, rfl, hAP, hg1⟩
  obtain ⟨W, hW⟩ : ∃ W, W = w1.alloc (.cells #[.slice sa N sc, .int .i64 (ask : Int), .int .i64 (N : Int)] 49) := ⟨_, rfl⟩
  obtain ⟨ab, hab⟩ : ∃ b, b = w1.heap.size := ⟨_, rfl⟩
  have hgW : w1.grownBy W none := by rw [hW]; exact World.grownBy_alloc _ _ none
  have HXW : Hid (PhAt w W w.heap.size #[.slice ta tn tc, .slice na nn nc, .slice la ln lc, .int .i64 st, .slice pa n pc]) := HX0.out.kept (grown_trans hg1 hgW)
  have HBW : Hid (W.heap[w.heap.size + 1]? = some (.cells #[.slice none 0 0, .slice none 0 0, .slice none 0 0, .int .i64 0, .slice none 0 0, .slice none 0 0, .map none] 56 (0, 0))) := box_kept HB0.out (grown_trans hg1 hgW)
  have HAW : Hid (W.heap[ab]? = some (.cells #[.slice sa N sc, .int .i64 (ask : Int), .int .i64 (N : Int)] 49 (0, 0))) := by rw [hW, hab]; exact heap_alloc_last w1 _
  have HPW : Hid (AutP w.heap.size W (.slice sa N sc) ks (elF es) kv ev) := hAP.kept hgW
  have HWE := show Hid _ from hW
  have HBE := show Hid _ from hab
  clear hg1 hAP HX0 HB0 hgW hW hab
  have y0 : (w1.alloc (.cells #[.slice sa N sc, .int .i64 (ask : Int), .int .i64 (N : Int)] 49)).cell? ⟨w1.heap.size, 0, none⟩ = some (.slice sa N sc) := by rw [← HWE.out, ← HBE.out, cell_of_row _ _ _ _ _ _ HAW.out]; rfl
  have y1 : ∀ o, ((w1.alloc (.cells #[.slice sa N sc, .int .i64 (ask : Int), .int .i64 (N : Int)] 49)).alloc o).cell? ⟨w1.heap.size, 0, none⟩ = some (.slice sa N sc) := fun o => (World.grownBy_alloc _ o none).cell y0 (by simp)
  go_wp2_with fail
  rw [← HWE.out, ← HBE.out]
  clear y0 y1
  obtain ⟨lb, hlb⟩ : ∃ b, b = W.heap.size := ⟨_, rfl⟩
  have HLB : Hid (W.heap.size ≤ lb) := by show _ ≤ _; omega
  have HLE : Hid (lb = ab + 1) := by show _ = _; rw [hlb, HWE.out, World.size_alloc, HBE.out]
  rw [← HLE.out]
  have HL0 : Hid (LdAt (W.alloc (.map #[] 0)) lb 0 (leadT es 0 0)) := by
    rw [leadT_zero, hlb]; exact LdAt.made W
  clear hlb HWE HBE HLE
  go_loopg [24] N (fun gk v24 wr => ∃ i m : Nat, i ≤ N ∧ gk = N - i ∧ v24 = .int .i64 i ∧ m ≤ i * 130 ∧ W.grownBy wr none ∧ LdAt wr lb m (leadT es i 0))
  case atStart => exact ⟨0, 0, Nat.zero_le _, rfl, rfl, Nat.le_refl _, World.grownBy_alloc _ _ none, HL0.out⟩
  case round =>
    obtain ⟨i, m, hi, hgi, rfl, hm, hg, hL⟩ := hrel
    have HGI : Hid (gk = N - i) := hgi
    have HG : Hid (W.grownBy wr none) := hg
    have HL : Hid (LdAt wr lb m (leadT es i 0)) := hL
    clear hgi hg hL HL0
    generalize wr = Z at *
    by_cases hlt : i < N
    · have hid : decide (i < N) = true := decide_eq_true hlt
      have hi0 : (0 : Int) ≤ (i : Int) := by omega
      have hi1 : (i : Int) < (N : Int) := by omega
      have hik : i < ks.length := by rw [← HN.out]; exact hlt
      have hPZ : AutP w.heap.size Z (.slice sa N sc) ks (elF es) kv ev := HPW.out.kept HG.out
      rw [HN.out] at hPZ
      obtain ⟨sb, sc', hsv, hs0, hs1⟩ := hPZ.st hik
      simp only [Value.slice.injEq] at hsv
      obtain ⟨rfl, _, rfl⟩ := hsv
      obtain ⟨ka, kc, hkv, _, _⟩ := hPZ.kerAt hik
      obtain ⟨ea, ec, hev, _⟩ := hPZ.edgAt hik
      have HEA : Hid (∀ Y, W.grownBy Y none → ItsAt Y ea (elF es i)) := fun Y hY => by
        have h := HPW.out.kept hY
        rw [HN.out] at h
        obtain ⟨ea2, ec2, h1, h2⟩ := h.edgAt hik
        rw [hev] at h1
        simp only [Value.slice.injEq] at h1
        rw [h1.1]; exact h2
      rw [hkv] at hs0
      rw [hev] at hs1
      obtain ⟨kl, hkl⟩ : ∃ k, k = (ks.getD i []).length := ⟨_, rfl⟩
      obtain ⟨E, hE⟩ : ∃ E, E = (elF es i).length := ⟨_, rfl⟩
      rw [← hkl] at hs0
      rw [← hE] at hs1
      have HE : Hid (E = (es.getD i []).length) := by show _ = _; rw [hE]; exact elF_len _ _
      have hEb : E ≤ 130 := by rw [HE.out]; exact (HES.out i hik).1
      clear hkl hE hkv hev hPZ
      go_wp2_with fail
      go_loopg [32] E (fun gk v32 wr => ∃ j m' : Nat, j ≤ E ∧ gk = E - j ∧ v32 = .int .i64 j ∧ m' ≤ i * 130 + j ∧ W.grownBy wr none ∧ LdAt wr lb m' (leadT es i j))
      case atStart => exact ⟨0, m, Nat.zero_le _, rfl, rfl, hm, grown_trans HG.out (World.grownBy_alloc _ _ none), HL.out.kept (World.grownBy_alloc _ _ none) (by simp)⟩
      case round =>
        obtain ⟨j, m', hj, hgj, rfl, hm', hg2, hL2⟩ := hrel
        have HGJ : Hid (gk = E - j) := hgj
        have HG2 : Hid (W.grownBy wr none) := hg2
        have HL2 : Hid (LdAt wr lb m' (leadT es i j)) := hL2
        clear hgj hg2 hL2
        by_cases hlj : j < E
        · have hjd : decide (j < E) = true := decide_eq_true hlj
          have hj0 : (0 : Int) ≤ (j : Int) := by omega
          have hj1 : (j : Int) < (E : Int) := by omega
          have hje : j < (es.getD i []).length := by rw [← HE.out]; exact hlj
          obtain ⟨eb, eo, hea, c0, c1⟩ := (HEA.out wr HG2.out).cellAt (i := j) (by rw [elF_len]; exact hje)
          subst hea
          rw [(elF_at hje).2] at c0 c1
          obtain ⟨x, hx⟩ : ∃ x, x = (es.getD i []).getD j (0, 0) := ⟨_, rfl⟩
          have hxb := (HES.out i hik).2.2 x (by
            rw [hx]
            generalize es.getD i [] = l at hje ⊢
            rw [List.getD_eq_getElem?_getD, List.getElem?_eq_getElem hje]; exact List.getElem_mem hje)
          rw [← hx] at c0 c1
          obtain ⟨s, t⟩ := x
          simp only at c0 c1 hxb
          obtain ⟨W', hrun, hld, hgr⟩ := (HL2.out.kept (World.grownBy_alloc wr (.cells #[.int .i64 (s : Int), .int .i64 (t : Int)] 78) none) (by simp)).update (by unfold maxLen; omega) (x := ((i : Int), (s : Int))) ⟨WalkArith.wf_i64 ⟨by omega, by omega⟩, WalkArith.wf_i64 ⟨by omega, by omega⟩⟩ (t : Int)
          rw [leadT_step hje hx.symm (HES.out i hik).2.1] at hld
          have HLD : Hid (LdAt W' lb (m' + 1) (leadT es i (j + 1))) := hld
          have HG3 : Hid (W.grownBy W' none) := grown_new (grown_trans HG2.out (World.grownBy_alloc _ _ none)) hgr HLB.out
          have hrun' : (Instr.mapUpdate 54 (.map (some lb)) (.agg #[.int .i64 (i : Int), .int .i64 (s : Int)]) (.int .i64 (t : Int))).run Tryz.prog (wr.alloc (.cells #[.int .i64 (s : Int), .int .i64 (t : Int)] 78)) = .ok () W' := hrun
          clear hx hld hgr hrun hje hxb
          go_wp2_with fail
          go_roundg (E - (j + 1))
          case measure => have := HGJ.out; omega
          case rel => exact ⟨j + 1, m' + 1, by omega, rfl, by go_num, by omega, HG3.out, HLD.out⟩
        · have hjE : E = j := by omega
          subst hjE
          have hjd : decide (E < E) = false := decide_eq_false (by omega)
          have HL3 : Hid (LdAt wr lb m' (leadT es (i + 1) 0)) := by
            rw [← leadT_row, ← HE.out]; exact HL2.out
          go_wp2_with fail
          go_roundg (N - (i + 1))
          case measure => have := HGI.out; omega
          case rel => exact ⟨i + 1, m', by omega, rfl, by go_num, by omega, HG2.out, HL3.out⟩
    · have hiN : N = i := by omega
      subst hiN
      have hid : decide (N < N) = false := decide_eq_false (by omega)
      have HLA : Hid (LdAt Z lb m (leadA es)) := by
        have h := HL.out
        rw [HN.out, ← HEL.out] at h
        exact h
      have HBZ : Hid (Z.heap[w.heap.size + 1]? = some (.cells #[.slice none 0 0, .slice none 0 0, .slice none 0 0, .int .i64 0, .slice none 0 0, .slice none 0 0, .map none] 56 (0, 0))) := box_kept HBW.out HG.out
      obtain ⟨k0, k1, k2, k3, k4⟩ := (HXW.out.kept HG.out).cells
      have y0 : Z.cell? ⟨ab, 0, none⟩ = some (.slice sa N sc) := by rw [cell_of_row _ _ _ _ _ _ (box_kept HAW.out HG.out)]; rfl
      have hbd : ∀ u, (Instr.build 56 #[(0, .agg #[.slice ta tn tc, .slice na nn nc, .slice la ln lc, .int .i64 st, .slice pa n pc]), (1, .slice sa N sc), (2, .map (some lb))]).run Tryz.prog u = .ok (.agg #[.slice ta tn tc, .slice na nn nc, .slice la ln lc, .int .i64 st, .slice pa n pc, .slice sa N sc, .map (some lb)]) u := fun u => run_build u _ _ _ (by kernel_rfl)
      obtain ⟨q0, q1, q2, q3, q4, q5, q6⟩ : _ ∧ _ ∧ _ ∧ _ ∧ _ ∧ _ ∧ _ := ⟨cell_of_row _ (w.heap.size + 1) 0 _ _ _ HBZ.out, cell_of_row _ (w.heap.size + 1) 1 _ _ _ HBZ.out, cell_of_row _ (w.heap.size + 1) 2 _ _ _ HBZ.out, cell_of_row _ (w.heap.size + 1) 3 _ _ _ HBZ.out, cell_of_row _ (w.heap.size + 1) 4 _ _ _ HBZ.out, cell_of_row _ (w.heap.size + 1) 5 _ _ _ HBZ.out, cell_of_row _ (w.heap.size + 1) 6 _ _ _ HBZ.out⟩
      have kf := fun j => frozen_of_row _ (w.heap.size + 1) j _ _ HBZ.out
      simp only [List.getElem?_toArray, List.getElem?_cons_zero, List.getElem?_cons_succ] at q0 q1 q2 q3 q4 q5 q6
      go_wp2_with fail
      refine bodyPost_ret (v := .tuple #[.agg #[.slice ta tn tc, .slice na nn nc, .slice la ln lc, .int .i64 st, .slice pa n pc, .slice sa N sc, .map (some lb)], .int .i64 0]) ?_ rfl ?_
      · exact results_of _ _ (w.heap.size + 1) _ _ rfl rfl (set7_heap HBZ.out _ _ _ _ _ _ _) rfl
      · have hgs := set7_grown Z (w.heap.size + 1) (.slice ta tn tc) (.slice na nn nc) (.slice la ln lc) (.int .i64 st) (.slice pa n pc) (.slice sa N sc) (.map (some lb))
        obtain ⟨mes, mcl, hobj⟩ := HLA.out.obj
        have hP9 := HPW.out.kept HG.out
        rw [HN.out] at hP9
        refine ⟨sa, sc, kv, ev, lb, m, by rw [← HN.out], ⟨hP9.row.kept hgs (owns_nebox hP9.row HBZ.out (by decide)), fun i hi => (hP9.ker i hi).kept hgs (owns_nebox (hP9.ker i hi) HBZ.out (by decide)), fun i hi => (hP9.edg i hi).kept hgs (owns_nebox (hP9.edg i hi) HBZ.out (by decide))⟩, HLA.out.kept hgs ?_, grown_new (grown_trans HXW.out.grown HG.out) hgs (by omega)⟩
        intro e
        have e2 : lb = w.heap.size + 1 := by simpa using e
        rw [e2, HBZ.out] at hobj
        cases hobj
end

end Go.Proofs.YtfcholpleeiddaaGreat.J

/-
  trans: walk, isTerm, isNoSymbol.
-/
namespace Go.Proofs.YtfcholpleeiddaaGreat.J
open Go.RowKit Go.Maps Go.Shelf

attribute [local go_sem] Oper.semAt_some

theorem cells7 {X : World} {b : Nat} {v0 v1 v2 v3 v4 v5 v6 : Value} {t : TypeId} (h : X.heap[b]? = some (.cells #[v0, v1, v2, v3, v4, v5, v6] t (0, 0))) : X.cell? ⟨b, 0, none⟩ = some v0 ∧ X.cell? ⟨b, 1, none⟩ = some v1 ∧ X.cell? ⟨b, 2, none⟩ = some v2 ∧ X.cell? ⟨b, 3, none⟩ = some v3 ∧ X.cell? ⟨b, 4, none⟩ = some v4 ∧ X.cell? ⟨b, 5, none⟩ = some v5 ∧ X.cell? ⟨b, 6, none⟩ = some v6 := by
  refine ⟨?_, ?_, ?_, ?_, ?_, ?_, ?_⟩ <;> (rw [cell_of_row _ _ _ _ _ _ h]; rfl)
/-- Where edges lead: to states. -/
def LeadOK (es : List (List (Nat × Nat))) : Prop := ∀ x v, leadA es x = some v → 0 ≤ v ∧ v < 256
theorem wayF_take (es : List (List (Nat × Nat))) {row : List Int} {j : Nat} (hj : j < row.length) (q : Option Int) : wayF es q (row.take (j + 1)) = wayF es (wayF es q (row.take j)) [row.getD j 0] := by
  rw [List.take_succ_eq_append_getElem hj, wayF_append, List.getD_eq_getElem?_getD, List.getElem?_eq_getElem hj]; rfl
theorem wayF_lost (es : List (List (Nat × Nat))) {row : List Int} {j : Nat} (q : Option Int) (h : wayF es q (row.take j) = none) : wayF es q row = none := by
  have h1 : row = row.take j ++ row.drop j := (List.take_append_drop j row).symm
  rw [h1, wayF_append, h, wayF_none]

section
variable (ta na la pa sa : Option Addr) (tc nc lc pc sc : Nat) (n N lb : Nat) (st : Int) (w : World) (tn nn ln : Nat)

theorem isTerm_any (s : Int) (b : Bool) (hb : b = decide (s < (tn : Int))) : Calls Tryz.prog 33 #[.agg #[.slice ta tn tc, .slice na nn nc, .slice la ln lc, .int .i64 st, .slice pa n pc, .slice sa N sc, .map (some lb)], .int .i64 s] w fun e y => e = .returned (.bool b) ∧ w.grownBy y none := by
  have HG0 : Hid (w.grownBy (w.alloc (.cells #[.slice ta tn tc, .slice na nn nc, .slice la ln lc, .int .i64 st, .slice pa n pc, .slice sa N sc, .map (some lb)] 56)) none) := World.grownBy_alloc _ _ none
  subst hb
  go_enter Tryz.func33, Tryz.ntmps33
  go_wp2_with fail
  go_ret
  exact ⟨rfl, HG0.out⟩

theorem isNoSym_any (htn : tn ≤ 65) (hnn : nn ≤ 65) (s : Int) (b : Bool) (hb : b = !(decide (0 ≤ s ∧ s < ((tn + nn : Nat) : Int)))) : Calls Tryz.prog 23 #[.agg #[.slice ta tn tc, .slice na nn nc, .slice la ln lc, .int .i64 st, .slice pa n pc, .slice sa N sc, .map (some lb)], .int .i64 s] w fun e y => e = .returned (.bool b) ∧ w.grownBy y none := by
  have HG0 : Hid (w.grownBy (w.alloc (.cells #[.slice ta tn tc, .slice na nn nc, .slice la ln lc, .int .i64 st, .slice pa n pc, .slice sa N sc, .map (some lb)] 56)) none) := World.grownBy_alloc _ _ none
  have HB : Hid (b = !(decide (0 ≤ s ∧ s < ((tn + nn : Nat) : Int)))) := hb
  clear hb
  by_cases h0 : s < 0
  · have hd : decide (s < 0) = true := decide_eq_true h0
    have HBB : Hid (b = true) := by show b = true; rw [HB.out, decide_eq_false (by omega)]; rfl
    go_enter Tryz.func23, Tryz.ntmps23
    go_wp2_with fail
    go_ret
    exact ⟨by rw [HBB.out]; rfl, HG0.out⟩
  · have hd : decide (s < 0) = false := decide_eq_false h0
    have hw : IntKind.i64.wrap ((tn : Int) + (nn : Int)) = (tn : Int) + (nn : Int) := by rw [IntKind.wrap_i64]; omega
    obtain ⟨k, rfl⟩ : ∃ k : Nat, s = (k : Int) := ⟨s.toNat, by omega⟩
    by_cases h1 : k < tn + nn
    · have hd1 : decide ((tn : Int) + (nn : Int) ≤ (k : Int)) = false := decide_eq_false (by omega)
      have hd2 : decide (tn + nn ≤ k) = false := decide_eq_false (by omega)
      have HBB : Hid (b = false) := by show b = false; rw [HB.out, decide_eq_true (by omega)]; rfl
      go_enter Tryz.func23, Tryz.ntmps23
      go_wp2_with fail
      go_ret
      exact ⟨by rw [HBB.out]; rfl, HG0.out⟩
    · have hd1 : decide ((tn : Int) + (nn : Int) ≤ (k : Int)) = true := decide_eq_true (by omega)
      have hd2 : decide (tn + nn ≤ k) = true := decide_eq_true (by omega)
      have HBB : Hid (b = true) := by show b = true; rw [HB.out, decide_eq_false (by omega)]; rfl
      go_enter Tryz.func23, Tryz.ntmps23
      go_wp2_with fail
      go_ret
      exact ⟨by rw [HBB.out]; rfl, HG0.out⟩

set_option maxRecDepth 100000 in
set_option maxHeartbeats 2000000 in
theorem walk_any (m : Nat) (es : List (List (Nat × Nat))) (hL : LdAt w lb m (leadA es)) (hOK : LeadOK es) (q : Nat) (hq : q ≤ 256) (ra : Option Addr) (rc : Nat) (row : List Int) (hr : IntsAt w ra row) (hrb : row.length ≤ 1099511627776000) (hrw : ∀ x ∈ row, (Lit.int .i64 x).wf = true) :
    Calls Tryz.prog 24 #[.agg #[.slice ta tn tc, .slice na nn nc, .slice la ln lc, .int .i64 st, .slice pa n pc, .slice sa N sc, .map (some lb)], .int .i64 (q : Int), .slice ra row.length rc] w fun e y => e = .returned (.int .i64 (wayV (wayF es (some (q : Int)) row))) ∧ w.grownBy y none := by
  have HL : Hid (∀ Y, w.grownBy Y none → LdAt Y lb m (leadA es)) := fun Y hY => hL.kept hY (by simp)
  have HR : Hid (∀ Y, w.grownBy Y none → IntsAt Y ra row) := fun Y hY => hr.kept hY
  have HRW := show Hid _ from hrw
  have HOK : Hid (LeadOK es) := hOK
  have HB0 : Hid ((w.alloc (.cells #[.slice ta tn tc, .slice na nn nc, .slice la ln lc, .int .i64 st, .slice pa n pc, .slice sa N sc, .map (some lb)] 56)).heap[w.heap.size]? = some (.cells #[.slice ta tn tc, .slice na nn nc, .slice la ln lc, .int .i64 st, .slice pa n pc, .slice sa N sc, .map (some lb)] 56 (0, 0))) := heap_alloc_last w _
  obtain ⟨M, hM⟩ : ∃ m, m = row.length := ⟨_, rfl⟩
  have HM : Hid (M = row.length) := hM
  rw [← hM] at hrb ⊢
  clear hL hr hrw hOK hM
  go_enter Tryz.func24, Tryz.ntmps24
  go_wp2_with fail
  obtain ⟨W, hW⟩ : ∃ W, W = w.alloc (.cells #[.slice ta tn tc, .slice na nn nc, .slice la ln lc, .int .i64 st, .slice pa n pc, .slice sa N sc, .map (some lb)] 56) := ⟨_, rfl⟩
  rw [← hW] at HB0 ⊢
  have HGW : Hid (w.grownBy W none) := by rw [hW]; exact World.grownBy_alloc _ _ none
  clear hW
  go_loopg [7, 15] M (fun gk v7 v15 wr => ∃ (j : Nat) (p : Nat), j ≤ M ∧ gk = M - j ∧ v15 = .int .i64 j ∧ v7 = .int .i64 (p : Int) ∧ p ≤ 256 ∧ wayF es (some (q : Int)) (row.take j) = some (p : Int) ∧ W.grownBy wr none)
  case atStart => exact ⟨0, q, Nat.zero_le _, rfl, rfl, rfl, hq, rfl, grown_refl _ _⟩
  case round =>
    obtain ⟨j, p, hj, hgj, rfl, rfl, hp, hwy, hg⟩ := hrel
    have HGJ : Hid (gk = M - j) := hgj
    have HWY : Hid (wayF es (some (q : Int)) (row.take j) = some (p : Int)) := hwy
    have HG : Hid (W.grownBy wr none) := hg
    clear hgj hwy hg
    by_cases hlt : j < M
    · have hj0 : (0 : Int) ≤ (j : Int) := by omega
      have hj1 : (j : Int) < (M : Int) := by omega
      have hjd : decide (j < M) = true := decide_eq_true hlt
      have hjl : j < row.length := by rw [← HM.out]; exact hlt
      obtain ⟨rb, ro, hra, c0⟩ : ∃ b off, ra = some ⟨b, off, none⟩ ∧ wr.cell? ⟨b, off + j, none⟩ = some (.int .i64 (row.getD j 0)) := by
        rcases HR.out wr (grown_trans HGW.out HG.out) with h | ⟨b, off, e, h⟩
        · rw [h] at hjl; cases hjl
        · exact ⟨b, off, e, h j hjl⟩
      subst hra
      have hws := HRW.out (row.getD j 0) (by rw [List.getD_eq_getElem?_getD, List.getElem?_eq_getElem hjl]; exact List.getElem_mem hjl)
      have hst := wayF_take es hjl (some (q : Int))
      rw [HWY.out] at hst
      obtain ⟨s, hs⟩ : ∃ s, s = row.getD j 0 := ⟨_, rfl⟩
      rw [← hs] at c0 hws hst
      have hst2 : wayF es (some (p : Int)) [s] = leadA es ((p : Int), s) := rfl
      rw [hst2] at hst
      have HST : Hid (wayF es (some (q : Int)) (row.take (j + 1)) = leadA es ((p : Int), s)) := hst
      have hlk : (Instr.lookup 54 (.map (some lb)) (.agg #[.int .i64 (p : Int), .int .i64 s]) true).run Tryz.prog wr = .ok (.tuple #[.int .i64 ((leadA es ((p : Int), s)).getD 0), .bool (leadA es ((p : Int), s)).isSome]) wr := (HL.out wr (grown_trans HGW.out HG.out)).look (x := ((p : Int), s)) ⟨WalkArith.wf_i64 ⟨by omega, by omega⟩, hws⟩
      obtain ⟨_, _, _, _, _, k5, k6⟩ := cells7 (box_kept HB0.out HG.out)
      clear hs hst hst2 hws hjl
      cases hle : leadA es ((p : Int), s) with
      | none =>
        rw [hle] at hlk HST
        simp only [Option.getD_none, Option.isSome_none] at hlk
        have HNO : Hid (wayF es (some (q : Int)) row = none) := wayF_lost es _ HST.out
        clear hle
        go_wp2_with fail
        go_ret
        exact ⟨by rw [HNO.out]; rfl, grown_trans HGW.out HG.out⟩
      | some v =>
        have hv := HOK.out _ _ hle
        rw [hle] at hlk HST
        obtain ⟨t, rfl⟩ : ∃ t : Nat, v = (t : Int) := ⟨v.toNat, by omega⟩
        simp only [Option.getD_some, Option.isSome_some] at hlk
        clear hle
        go_wp2_with fail
        go_roundg (M - (j + 1))
        case measure => have := HGJ.out; omega
        case rel => exact ⟨j + 1, t, by omega, rfl, by go_num, rfl, by omega, HST.out, HG.out⟩
    · have hjM : M = j := by omega
      subst hjM
      have hjd : decide (M < M) = false := decide_eq_false (by omega)
      have HFN : Hid (wayF es (some (q : Int)) row = some (p : Int)) := by
        have h := HWY.out
        rw [HM.out, List.take_length] at h
        exact h
      go_wp2_with fail
      go_ret
      exact ⟨by rw [HFN.out]; rfl, grown_trans HGW.out HG.out⟩
end

end Go.Proofs.YtfcholpleeiddaaGreat.J

/-
  trans: transitions.
-/
namespace Go.Proofs.YtfcholpleeiddaaGreat.J
open Go.RowKit Go.Maps Go.Shelf

attribute [local go_sem] Oper.semAt_some

theorem infoTrans : (Tryz.prog.info? 39).map (fun i => (i.zero, i.size, i.bytes)) = some (some (.agg #[.int .i64 0, .int .i64 0]), 2, 16) := by kernel_rfl
/-- The transitions among edges of a state. -/
def trI (tn : Nat) (l : List (Nat × Nat)) (i : Nat) : List It := (l.filter fun x => decide (tn ≤ x.1)).map fun x => ((i : Int), (x.1 : Int))
theorem trI_snoc (tn : Nat) (l : List (Nat × Nat)) (i s t : Nat) : trI tn (l ++ [(s, t)]) i = trI tn l i ++ (if tn ≤ s then [((i : Int), (s : Int))] else []) := by
  unfold trI
  rw [List.filter_append, List.map_append]
  by_cases h : tn ≤ s
  · rw [if_pos h]; simp [h]
  · rw [if_neg h]; simp [h]
theorem trI_len (tn : Nat) (l : List (Nat × Nat)) (i : Nat) : (trI tn l i).length ≤ l.length := by
  unfold trI
  rw [List.length_map]
  exact List.length_filter_le _ _
/-- The transitions of the states below i. -/
def trT (tn : Nat) (es : List (List (Nat × Nat))) : Nat → List It
  | 0 => []
  | i + 1 => trT tn es i ++ trI tn (es.getD i []) i
theorem take_snocE {l : List (Nat × Nat)} {j s t : Nat} (hj : j < l.length) (he : l.getD j (0, 0) = (s, t)) : l.take (j + 1) = l.take j ++ [(s, t)] := by
  rw [List.take_succ_eq_append_getElem hj]
  rw [List.getD_eq_getElem?_getD, List.getElem?_eq_getElem hj] at he
  exact congrArg _ (congrArg (fun y => [y]) he)
theorem trT_len {tn c : Nat} {es : List (List (Nat × Nat))} : ∀ (i : Nat), (∀ q, q < i → (es.getD q []).length ≤ c) → (trT tn es i).length ≤ i * c
  | 0, _ => by simp [trT]
  | i + 1, h => by
    unfold trT
    rw [List.length_append, Nat.succ_mul]
    have h1 := trT_len (tn := tn) i fun q hq => h q (by omega)
    have h2 := trI_len tn (es.getD i []) i
    have h3 := h i (by omega)
    omega

section
variable (ta na la pa sa : Option Addr) (tc nc lc pc sc : Nat) (n N lb : Nat) (st : Int) (w : World) (tn nn ln : Nat)

/-- What transitions tells. -/
def TrTold (l : List It) (w : World) (e : Ending) (y : World) : Prop := ∃ (a : Option Addr) (c : Nat), e = .returned (.slice a l.length c) ∧ y.ownsRow w.heap.size 39 2 (.slice a l.length c) l.length (itsV l) ∧ w.grownBy y none

set_option maxRecDepth 100000 in
set_option maxHeartbeats 4000000 in
theorem trans_any (B : Nat) (ks : List (List It)) (es : List (List (Nat × Nat))) (kv ev : Nat → Value) (hN : N = ks.length) (hN256 : N ≤ 256) (hP : AutP B w (.slice sa ks.length sc) ks (elF es) kv ev) (hes : ∀ q, q < ks.length → (es.getD q []).length ≤ 130) :
    Calls Tryz.prog 18 #[.agg #[.slice ta tn tc, .slice na nn nc, .slice la ln lc, .int .i64 st, .slice pa n pc, .slice sa N sc, .map (some lb)]] w fun e y => TrTold (trT tn es N) w e y := by
  have HN : Hid (N = ks.length) := hN
  have HP : Hid (∀ Y, w.grownBy Y none → AutP B Y (.slice sa ks.length sc) ks (elF es) kv ev) := fun Y hY => hP.kept hY
  have HES := show Hid _ from hes
  have HB0 : Hid ((w.alloc (.cells #[.slice ta tn tc, .slice na nn nc, .slice la ln lc, .int .i64 st, .slice pa n pc, .slice sa N sc, .map (some lb)] 56)).heap[w.heap.size]? = some (.cells #[.slice ta tn tc, .slice na nn nc, .slice la ln lc, .int .i64 st, .slice pa n pc, .slice sa N sc, .map (some lb)] 56 (0, 0))) := heap_alloc_last w _
  obtain ⟨i0, hi0, hz0, hz1, hz2⟩ := info_parts infoTrans
  clear hP hes hN
  go_enter Tryz.func18, Tryz.ntmps18
  go_wp2_with fail
  obtain ⟨W, hW⟩ : ∃ W, W = w.alloc (.cells #[.slice ta tn tc, .slice na nn nc, .slice la ln lc, .int .i64 st, .slice pa n pc, .slice sa N sc, .map (some lb)] 56) := ⟨_, rfl⟩
  rw [← hW] at HB0 ⊢
  have HGW : Hid (w.grownBy W none) := by rw [hW]; exact World.grownBy_alloc _ _ none
  clear hW
  go_loopg [3, 11] N (fun gk v3 v11 wr => ∃ (i L : Nat) (a : Option Addr) (c : Nat), i ≤ N ∧ gk = N - i ∧ v11 = .int .i64 i ∧ v3 = .slice a L c ∧ L = (trT tn es i).length ∧ wr.ownsRow W.heap.size 39 2 (.slice a L c) L (itsV (trT tn es i)) ∧ W.grownBy wr none)
  case atStart => exact ⟨0, 0, none, 0, Nat.zero_le _, rfl, rfl, rfl, rfl, World.ownsRow_nil _ _ _ _, grown_refl _ _⟩
  case round =>
    obtain ⟨i, L, a, c, hi, hgi, rfl, rfl, hLl, hown, hg⟩ := hrel
    have HGI : Hid (gk = N - i) := hgi
    have HLL : Hid (L = (trT tn es i).length) := hLl
    have HO : Hid (wr.ownsRow W.heap.size 39 2 (.slice a L c) L (itsV (trT tn es i))) := hown
    have HG : Hid (W.grownBy wr none) := hg
    have hLb : L ≤ i * 130 := by rw [hLl]; exact trT_len i fun q hq => HES.out q (by have := HN.out; omega)
    clear hgi hLl hown hg
    generalize wr = Z at *
    by_cases hlt : i < N
    · have hid : decide (i < N) = true := decide_eq_true hlt
      have hi0' : (0 : Int) ≤ (i : Int) := by omega
      have hi1 : (i : Int) < (N : Int) := by omega
      have hik : i < ks.length := by rw [← HN.out]; exact hlt
      have hPZ := HP.out Z (grown_trans HGW.out HG.out)
      obtain ⟨sb, sc', hsv, hs0, hs1⟩ := hPZ.st hik
      simp only [Value.slice.injEq] at hsv
      obtain ⟨rfl, _, rfl⟩ := hsv
      obtain ⟨ka, kc, hkv, _, _⟩ := hPZ.kerAt hik
      obtain ⟨ea, ec, hev, _⟩ := hPZ.edgAt hik
      have HEA : Hid (∀ Y, W.grownBy Y none → ItsAt Y ea (elF es i)) := fun Y hY => by
        obtain ⟨ea2, ec2, h1, h2⟩ := (HP.out Y (grown_trans HGW.out hY)).edgAt hik
        rw [hev] at h1
        simp only [Value.slice.injEq] at h1
        rw [h1.1]; exact h2
      rw [hkv] at hs0
      rw [hev] at hs1
      obtain ⟨kl, hkl⟩ : ∃ k, k = (ks.getD i []).length := ⟨_, rfl⟩
      obtain ⟨E, hE⟩ : ∃ E, E = (elF es i).length := ⟨_, rfl⟩
      rw [← hkl] at hs0
      rw [← hE] at hs1
      have HE : Hid (E = (es.getD i []).length) := by show _ = _; rw [hE]; exact elF_len _ _
      have hEb : E ≤ 130 := by rw [HE.out]; exact HES.out i hik
      clear hkl hE hkv hev hPZ
      go_wp2_with fail
      go_loopg [3, 19] E (fun gk v3 v19 wr => ∃ (j L : Nat) (a : Option Addr) (c : Nat), j ≤ E ∧ gk = E - j ∧ v19 = .int .i64 j ∧ v3 = .slice a L c ∧ L = (trT tn es i ++ trI tn ((es.getD i []).take j) i).length ∧ wr.ownsRow W.heap.size 39 2 (.slice a L c) L (itsV (trT tn es i ++ trI tn ((es.getD i []).take j) i)) ∧ W.grownBy wr none)
      case atStart => exact ⟨0, L, a, c, Nat.zero_le _, rfl, rfl, rfl, by simpa [trI] using HLL.out, by simpa [trI] using keep0 HO.out (World.grownBy_alloc _ _ none), grown_trans HG.out (World.grownBy_alloc _ _ none)⟩
      case round =>
        obtain ⟨j, L2, a2, c2, hj, hgj, rfl, rfl, hL2, hown2, hg2⟩ := hrel
        have HGJ : Hid (gk = E - j) := hgj
        have HL2 : Hid (L2 = (trT tn es i ++ trI tn ((es.getD i []).take j) i).length) := hL2
        have HO2 : Hid (wr.ownsRow W.heap.size 39 2 (.slice a2 L2 c2) L2 (itsV (trT tn es i ++ trI tn ((es.getD i []).take j) i))) := hown2
        have HG2 : Hid (W.grownBy wr none) := hg2
        have hL2b : L2 ≤ i * 130 + 130 := by
          rw [hL2, List.length_append, ← HLL.out]
          have h1 := trI_len tn ((es.getD i []).take j) i
          have h2 : ((es.getD i []).take j).length ≤ j := by rw [List.length_take]; omega
          omega
        clear hgj hL2 hown2 hg2
        by_cases hlj : j < E
        · have hjd : decide (j < E) = true := decide_eq_true hlj
          have hj0 : (0 : Int) ≤ (j : Int) := by omega
          have hj1 : (j : Int) < (E : Int) := by omega
          have hje : j < (es.getD i []).length := by rw [← HE.out]; exact hlj
          obtain ⟨eb, eo, hea, c0, c1⟩ := (HEA.out wr HG2.out).cellAt (i := j) (by rw [elF_len]; exact hje)
          subst hea
          rw [(elF_at hje).2] at c0 c1
          obtain ⟨x, hx⟩ : ∃ x, x = (es.getD i []).getD j (0, 0) := ⟨_, rfl⟩
          rw [← hx] at c0 c1
          obtain ⟨s, t⟩ := x
          simp only at c0 c1
          have HTK : Hid (trI tn ((es.getD i []).take (j + 1)) i = trI tn ((es.getD i []).take j) i ++ (if tn ≤ s then [((i : Int), (s : Int))] else [])) := by
            show _ = _
            rw [take_snocE hje hx.symm, trI_snoc]
          have HA : Hid (W.grownBy (wr.alloc (.cells #[.int .i64 (s : Int), .int .i64 (t : Int)] 78)) none) := grown_trans HG2.out (World.grownBy_alloc _ _ none)
          obtain ⟨k0, k1, k2, k3, k4, k5, k6⟩ := cells7 (box_kept HB0.out HA.out)
          by_cases hts : tn ≤ s
          · have HIT := show Hid _ from isTerm_any ta na la pa (some ⟨sb, 0, none⟩) tc nc lc pc sc n N lb st (wr.alloc (.cells #[.int .i64 (s : Int), .int .i64 (t : Int)] 78)) tn nn ln (s : Int) false (decide_eq_false (by omega)).symm
            clear hx hje
            go_wp2_with fail
            refine Calls.mono HIT.out ?_
            rintro e w5 ⟨rfl, hg5⟩
            have HG5 : Hid (W.grownBy w5 none) := grown_trans HA.out hg5
            have HO5 : Hid (w5.ownsRow W.heap.size 39 2 (.slice a2 L2 c2) L2 (itsV (trT tn es i ++ trI tn ((es.getD i []).take j) i))) := keep0 HO2.out (grown_trans (World.grownBy_alloc _ _ none) hg5)
            have hbx : w5.heap[wr.heap.size]? = some (.cells #[.int .i64 (s : Int), .int .i64 (t : Int)] 78 (0, 0)) := box_kept (heap_alloc_last wr _) hg5
            have r0 : w5.cell? ⟨wr.heap.size, 0, none⟩ = some (.int .i64 (s : Int)) := by rw [cell_of_row _ _ _ _ _ _ hbx]; rfl
            have hsz := HG5.out.size
            clear hg5 hbx HIT k0 k1 k2 k3 k4 k5 k6 c0 c1
            go_wp2_with (at_builtin; refine wpList_append_lies _ rfl (.tmp 28) (.tmp 33) 30 rfl W.heap.size 39 i0 (.agg #[.int .i64 0, .int .i64 0]) 2 16 Tryz.underlying30 hi0 hz0 hz1 hz2 rfl (by decide) (.slice a2 L2 c2) L2 (itsV (trT tn es i ++ trI tn ((es.getD i []).take j) i)) rfl (HO5.out.alloc _) ⟨w5.heap.size, 0, none⟩ 1 1 [.int .i64 (i : Int), .int .i64 (s : Int)] rfl rfl (World.news_of_block (heap_alloc_last w5 _)) (by simp [Value.oneCell']) (by decide) (by unfold maxLen; omega) (by omega) (by simp; omega) _ rfl ?_)
            intro g7 c7 V hoV hgV _ _
            have HOV : Hid (V.ownsRow W.heap.size 39 2 (.slice (some ⟨g7, 0, none⟩) (L2 + 1) c7) (L2 + 1) (itsV (trT tn es i ++ trI tn ((es.getD i []).take (j + 1)) i))) := by
              rw [HTK.out, if_pos hts, ← List.append_assoc, itsV_append]; exact hoV
            have HLV : Hid (L2 + 1 = (trT tn es i ++ trI tn ((es.getD i []).take (j + 1)) i).length) := by
              show _ = _
              rw [HTK.out, if_pos hts, ← List.append_assoc, List.length_append, ← HL2.out]; rfl
            have HGV : Hid (W.grownBy V none) := grown_owned (grown_trans HG5.out (World.grownBy_alloc _ _ none)) (HO5.out.alloc _) (Nat.le_refl _) hgV
            clear hoV hgV r0
            go_wp2_with fail
            go_roundg (E - (j + 1))
            case measure => have := HGJ.out; omega
            case rel => exact ⟨j + 1, L2 + 1, some ⟨g7, 0, none⟩, c7, by omega, rfl, by go_num, rfl, HLV.out, HOV.out, HGV.out⟩
          · have HIT := show Hid _ from isTerm_any ta na la pa (some ⟨sb, 0, none⟩) tc nc lc pc sc n N lb st (wr.alloc (.cells #[.int .i64 (s : Int), .int .i64 (t : Int)] 78)) tn nn ln (s : Int) true (decide_eq_true (by omega)).symm
            clear hx hje
            go_wp2_with fail
            refine Calls.mono HIT.out ?_
            rintro e w5 ⟨rfl, hg5⟩
            have HG5 : Hid (W.grownBy w5 none) := grown_trans HA.out hg5
            have HO5 : Hid (w5.ownsRow W.heap.size 39 2 (.slice a2 L2 c2) L2 (itsV (trT tn es i ++ trI tn ((es.getD i []).take (j + 1)) i))) := by
              rw [HTK.out, if_neg hts, List.append_nil]; exact keep0 HO2.out (grown_trans (World.grownBy_alloc _ _ none) hg5)
            have HL5 : Hid (L2 = (trT tn es i ++ trI tn ((es.getD i []).take (j + 1)) i).length) := by
              show _ = _
              rw [HTK.out, if_neg hts, List.append_nil]; exact HL2.out
            clear hg5 HIT k0 k1 k2 k3 k4 k5 k6 c0 c1
            go_wp2_with fail
            go_roundg (E - (j + 1))
            case measure => have := HGJ.out; omega
            case rel => exact ⟨j + 1, L2, a2, c2, by omega, rfl, by go_num, rfl, HL5.out, HO5.out, HG5.out⟩
        · have hjE : E = j := by omega
          subst hjE
          have hjd : decide (E < E) = false := decide_eq_false (by omega)
          have e9 : trT tn es i ++ trI tn ((es.getD i []).take E) i = trT tn es (i + 1) := by
            rw [HE.out, List.take_length]; rfl
          rw [e9] at HO2 HL2
          clear e9
          go_wp2_with fail
          go_roundg (N - (i + 1))
          case measure => have := HGI.out; omega
          case rel => exact ⟨i + 1, L2, a2, c2, by omega, rfl, by go_num, rfl, HL2.out, HO2.out, HG2.out⟩
    · have hiN : N = i := by omega
      subst hiN
      have hid : decide (N < N) = false := decide_eq_false (by omega)
      go_wp2_with fail
      go_ret
      exact ⟨a, c, by rw [← HLL.out]; rfl, by rw [← HLL.out]; exact owns_base HO.out HGW.out.size, grown_trans HGW.out HG.out⟩
end

end Go.Proofs.YtfcholpleeiddaaGreat.J
