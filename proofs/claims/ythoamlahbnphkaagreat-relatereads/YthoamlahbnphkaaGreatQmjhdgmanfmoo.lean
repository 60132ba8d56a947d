import Derived.Test.YthoamlahbnphkaaGreatQpebejkajpcae
import Derived.Deep.RegionHeld3
import Derived.Test.YthoamlahbnphkaaGreatQdiacnmnpkljc
import Derived.Test.YthoamlahbnphkaaGreatQnmfjogpfmbik

/-
  relate: through.
-/
namespace Go.Proofs.YthoamlahbnphkaaGreat.J
open Go.RowKit Go.Maps Go.Shelf

attribute [local go_sem] Oper.semAt_some

/-- The states through which a row leads. -/
def stF (es : List (List (Nat × Nat))) (q : Nat) (row : List Int) : Nat → Nat
  | 0 => q
  | i + 1 => (ldF (es.getD (stF es q row i) []) (row.getD i 0).toNat).toNat
theorem ldF_range {l : List (Nat × Nat)} {N : Nat} (hN : 0 < N) (h : ∀ x ∈ l, x.2 < N) (s : Nat) : 0 ≤ ldF l s ∧ ldF l s < (N : Int) := by
  unfold ldF nextL
  cases hf : l.find? fun x => decide ((x.1 : Int) = (s : Int)) with
  | none => exact ⟨Int.le_refl _, by show (0 : Int) < _; omega⟩
  | some x =>
    have h1 := h x (List.mem_of_find?_eq_some hf)
    show 0 ≤ (x.2 : Int) ∧ (x.2 : Int) < (N : Int)
    omega
theorem stF_lt {es : List (List (Nat × Nat))} {q N : Nat} {row : List Int} (hq : q < N) (h : ∀ r, r < N → ∀ x ∈ es.getD r [], x.2 < N) : ∀ i, stF es q row i < N
  | 0 => hq
  | i + 1 => by
    have h1 := ldF_range (l := es.getD (stF es q row i) []) (by omega) (h _ (stF_lt hq h i)) (row.getD i 0).toNat
    unfold stF
    omega
/-- The states, once i symbols have been gone over; 0 behind. -/
def stT (es : List (List (Nat × Nat))) (q : Nat) (row : List Int) (k i : Nat) : Int := if i ≤ k then (stF es q row i : Int) else 0

section
variable (ta na la pa sa xa l1 m1 : Option Addr) (tc nc lc pc sc xc lc1 mc1 : Nat) (n N T nb : Nat) (st : Int) (w : World) (tn nn ln : Nat)

set_option maxRecDepth 100000 in
set_option maxHeartbeats 2000000 in
theorem uthr_any (B S : Nat) (es : List (List (Nat × Nat))) (lb : Nat → Nat) (hT : TbP B w (.slice l1 N lc1) N N S lb (fun q s => ldF (es.getD q []) s)) (hes : ∀ r, r < N → ∀ x ∈ es.getD r [], x.2 < N) (q : Nat) (hq : q < N) (hN : N ≤ 256) (a : Option Addr) (c : Nat) (row : List Int) (hrow : IntsAt w a row) (hlen : row.length ≤ 1000000) (hr : ∀ x ∈ row, 0 ≤ x ∧ x < (S : Int)) :
    Calls Tryz.prog 91 #[.agg #[.slice ta tn tc, .slice na nn nc, .slice la ln lc, .int .i64 st, .slice pa n pc, .slice (some ⟨nb, 0, none⟩) nn nn, .slice sa N sc, .slice xa T xc, .slice l1 N lc1, .slice m1 N mc1], .int .i64 (q : Int), .slice a row.length c] w fun e y => ∃ k, e = .returned (.slice (some ⟨k, 0, none⟩) (row.length + 1) (row.length + 1)) ∧ w.heap.size ≤ k ∧ ValAt y k (row.length + 1) 3 (fun i => .int .i64 (stF es q row i : Int)) ∧ w.grownBy y none := by
  have HT : Hid (∀ X, w.grownBy X none → TbP B X (.slice l1 N lc1) N N S lb (fun q s => ldF (es.getD q []) s)) := fun X hX => hT.kept hX
  have HRW : Hid (∀ X, w.grownBy X none → IntsAt X a row) := fun X hX => hrow.kept hX
  have HRR := show Hid _ from hr
  have HLT : Hid (∀ i, stF es q row i < N) := stF_lt hq hes
  have HRG : Hid (∀ r, r < N → ∀ s, 0 ≤ ldF (es.getD r []) s) := fun r hr s => (ldF_range (by omega) (hes r hr) s).1
  have HX0 : Hid ((w.alloc (.cells #[.slice ta tn tc, .slice na nn nc, .slice la ln lc, .int .i64 st, .slice pa n pc, .slice (some ⟨nb, 0, none⟩) nn nn, .slice sa N sc, .slice xa T xc, .slice l1 N lc1, .slice m1 N mc1] 81)).heap[w.heap.size]? = some (.cells #[.slice ta tn tc, .slice na nn nc, .slice la ln lc, .int .i64 st, .slice pa n pc, .slice (some ⟨nb, 0, none⟩) nn nn, .slice sa N sc, .slice xa T xc, .slice l1 N lc1, .slice m1 N mc1] 81 (0, 0))) := heap_alloc_last w _
  obtain ⟨m, hm⟩ : ∃ m, m = row.length := ⟨_, rfl⟩
  have HM : Hid (m = row.length) := hm
  rw [← hm] at hlen ⊢
  obtain ⟨i0, hi0, hz0, hz1, hz2⟩ := info_parts infoInt
  have hw1 : (1 : Int) + (m : Int) = ((m + 1 : Nat) : Int) := by omega
  clear hT hrow hr hes hm
  go_enter Tryz.func91, Tryz.ntmps91
  go_wp2_with (at_make; refine wpList_make_full _ rfl _ _ 24 rfl w.heap.size 3 i0 (.int .i64 0) 1 Tryz.underlying24 hi0 hz0 hz1 .i64 .i64 _ _ (m + 1) rfl rfl (by omega) (by omega) (by rw [hz2]; omega) (by unfold maxLen; omega) (by simp) ?_)
  intro W1 hown hgrow
  have hval : ValAt W1 (w.heap.size + 1) (m + 1) 3 (fun _ => .int .i64 0) := made_rowK (B := w.heap.size) rfl (by simpa [Value.cells] using hown)
  have HB1 : Hid (W1.heap[w.heap.size]? = some (.cells #[.slice ta tn tc, .slice na nn nc, .slice la ln lc, .int .i64 st, .slice pa n pc, .slice (some ⟨nb, 0, none⟩) nn nn, .slice sa N sc, .slice xa T xc, .slice l1 N lc1, .slice m1 N mc1] 81 (0, 0))) := box_kept HX0.out hgrow
  have HG1 : Hid (w.grownBy W1 none) := grown_trans (World.grownBy_alloc _ _ none) hgrow
  have v0 := hval.cell 0 (by omega)
  have v1 := hval.free 0
  have HV1 : Hid (ValAt (W1.setCell ⟨w.heap.size + 1, 0, none⟩ (.int .i64 (q : Int))) (w.heap.size + 1) (m + 1) 3 (fun i => .int .i64 (stT es q row 0 i))) := (hval.set 0 (.int .i64 (q : Int))).ext fun i _ => by
    unfold put stT
    by_cases e : i = 0
    · subst e; rfl
    · simp only [if_neg e]; rw [if_neg (by omega)]
  have HB2 : Hid ((W1.setCell ⟨w.heap.size + 1, 0, none⟩ (.int .i64 (q : Int))).heap[w.heap.size]? = some (.cells #[.slice ta tn tc, .slice na nn nc, .slice la ln lc, .int .i64 st, .slice pa n pc, .slice (some ⟨nb, 0, none⟩) nn nn, .slice sa N sc, .slice xa T xc, .slice l1 N lc1, .slice m1 N mc1] 81 (0, 0))) := ((grown_setCell (w := W1) (w.heap.size + 1) 0 (.int .i64 (q : Int))).block _ (Array.getElem?_eq_some_iff.1 HB1.out).1 (by simp)).trans HB1.out
  have HG2 : Hid (w.grownBy (W1.setCell ⟨w.heap.size + 1, 0, none⟩ (.int .i64 (q : Int))) none) := grown_new HG1.out (grown_setCell (w.heap.size + 1) 0 (.int .i64 (q : Int))) (by omega)
  clear hown hgrow hval HX0 HG1 HB1
  go_wp2_with fail
  generalize W1.setCell ⟨w.heap.size + 1, 0, none⟩ (.int .i64 (q : Int)) = W2 at HV1 HB2 HG2 ⊢
  clear v0 v1
  go_loopg [19] m (fun gk v19 wr => ∃ (j : Nat), j ≤ m ∧ gk = m - j ∧ v19 = .int .i64 j ∧ w.grownBy wr none ∧ wr.heap[w.heap.size]? = some (.cells #[.slice ta tn tc, .slice na nn nc, .slice la ln lc, .int .i64 st, .slice pa n pc, .slice (some ⟨nb, 0, none⟩) nn nn, .slice sa N sc, .slice xa T xc, .slice l1 N lc1, .slice m1 N mc1] 81 (0, 0)) ∧ ValAt wr (w.heap.size + 1) (m + 1) 3 (fun i => .int .i64 (stT es q row j i)))
  case atStart => exact ⟨0, Nat.zero_le _, rfl, rfl, HG2.out, HB2.out, HV1.out⟩
  case round =>
    obtain ⟨j, hj, hgj, rfl, hg, hb, hv⟩ := hrel
    have HGJ : Hid (gk = m - j) := hgj
    have HG : Hid (w.grownBy wr none) := hg
    have HB : Hid (wr.heap[w.heap.size]? = some (.cells #[.slice ta tn tc, .slice na nn nc, .slice la ln lc, .int .i64 st, .slice pa n pc, .slice (some ⟨nb, 0, none⟩) nn nn, .slice sa N sc, .slice xa T xc, .slice l1 N lc1, .slice m1 N mc1] 81 (0, 0))) := hb
    have HV : Hid (ValAt wr (w.heap.size + 1) (m + 1) 3 (fun i => .int .i64 (stT es q row j i))) := hv
    clear hgj hg hb hv HG2 HB2 HV1
    generalize wr = Y at *
    by_cases hlt : j < m
    · have hjd : decide (j < m) = true := decide_eq_true hlt
      have hj0 : (0 : Int) ≤ (j : Int) := by omega
      have hj1 : (j : Int) < (m : Int) := by omega
      have hjl : j < row.length := by rw [← HM.out]; exact hlt
      obtain ⟨s, hs⟩ : ∃ s : Nat, row.getD j 0 = (s : Int) := by
        have h := HRR.out (row.getD j 0) (by rw [List.getD_eq_getElem?_getD, List.getElem?_eq_getElem hjl]; exact List.getElem_mem hjl)
        exact ⟨(row.getD j 0).toNat, by omega⟩
      have hsS : s < S := by
        have h := HRR.out (row.getD j 0) (by rw [List.getD_eq_getElem?_getD, List.getElem?_eq_getElem hjl]; exact List.getElem_mem hjl)
        omega
      obtain ⟨ib, io, rfl, r0⟩ : ∃ ib io, a = some ⟨ib, io, none⟩ ∧ Y.cell? ⟨ib, io + j, none⟩ = some (.int .i64 (s : Int)) := by
        rcases HRW.out Y HG.out with h | ⟨ib, io, e, h⟩
        · rw [h] at hjl; exact absurd hjl (by simp)
        · exact ⟨ib, io, e, by rw [← hs]; exact h j hjl⟩
      obtain ⟨p, hp⟩ : ∃ p, p = stF es q row j := ⟨_, rfl⟩
      have hpN : p < N := by rw [hp]; exact HLT.out j
      obtain ⟨g, c', hlv, d0, d1⟩ := (HT.out Y HG.out).at hpN
      simp only [Value.slice.injEq, true_and] at hlv
      obtain ⟨rfl, rfl⟩ := hlv
      have HST : Hid (ldF (es.getD p []) s = (stF es q row (j + 1) : Int)) := by
        show _ = _
        have h := HRG.out p hpN s
        rw [stF, ← hp, hs, Int.toNat_natCast]
        omega
      have d2 := d1 s hsS
      simp only [HST.out] at d2
      obtain ⟨t, ht⟩ : ∃ t, t = stF es q row (j + 1) := ⟨_, rfl⟩
      rw [← ht] at d2
      have c8 : Y.cell? ⟨w.heap.size, 8, none⟩ = some (.slice (some ⟨g, 0, none⟩) N lc1) := by rw [cell_of_row _ _ _ _ _ _ HB.out]; rfl
      have v0 : Y.cell? ⟨w.heap.size + 1, j, none⟩ = some (.int .i64 (p : Int)) := by
        have h := HV.out.cell j (by omega)
        rw [stT, if_pos (Nat.le_refl _), ← hp] at h
        exact h
      have v1 := HV.out.cell (j + 1) (by omega)
      have v2 := HV.out.free (j + 1)
      have hgs : Y.grownBy (Y.setCell ⟨w.heap.size + 1, j + 1, none⟩ (.int .i64 (t : Int))) (some (w.heap.size + 1)) := grown_setCell _ _ _
      have HKS : Hid ((Y.setCell ⟨w.heap.size + 1, j + 1, none⟩ (.int .i64 (t : Int))).cell? ⟨w.heap.size, 8, none⟩ = some (.slice (some ⟨g, 0, none⟩) N lc1) ∧ (Y.setCell ⟨w.heap.size + 1, j + 1, none⟩ (.int .i64 (t : Int))).cell? ⟨w.heap.size + 1, j, none⟩ = some (.int .i64 (p : Int)) ∧ (Y.setCell ⟨w.heap.size + 1, j + 1, none⟩ (.int .i64 (t : Int))).cell? ⟨g, p, none⟩ = some (.slice (some ⟨lb p, 0, none⟩) S S) ∧ (Y.setCell ⟨w.heap.size + 1, j + 1, none⟩ (.int .i64 (t : Int))).cell? ⟨lb p, s, none⟩ = some (.int .i64 (t : Int))) := by
        have n1 : lb p ≠ w.heap.size + 1 := by
          have := ((HT.out w (grown_refl _ _)).val p hpN).lt
          omega
        have n2 : g ≠ w.heap.size + 1 := by
          have := ((HT.out w (grown_refl _ _)).row.lt g rfl).2
          omega
        refine ⟨hgs.cell c8 (by simp), ?_, hgs.cell d0 (by simp [n2]), hgs.cell d2 (by simp [n1])⟩
        have h := (HV.out.set (j + 1) (.int .i64 (t : Int))).cell j (by omega)
        unfold put at h
        rw [if_neg (by omega)] at h
        have h2 : stT es q row j j = (p : Int) := by rw [stT, if_pos (Nat.le_refl _), ← hp]
        simp only [h2] at h
        exact h
      have HFV : Hid (ValAt (Y.setCell ⟨w.heap.size + 1, j + 1, none⟩ (.int .i64 (t : Int))) (w.heap.size + 1) (m + 1) 3 (fun i => .int .i64 (stT es q row (j + 1) i))) := (HV.out.set (j + 1) (.int .i64 (t : Int))).ext fun i _ => by
        unfold put stT
        by_cases e : i = j + 1
        · subst e
          rw [if_pos rfl, if_pos (Nat.le_refl _), ht]
        · rw [if_neg e]
          show Value.int .i64 (if i ≤ j then (stF es q row i : Int) else 0) = _
          by_cases e2 : i ≤ j
          · rw [if_pos e2, if_pos (by omega)]
          · rw [if_neg e2, if_neg (by omega)]
      have HFB := show Hid _ from (hgs.block _ (Array.getElem?_eq_some_iff.1 HB.out).1 (by simp)).trans HB.out
      have HFG : Hid (w.grownBy (Y.setCell ⟨w.heap.size + 1, j + 1, none⟩ (.int .i64 (t : Int))) none) := grown_new HG.out hgs (by omega)
      have hs0 : (0 : Int) ≤ (s : Int) := by omega
      have hs1 : (s : Int) < (S : Int) := by omega
      have hp0 : (0 : Int) ≤ (p : Int) := by omega
      have hp1 : (p : Int) < (N : Int) := by omega
      have hj2 : (0 : Int) ≤ (j : Int) + 1 := by omega
      have hj3 : (j : Int) + 1 < ((m + 1 : Nat) : Int) := by omega
      have hj4 : (j : Int) < (m : Int) + 1 := by omega
      have hj5 : (j : Int) + 1 < (m : Int) + 1 := by omega
      have hjw : IntKind.i64.wrap ((j : Int) + 1) = (j : Int) + 1 := by rw [IntKind.wrap_i64]; omega
      clear hp ht hs hgs d1 HB HV HG HST
      go_wp2_with fail
      go_region_held3 (fun x => x.cell? ⟨w.heap.size, 8, none⟩ = some (.slice (some ⟨g, 0, none⟩) N lc1) ∧ x.cell? ⟨w.heap.size + 1, j, none⟩ = some (.int .i64 (p : Int)) ∧ x.cell? ⟨g, p, none⟩ = some (.slice (some ⟨lb p, 0, none⟩) S S) ∧ x.cell? ⟨lb p, s, none⟩ = some (.int .i64 (t : Int))) (first | exact HKS.out | go_keep) (fail)
      all_goals go_wp2_with fail
      all_goals go_roundg (m - (j + 1))
      all_goals first
        | exact (show ∃ (j' : Nat), _ from ⟨j + 1, by omega, rfl, by go_num, grown_trans HFG.out (grown_drewN _ _), HFB.out, HFV.out⟩)
        | (have := HGJ.out; omega)
    · have hjm : m = j := by omega
      subst hjm
      have hjd : decide (m < m) = false := decide_eq_false (by omega)
      go_wp2_with fail
      go_ret
      refine ⟨w.heap.size + 1, rfl, by omega, HV.out.ext fun i hi => ?_, HG.out⟩
      rw [stT, if_pos (by omega)]
end

end Go.Proofs.YthoamlahbnphkaaGreat.J

/-
  trans: direct.
-/
namespace Go.Proofs.YthoamlahbnphkaaGreat.J
open Go.RowKit Go.Maps Go.Shelf

attribute [local go_sem] Oper.semAt_some

def intV (l : List Int) : List Value := l.map (Value.int .i64)
/-- The terminals among edges. -/
def dirL (tn : Nat) (l : List (Nat × Nat)) : List Int := (l.filter fun x => decide (x.1 < tn)).map fun x => (x.1 : Int)
def preF (b : Bool) : List Int := if b then [0] else []
/-- What direct tells. -/
def NumTold (l : List Int) (w : World) (e : Ending) (y : World) : Prop := ∃ (a : Option Addr) (c : Nat), e = .returned (.slice a l.length c) ∧ y.ownsRow w.heap.size 3 1 (.slice a l.length c) l.length (intV l) ∧ w.grownBy y none

section
variable (ta na la pa sa : Option Addr) (tc nc lc pc sc : Nat) (n N lb : Nat) (st : Int) (w : World) (tn nn ln : Nat)

end

end Go.Proofs.YthoamlahbnphkaaGreat.J

/-
  relate: lists under way, and what is handed to them.
-/
namespace Go.Proofs.YthoamlahbnphkaaGreat.J
open Go.RowKit Go.Maps Go.Shelf

attribute [local go_sem] Oper.semAt_some

/-- A number more, unless it stands last. -/
def addL (l : List Int) (x : Int) : List Int := if l.getLast? = some x then l else l ++ [x]

/-- Lists under way. -/
structure LqP (P X : World) (bx kb T : Nat) (Q : Nat → List Int) (ua : Nat → Option Addr) (uc : Nat → Nat) : Prop where
  grown : P.grownBy X none
  box : X.heap[bx]? = some (.cells #[.slice (some ⟨kb, 0, none⟩) T T] 30 (0, 0))
  val : ValAt X kb T 24 (fun k => .slice (ua k) (Q k).length (uc k))
  own : ∀ k, k < T → X.ownsRow P.heap.size 3 1 (.slice (ua k) (Q k).length (uc k)) (Q k).length (intV (Q k))
  sep : ∀ k l, k < T → l < T → k ≠ l → (Value.slice (ua k) (Q k).length (uc k)).ownBlock = none ∨ (Value.slice (ua k) (Q k).length (uc k)).ownBlock ≠ (Value.slice (ua l) (Q l).length (uc l)).ownBlock
  lo : P.heap.size ≤ bx ∧ P.heap.size ≤ kb
section
variable {P X Y : World} {bx kb T : Nat} {Q : Nat → List Int} {ua : Nat → Option Addr} {uc : Nat → Nat}
theorem LqP.kept (h : LqP P X bx kb T Q ua uc) (hg : X.grownBy Y none) : LqP P Y bx kb T Q ua uc :=
  ⟨grown_trans h.grown hg, box_kept h.box hg, h.val.kept hg, fun k hk => keep0 (h.own k hk) hg, h.sep, h.lo⟩
theorem LqP.add (h : LqP P X bx kb T Q ua uc) {f g c : Nat} {x : Int} (hf : f < T) (hg : X.grownBy Y (Value.slice (ua f) (Q f).length (uc f)).ownBlock) (ho : Y.ownsRow P.heap.size 3 1 (.slice (some ⟨g, 0, none⟩) ((Q f).length + 1) c) ((Q f).length + 1) (intV (Q f) ++ [.int .i64 x])) (hat : (Value.slice (ua f) (Q f).length (uc f)).ownBlock = some g ∨ g = X.heap.size) : LqP P (Y.setCell ⟨kb, f, none⟩ (.slice (some ⟨g, 0, none⟩) ((Q f).length + 1) c)) bx kb T (updL Q f (Q f ++ [x])) (updL ua f (some ⟨g, 0, none⟩)) (updL uc f c) := by
  have hs : Y.grownBy (Y.setCell ⟨kb, f, none⟩ (.slice (some ⟨g, 0, none⟩) ((Q f).length + 1) c)) (some kb) := grown_setCell _ _ _
  have hv : ValAt Y kb T 24 (fun k => .slice (ua k) (Q k).length (uc k)) := box_row h.val (h.own f hf) (by decide) hg
  have hb : Y.heap[bx]? = some (.cells #[.slice (some ⟨kb, 0, none⟩) T T] 30 (0, 0)) := box_row h.box (h.own f hf) (by decide) hg
  have hlen : (Q f ++ [x]).length = (Q f).length + 1 := by simp
  have hiv : intV (Q f ++ [x]) = intV (Q f) ++ [.int .i64 x] := by unfold intV; rw [List.map_append]; rfl
  have key : ∀ k, k < T → k ≠ f → (Value.slice (ua k) (Q k).length (uc k)).ownBlock = none ∨ (Value.slice (ua k) (Q k).length (uc k)).ownBlock ≠ some g := fun k hk e => by
    rcases hat with h1 | h1
    · rw [← h1]; exact h.sep k f hk hf e
    · cases hb : (Value.slice (ua k) (Q k).length (uc k)).ownBlock with
      | none => exact .inl rfl
      | some b =>
        right
        intro h2
        have h3 := ((h.own k hk).lt b hb).2
        have h4 : b = g := by simpa using h2
        omega
  refine ⟨grown_new (grown_owned h.grown (h.own f hf) (Nat.le_refl _) hg) hs h.lo.2, ?_, ?_, fun k hk => ?_, fun k l hk hl e => ?_, h.lo⟩
  · refine (hs.block bx (Array.getElem?_eq_some_iff.1 hb).1 ?_).trans hb
    intro e
    have e2 : bx = kb := by simpa using e
    unfold ValAt at hv
    rw [e2, hv] at hb
    simp only [Option.some.injEq, Obj.cells.injEq] at hb
    exact absurd hb.2.1 (by decide)
  · refine (hv.set f _).ext fun i _ => ?_
    unfold put updL
    by_cases e : i = f
    · simp only [if_pos e, hlen]
    · simp only [if_neg e]
  · by_cases e : k = f
    · subst e
      rw [updL_same, updL_same, updL_same, hlen, hiv]
      exact ho.kept hs (owns_nebox ho hv (by decide))
    · rw [updL_other _ _ e, updL_other _ _ e, updL_other _ _ e]
      have h1 := (h.own k hk).kept hg (h.sep k f hk hf e)
      exact h1.kept hs (owns_nebox h1 hv (by decide))
  · by_cases e1 : k = f
    · subst e1
      have e2 : l ≠ k := fun h => e h.symm
      rw [updL_same, updL_same, updL_same, updL_other _ _ e2, updL_other _ _ e2, updL_other _ _ e2]
      right
      rcases key l hl e2 with h1 | h1
      · rw [h1]; simp [Value.ownBlock]
      · exact fun h2 => h1 h2.symm
    · rw [updL_other _ _ e1, updL_other _ _ e1, updL_other _ _ e1]
      by_cases e2 : l = f
      · subst e2
        rw [updL_same, updL_same, updL_same]
        exact key k hk e1
      · rw [updL_other _ _ e2, updL_other _ _ e2, updL_other _ _ e2]
        exact h.sep k l hk hl e
end

theorem updL_id {α : Type} (f : Nat → α) (k : Nat) : updL f k (f k) = f := funext fun i => by
  unfold updL
  by_cases e : i = k
  · rw [if_pos e, e]
  · rw [if_neg e]
/-- All blocks stay but numbers and rows of rows. -/
def KeepH (X Y : World) : Prop := X.heap.size ≤ Y.heap.size ∧ ∀ (b : Nat) (cs : Array Value) (t : TypeId), X.heap[b]? = some (.cells cs t (0, 0)) → t ≠ 3 → t ≠ 24 → Y.heap[b]? = some (.cells cs t (0, 0))
theorem KeepH.refl (X : World) : KeepH X X := ⟨Nat.le_refl _, fun _ _ _ h _ _ => h⟩
theorem KeepH.trans {X Y Z : World} (h : KeepH X Y) (k : KeepH Y Z) : KeepH X Z := ⟨Nat.le_trans h.1 k.1, fun b cs t h1 h2 h3 => k.2 b cs t (h.2 b cs t h1 h2 h3) h2 h3⟩
theorem KeepH.none_ {X Y : World} (h : X.grownBy Y none) : KeepH X Y := ⟨h.size, fun _ _ _ h1 _ _ => box_kept h1 h⟩
theorem KeepH.row {X Y : World} {B n : Nat} {v : Value} {xs : List Value} (ho : X.ownsRow B 3 1 v n xs) (h : X.grownBy Y v.ownBlock) : KeepH X Y := ⟨h.size, fun _ _ _ h1 h2 _ => box_row h1 ho (fun e => h2 e.symm) h⟩
theorem KeepH.set {X : World} {b len x : Nat} {c : Nat → Value} {v : Value} (hb : ValAt X b len 24 c) : KeepH X (X.setCell ⟨b, x, none⟩ v) := by
  have hg : X.grownBy (X.setCell ⟨b, x, none⟩ v) (some b) := grown_setCell _ _ _
  refine ⟨hg.size, fun b' cs t h1 _ h3 => (hg.block b' (Array.getElem?_eq_some_iff.1 h1).1 ?_).trans h1⟩
  intro e
  have e2 : b' = b := by simpa using e
  unfold ValAt at hb
  rw [e2, hb] at h1
  simp only [Option.some.injEq, Obj.cells.injEq] at h1
  exact h3 h1.2.1.symm
/-- What is handed to the lists. -/
def HandTold (P : World) (bx kb T : Nat) (Q : Nat → List Int) (f : Nat) (x : Int) (w : World) (e : Ending) (y : World) : Prop := e = .returned (.tuple #[]) ∧ KeepH w y ∧ ∃ ua uc, LqP P y bx kb T (updL Q f (addL (Q f) x)) ua uc

set_option maxRecDepth 100000 in
set_option maxHeartbeats 2000000 in
theorem hand_any (P w : World) (bx kb T : Nat) (Q : Nat → List Int) (ua : Nat → Option Addr) (uc : Nat → Nat) (h : LqP P w bx kb T Q ua uc) (f : Nat) (x : Int) (hf : f < T) (hQ : (Q f).length ≤ 10000000) :
    Calls Tryz.prog 57 #[.int .i64 (f : Int), .int .i64 x, .pointer (some ⟨bx, 0, none⟩)] w fun e y => HandTold P bx kb T Q f x w e y := by
  have HL : Hid (LqP P w bx kb T Q ua uc) := h
  have c0 : w.cell? ⟨bx, 0, none⟩ = some (.slice (some ⟨kb, 0, none⟩) T T) := by rw [cell_of_row _ _ _ _ _ _ h.box]; rfl
  have c1 := h.val.cell f hf
  obtain ⟨fa, hfa⟩ : ∃ a, a = ua f := ⟨_, rfl⟩
  obtain ⟨fc, hfc⟩ : ∃ a, a = uc f := ⟨_, rfl⟩
  obtain ⟨m, hm⟩ : ∃ m, m = (Q f).length := ⟨_, rfl⟩
  rw [← hfa, ← hfc, ← hm] at c1
  rw [← hm] at hQ
  have hf0 : (0 : Int) ≤ (f : Int) := by omega
  have hf1 : (f : Int) < (T : Int) := by omega
  have HOW : Hid (∀ Y, w.grownBy Y none → Y.ownsRow P.heap.size 3 1 (.slice fa m fc) m (intV (Q f))) := fun Y hY => by
    have h1 := keep0 (h.own f hf) hY
    rw [← hfa, ← hfc, ← hm] at h1
    exact h1
  have HPS : Hid (∀ Y, w.grownBy Y none → P.heap.size ≤ Y.heap.size) := fun Y hY => Nat.le_trans h.grown.size hY.size
  have HFIN : Hid (∀ (Y V : World) (g c : Nat), w.grownBy Y none → Y.grownBy V (Value.slice fa m fc).ownBlock → V.ownsRow P.heap.size 3 1 (.slice (some ⟨g, 0, none⟩) (m + 1) c) (m + 1) (intV (Q f) ++ [.int .i64 x]) → ((Value.slice fa m fc).ownBlock = some g ∨ g = Y.heap.size) → V.cell? ⟨kb, f, none⟩ = some (.slice fa m fc) ∧ V.frozen? ⟨kb, f, none⟩ = false ∧ V.cell? ⟨bx, 0, none⟩ = some (.slice (some ⟨kb, 0, none⟩) T T) ∧ KeepH w (V.setCell ⟨kb, f, none⟩ (.slice (some ⟨g, 0, none⟩) (m + 1) c)) ∧ ∃ ua' uc', LqP P (V.setCell ⟨kb, f, none⟩ (.slice (some ⟨g, 0, none⟩) (m + 1) c)) bx kb T (updL Q f (Q f ++ [x])) ua' uc') := fun Y V g c hY hg ho hat => by
    rw [hfa, hfc, hm] at hg hat
    rw [hm] at ho
    have h1 := h.kept hY
    have hv : ValAt V kb T 24 (fun k => .slice (ua k) (Q k).length (uc k)) := box_row h1.val (h1.own f hf) (by decide) hg
    have hb : V.heap[bx]? = some (.cells #[.slice (some ⟨kb, 0, none⟩) T T] 30 (0, 0)) := box_row h1.box (h1.own f hf) (by decide) hg
    refine ⟨by rw [hfa, hfc, hm]; exact hv.cell f hf, hv.free f, by rw [cell_of_row _ _ _ _ _ _ hb]; rfl, ?_⟩
    rw [hm]
    exact ⟨((KeepH.none_ hY).trans (.row (h1.own f hf) hg)).trans (.set hv), _, _, h1.add hf hg ho hat⟩
  have HAL : Hid ((m = 0 ∨ (Q f).getD (m - 1) 0 ≠ x) → addL (Q f) x = Q f ++ [x]) := fun h => by
    unfold addL
    rw [if_neg]
    intro e
    rw [List.getLast?_eq_getElem?, ← hm] at e
    rcases h with h | h
    · rw [List.getElem?_eq_none (by omega)] at e; cases e
    · exact h (by rw [List.getD_eq_getElem?_getD, e]; rfl)
  have HALN : Hid (m ≠ 0 → (Q f).getD (m - 1) 0 = x → addL (Q f) x = Q f) := fun h0 h => by
    unfold addL
    rw [if_pos]
    rw [List.getLast?_eq_getElem?, ← hm]
    rw [List.getD_eq_getElem?_getD, List.getElem?_eq_getElem (by omega)] at h
    rw [List.getElem?_eq_getElem (by omega)]
    exact congrArg some h
  have HCL : Hid (∀ Y, w.grownBy Y none → m ≠ 0 → ∃ g, fa = some ⟨g, 0, none⟩ ∧ Y.cell? ⟨g, m - 1, none⟩ = some (.int .i64 ((Q f).getD (m - 1) 0))) := fun Y hY h0 => by
    obtain ⟨g, c, e, h1⟩ := owns_at (HOW.out Y hY) (by omega)
    simp only [Value.slice.injEq] at e
    refine ⟨g, e.1, h1 (m - 1) _ ?_⟩
    unfold intV
    rw [List.getElem?_map, List.getElem?_eq_getElem (by omega), List.getD_eq_getElem?_getD, List.getElem?_eq_getElem (by omega)]; rfl
  obtain ⟨xs, hxs⟩ : ∃ xs, xs = intV (Q f) := ⟨_, rfl⟩
  rw [← hxs] at HOW HFIN
  obtain ⟨i0, hi0, hz0, hz1, hz2⟩ := info_parts infoInt
  have c2 : ∀ o, (w.alloc o).cell? ⟨bx, 0, none⟩ = some (.slice (some ⟨kb, 0, none⟩) T T) := fun o => (World.grownBy_alloc _ o none).cell c0 (by simp)
  have c3 : ∀ o, (w.alloc o).cell? ⟨kb, f, none⟩ = some (.slice fa m fc) := fun o => (World.grownBy_alloc _ o none).cell c1 (by simp)
  clear h hfa hfc hm hxs
  by_cases h0 : m = 0
  · subst h0
    have HA0 := show Hid _ from HAL.out (.inl rfl)
    go_enter Tryz.func57, Tryz.ntmps57
    go_wp2_with fail
    go_region_law (first
      | (refine step_append_liesW _ rfl (.tmp 30) (.tmp 32) 24 rfl P.heap.size 3 i0 (.int .i64 0) 1 8 Tryz.underlying24 hi0 hz0 hz1 hz2 rfl (by decide) (.slice fa 0 fc) 0 xs (by simp [Act.eval]) (HOW.out _ (grown_trans (World.grownBy_alloc _ _ none) (grown_drewN _ _))) ⟨w.heap.size, 0, none⟩ 1 1 [.int .i64 x] (by simp [Act.eval]) rfl (World.news_of_block (heap_alloc_last w _)) (by simp [Value.oneCell']) (by decide) (by unfold maxLen; omega) (by omega) (HPS.out _ (grown_trans (World.grownBy_alloc _ _ none) (grown_drewN _ _))) ?_; intro g9 c9 wB hoB hgB hat; obtain ⟨q1, q2, q3, q4⟩ := HFIN.out _ wB g9 c9 (grown_trans (World.grownBy_alloc _ _ none) (grown_drewN _ _)) hgB hoB hat; have HQ1 := show Hid _ from q4; clear q4 hoB hgB hat)
      | fail)
    all_goals go_wp2_with fail
    all_goals refine bodyPost_end (v := .tuple #[]) (by simp [results, Tryz.results57]) rfl ?_
    all_goals exact ⟨rfl, by rw [HA0.out]; exact HQ1.out⟩
  · obtain ⟨k, rfl⟩ : ∃ k, m = k + 1 := ⟨m - 1, by omega⟩
    obtain ⟨g, rfl, d0⟩ := HCL.out w (grown_refl _ _) h0
    rw [Nat.add_sub_cancel] at d0
    obtain ⟨z, hz⟩ : ∃ z, z = (Q f).getD k 0 := ⟨_, rfl⟩
    rw [← hz] at d0
    have hk0 : (0 : Int) ≤ (k : Int) := by omega
    have hk1 : (k : Int) < (k : Int) + 1 := by omega
    have hkd : decide ((k : Int) < 0) = false := decide_eq_false (by omega)
    by_cases e : z = x
    · have HA1 := show Hid _ from HALN.out h0 (by rw [Nat.add_sub_cancel, ← hz]; exact e)
      have hzx : (z != x) = false := by rw [e]; exact bne_self_eq_false _
      clear hz e
      go_enter Tryz.func57, Tryz.ntmps57
      go_wp2_with fail
      refine bodyPost_end (v := .tuple #[]) (by simp [results, Tryz.results57]) rfl ?_
      refine ⟨rfl, .refl _, ua, uc, ?_⟩
      rw [HA1.out, updL_id]
      exact HL.out
    · have HA0 := show Hid _ from HAL.out (.inr (by rw [Nat.add_sub_cancel, ← hz]; exact e))
      have hzx : (z != x) = true := bne_iff_ne.2 e
      clear hz e
      go_enter Tryz.func57, Tryz.ntmps57
      go_wp2_with fail
      go_region_law (first
        | (refine step_append_liesW _ rfl (.tmp 30) (.tmp 32) 24 rfl P.heap.size 3 i0 (.int .i64 0) 1 8 Tryz.underlying24 hi0 hz0 hz1 hz2 rfl (by decide) (.slice (some ⟨g, 0, none⟩) (k + 1) fc) (k + 1) xs (by simp [Act.eval]) (HOW.out _ (grown_trans (World.grownBy_alloc _ _ none) (grown_drewN _ _))) ⟨w.heap.size, 0, none⟩ 1 1 [.int .i64 x] (by simp [Act.eval]) rfl (World.news_of_block (heap_alloc_last w _)) (by simp [Value.oneCell']) (by decide) (by unfold maxLen; omega) (by omega) (HPS.out _ (grown_trans (World.grownBy_alloc _ _ none) (grown_drewN _ _))) ?_; intro g9 c9 wB hoB hgB hat; obtain ⟨q1, q2, q3, q4⟩ := HFIN.out _ wB g9 c9 (grown_trans (World.grownBy_alloc _ _ none) (grown_drewN _ _)) hgB hoB hat; have HQ1 := show Hid _ from q4; clear q4 hoB hgB hat)
        | fail)
      all_goals go_wp2_with fail
      all_goals refine bodyPost_end (v := .tuple #[]) (by simp [results, Tryz.results57]) rfl ?_
      all_goals exact ⟨rfl, by rw [HA0.out]; exact HQ1.out⟩

end Go.Proofs.YthoamlahbnphkaaGreat.J

/-
  relate: reads.
-/
namespace Go.Proofs.YthoamlahbnphkaaGreat.J
open Go.RowKit Go.Maps Go.Shelf

attribute [local go_sem] Oper.semAt_some

/-- What is handed out for one transition, among edges of the state behind it. -/
def rdE (tl : List It) (tn : Nat) (F : Nat → Bool) (i b : Nat) (l : List (Nat × Nat)) : List (Nat × Int) := (l.filter fun x => decide (tn ≤ x.1) && F (x.1 - tn)).map fun x => (i, nmF tl b x.1)
theorem rdE_snoc (tl : List It) (tn : Nat) (F : Nat → Bool) (i b : Nat) (l : List (Nat × Nat)) (s t : Nat) : rdE tl tn F i b (l ++ [(s, t)]) = rdE tl tn F i b l ++ (if (decide (tn ≤ s) && F (s - tn)) = true then [(i, nmF tl b s)] else []) := by
  unfold rdE
  rw [List.filter_append, List.map_append]
  by_cases h : (decide (tn ≤ s) && F (s - tn)) = true
  · rw [if_pos h, List.filter_cons, if_pos h]; rfl
  · rw [if_neg h, List.filter_cons, if_neg h]; rfl
theorem rdE_len (tl : List It) (tn : Nat) (F : Nat → Bool) (i b : Nat) (l : List (Nat × Nat)) : (rdE tl tn F i b l).length ≤ l.length := by
  unfold rdE
  rw [List.length_map]
  exact List.length_filter_le _ _
/-- The state behind a transition. -/
def bhF (es : List (List (Nat × Nat))) (x : It) : Nat := (ldF (es.getD x.1.toNat []) x.2.toNat).toNat
/-- What is handed out for the transitions below k. -/
def rdT (es : List (List (Nat × Nat))) (tl : List It) (tn : Nat) (F : Nat → Bool) : Nat → List (Nat × Int)
  | 0 => []
  | k + 1 => rdT es tl tn F k ++ rdE tl tn F k (bhF es (tl.getD k (0, 0))) (es.getD (bhF es (tl.getD k (0, 0))) [])
/-- Lists, once all this has been handed to them. -/
def foldQ (Q : Nat → List Int) (l : List (Nat × Int)) : Nat → List Int := l.foldl (fun Q p => updL Q p.1 (addL (Q p.1) p.2)) Q
theorem foldQ_snoc (Q : Nat → List Int) (l : List (Nat × Int)) (p : Nat × Int) : foldQ Q (l ++ [p]) = updL (foldQ Q l) p.1 (addL (foldQ Q l p.1) p.2) := by
  unfold foldQ
  rw [List.foldl_append]; rfl
theorem addL_len (l : List Int) (x : Int) : (addL l x).length ≤ l.length + 1 := by
  unfold addL
  split
  · omega
  · rw [List.length_append]; exact Nat.le_refl _
theorem foldQ_len (Q : Nat → List Int) (f : Nat) : ∀ (l : List (Nat × Int)), (foldQ Q l f).length ≤ (Q f).length + l.length := fun l => by
  induction l generalizing Q with
  | nil => exact Nat.le_refl _
  | cons p l ih =>
    have h1 := ih (updL Q p.1 (addL (Q p.1) p.2))
    have h2 : foldQ Q (p :: l) f = foldQ (updL Q p.1 (addL (Q p.1) p.2)) l f := rfl
    rw [h2, List.length_cons]
    by_cases e : f = p.1
    · subst e
      rw [updL_same] at h1
      have h3 := addL_len (Q p.1) p.2
      omega
    · rw [updL_other _ _ e] at h1
      omega
theorem rdT_len {es : List (List (Nat × Nat))} {tl : List It} {tn c : Nat} {F : Nat → Bool} (h : ∀ q, (es.getD q []).length ≤ c) : ∀ k, (rdT es tl tn F k).length ≤ k * c
  | 0 => by simp [rdT]
  | k + 1 => by
    have h1 := rdT_len (tl := tl) (tn := tn) (F := F) h k
    have h2 := rdE_len tl tn F k (bhF es (tl.getD k (0, 0))) (es.getD (bhF es (tl.getD k (0, 0))) [])
    have h3 := h (bhF es (tl.getD k (0, 0)))
    rw [rdT, List.length_append, Nat.succ_mul]
    omega

end Go.Proofs.YthoamlahbnphkaaGreat.J

/-
  trans: Direct, exported.
-/
namespace Go.Proofs.YthoamlahbnphkaaGreat.J
open Go.RowKit Go.Maps Go.Shelf

attribute [local go_sem] Oper.semAt_some

theorem trI_mem {tn : Nat} {l : List (Nat × Nat)} {i : Nat} {x : It} (h : x ∈ trI tn l i) : ∃ e ∈ l, tn ≤ e.1 ∧ x = ((i : Int), (e.1 : Int)) := by
  unfold trI at h
  obtain ⟨e, he, rfl⟩ := List.mem_map.1 h
  obtain ⟨h1, h2⟩ := List.mem_filter.1 he
  exact ⟨e, h1, by simpa using h2, rfl⟩
theorem trT_mem {tn : Nat} {es : List (List (Nat × Nat))} : ∀ {i : Nat} {x : It}, x ∈ trT tn es i → ∃ q, q < i ∧ ∃ e ∈ es.getD q [], tn ≤ e.1 ∧ x = ((q : Int), (e.1 : Int))
  | 0, x, h => by cases h
  | i + 1, x, h => by
    rcases List.mem_append.1 h with h | h
    · obtain ⟨q, h1, h2⟩ := trT_mem h
      exact ⟨q, by omega, h2⟩
    · exact ⟨i, Nat.lt_succ_self _, trI_mem h⟩
theorem nextL_some {l : List (Nat × Nat)} {e : Nat × Nat} (h : e ∈ l) : ∃ t : Nat, nextL l (e.1 : Int) = some (t : Int) ∧ ∃ e' ∈ l, e'.1 = e.1 ∧ e'.2 = t := by
  unfold nextL
  cases h1 : l.find? (fun x => decide ((x.1 : Int) = (e.1 : Int))) with
  | none =>
    have := List.find?_eq_none.1 h1 e h
    simp at this
  | some x =>
    have h2 := List.find?_some h1
    refine ⟨x.2, rfl, x, List.mem_of_find?_eq_some h1, ?_, rfl⟩
    have : (x.1 : Int) = (e.1 : Int) := by simpa using h2
    omega
/-- What stands right behind a transition. -/
def dirOf (tn : Nat) (st : Int) (es : List (List (Nat × Nat))) (x : It) : List Int := preF (x.1 == 0 && x.2 == st) ++ dirL tn (es.getD ((leadA es x).getD 0).toNat [])
/-- What always holds of the edges that are walked. -/
structure EsOK (ks : List (List It)) (es : List (List (Nat × Nat))) : Prop where
  le : ks.length ≤ 256
  len : es.length = ks.length
  each : ∀ q, q < ks.length → (es.getD q []).length ≤ 130 ∧ ((es.getD q []).map Prod.fst).Nodup ∧ ∀ x ∈ es.getD q [], x.1 < 130 ∧ x.2 < ks.length
theorem EsOK.short {ks : List (List It)} {es : List (List (Nat × Nat))} (h : EsOK ks es) (q : Nat) : (es.getD q []).length ≤ 130 := by
  by_cases hq : q < ks.length
  · exact (h.each q hq).1
  · rw [List.getD_eq_getElem?_getD, List.getElem?_eq_none (by rw [h.len]; omega)]; simp
theorem EsOK.lead {ks : List (List It)} {es : List (List (Nat × Nat))} (h : EsOK ks es) {x : It} {v : Int} (hx : leadA es x = some v) : 0 ≤ v ∧ v < (ks.length : Int) := by
  unfold leadA leadT at hx
  split at hx
  · rename_i hc
    obtain ⟨e, he, _, h2⟩ := nextL_mem hx
    have := ((h.each x.1.toNat (by rw [← h.len]; omega)).2.2 e he).2
    omega
  · split at hx
    · simp [nextL] at hx
    · cases hx
theorem EsOK.ok {ks : List (List It)} {es : List (List (Nat × Nat))} (h : EsOK ks es) : LeadOK es := fun x v hx => by
  have := h.lead hx
  have := h.le
  omega
theorem EsOK.trans {ks : List (List It)} {es : List (List (Nat × Nat))} (h : EsOK ks es) {tn : Nat} {x : It} (hx : x ∈ trT tn es ks.length) : ∃ q s tq : Nat, x = ((q : Int), (s : Int)) ∧ q < ks.length ∧ tn ≤ s ∧ s < 130 ∧ leadA es ((q : Int), (s : Int)) = some (tq : Int) ∧ tq < ks.length := by
  obtain ⟨q, hq, e, he, h1, rfl⟩ := trT_mem hx
  obtain ⟨t, h2, e', he', _, h4⟩ := nextL_some he
  have h5 := (h.each q hq).2.2 e' he'
  have h6 := (h.each q hq).2.2 e he
  exact ⟨q, e.1, t, rfl, hq, h1, h6.1, by rw [leadA_at es (by rw [h.len]; exact hq)]; exact h2, by rw [← h4]; exact h5.2⟩

/-- What Direct tells. -/
def DirErr (l : List It) (D : It → List Int) (w : World) (e : Ending) (y : World) : Prop := ∃ (rb : Nat) (ua : Nat → Option Addr) (uc : Nat → Nat), e = .returned (.tuple #[.slice (some ⟨rb, 0, none⟩) l.length l.length, .int .i64 0]) ∧ ValAt y rb l.length 24 (fun k => .slice (ua k) (D (l.getD k (0, 0))).length (uc k)) ∧ (∀ k, k < l.length → y.ownsRow w.heap.size 3 1 (.slice (ua k) (D (l.getD k (0, 0))).length (uc k)) (D (l.getD k (0, 0))).length (intV (D (l.getD k (0, 0))))) ∧ w.grownBy y none

/-- Direct's row is new. -/
def DirLo (w : World) (e : Ending) : Prop := ∀ (a : Option Addr) (k c : Nat) (x : Value), e = .returned (.tuple #[.slice a k c, x]) → ∀ rb, a = some ⟨rb, 0, none⟩ → w.heap.size ≤ rb

section
variable (ta na la pa : Option Addr) (tc nc lc pc : Nat) (n : Nat) (st : Int) (w : World) (tn nn ln : Nat)
end

end Go.Proofs.YthoamlahbnphkaaGreat.J

/-
  trans: automatonOf of any grammar; the law's awake.
-/
namespace Go.Proofs.YthoamlahbnphkaaGreat.J
open Go.RowKit Go.Maps Go.Shelf

attribute [local go_sem] Oper.semAt_some

theorem esOK_of {G : List It → Nat → List It} {n : Nat} {R : Nat → List Int} {S : Nat} {ks : List (List It)} {es : List (List (Nat × Nat))} (h : AutF G n R S ks es) (hS : S ≤ 130) : EsOK ks es :=
  ⟨h.kok.le, h.len, fun q hq => ⟨by rw [h.elen hq]; exact Nat.le_trans (symsT_len _ _) hS, by rw [h.fst q hq]; exact symsT_nodup _ _, fun x hx => by
    have := h.snd q hq x hx
    omega⟩⟩

section
variable (ta na la pa : Option Addr) (tc nc lc pc : Nat) (ts : List (ByteArray × Int)) (ns : List ByteArray) (lv : List Int) (n : Nat) (L : Nat → Int) (R : Nat → List Int) (ra : Nat → Option Addr) (rc : Nat → Nat) (V : Nat → Int) (st : Int) (w : World) (tn nn ln : Nat) (hlen : ts.length = tn ∧ ns.length = nn ∧ lv.length = ln) (hG : GAt w ta na la pa tc nc lc pc ts ns lv n L R ra rc V)
include hlen hG
theorem ofBad1 (hc : ¬ closedOK ts ns lv st n L R V) : OfBad ta na la pa tc nc lc pc n st w tn nn ln 1 := fun X hX =>
  of_bad ta na la pa tc nc lc pc n st X tn nn ln 1 (.inl rfl) fun Y hY => buildBad ta na la pa tc nc lc pc ts ns lv n L R ra rc V st Y tn nn ln hlen (hG.kept (grown_trans hX hY)) hc
theorem ofBad11 (hc : closedOK ts ns lv st n L R V) (h : autoF (GG tn n L R) (tn + nn) 256 = none) : OfBad ta na la pa tc nc lc pc n st w tn nn ln 11 := fun X hX =>
  of_bad ta na la pa tc nc lc pc n st X tn nn ln 11 (.inr rfl) fun Y hY => build_none ta na la pa tc nc lc pc ts ns lv n L R ra rc V st w tn nn ln hlen hG hc h Y (grown_trans hX hY)
theorem ofOk (hc : closedOK ts ns lv st n L R V) {ks : List (List It)} {es : List (List (Nat × Nat))} (h : autoF (GG tn n L R) (tn + nn) 256 = some (ks, es)) : OfOk ta na la pa tc nc lc pc n st w tn nn ln ks es ∧ EsOK ks es := by
  have hM : MayOK tn nn n st L R true := by obtain ⟨rfl, rfl, rfl⟩ := hlen; exact mayOK_closed hc
  have hE : EsOK ks es := esOK_of (autF hM.p0 h) (by have := hM.tmax; have := hM.nmax; omega)
  refine ⟨fun X hX => of_ok ta na la pa tc nc lc pc n st X tn nn ln (askN es) ks es hE.le hE.len (fun q hq => ⟨(hE.each q hq).1, (hE.each q hq).2.1, fun x hx => by have := (hE.each q hq).2.2 x hx; have := hE.le; omega⟩) fun Y hY => ?_, hE⟩
  refine (build_some ta na la pa tc nc lc pc ts ns lv n L R ra rc V st w tn nn ln hlen hG hc h Y (grown_trans hX hY)).mono ?_
  rintro e y ⟨sa, sc, kv, ev, he, hAP, hg⟩
  exact ⟨sa, sc, kv, ev, he, hAP.base hY.size, hg⟩
end

end Go.Proofs.YthoamlahbnphkaaGreat.J

/-
  relate: automatonOf of any grammar.
-/
namespace Go.Proofs.YthoamlahbnphkaaGreat.J
open Go.RowKit Go.Maps Go.Shelf

/-- Which nonterminals derive the empty row. -/
noncomputable def nulB (tn n : Nat) (L : Nat → Int) (R : Nat → List Int) (i : Nat) : Bool := by
  classical exact decide (Nul n L R ((tn + i : Nat) : Int))
theorem nulB_iff (tn n : Nat) (L : Nat → Int) (R : Nat → List Int) (i : Nat) : nulB tn n L R i = true ↔ Nul n L R ((tn + i : Nat) : Int) := by
  classical
  unfold nulB
  exact decide_eq_true_iff

section
variable (ta na la pa : Option Addr) (tc nc lc pc : Nat) (ts : List (ByteArray × Int)) (ns : List ByteArray) (lv : List Int) (n : Nat) (L : Nat → Int) (R : Nat → List Int) (ra : Nat → Option Addr) (rc : Nat → Nat) (V : Nat → Int) (st : Int) (w : World) (tn nn ln : Nat) (hlen : ts.length = tn ∧ ns.length = nn ∧ lv.length = ln) (hG : GAt w ta na la pa tc nc lc pc ts ns lv n L R ra rc V)
include hlen hG
theorem uofBad1 (hc : ¬ closedOK ts ns lv st n L R V) : Calls Tryz.prog 30 #[.agg #[.slice ta tn tc, .slice na nn nc, .slice la ln lc, .int .i64 st, .slice pa n pc]] w fun e y => e = .returned (.tuple #[.agg #[.slice none 0 0, .slice none 0 0, .slice none 0 0, .int .i64 0, .slice none 0 0, .slice none 0 0, .slice none 0 0, .slice none 0 0, .slice none 0 0, .slice none 0 0], .int .i64 1]) ∧ w.grownBy y none :=
  uof_bad ta na la pa tc nc lc pc n st w tn nn ln 1 (.inl rfl) fun Y hY => buildBad ta na la pa tc nc lc pc ts ns lv n L R ra rc V st Y tn nn ln hlen (hG.kept hY) hc
theorem uofBad11 (hc : closedOK ts ns lv st n L R V) (h : autoF (GG tn n L R) (tn + nn) 256 = none) : Calls Tryz.prog 30 #[.agg #[.slice ta tn tc, .slice na nn nc, .slice la ln lc, .int .i64 st, .slice pa n pc]] w fun e y => e = .returned (.tuple #[.agg #[.slice none 0 0, .slice none 0 0, .slice none 0 0, .int .i64 0, .slice none 0 0, .slice none 0 0, .slice none 0 0, .slice none 0 0, .slice none 0 0, .slice none 0 0], .int .i64 11]) ∧ w.grownBy y none :=
  uof_bad ta na la pa tc nc lc pc n st w tn nn ln 11 (.inr rfl) fun Y hY => build_none ta na la pa tc nc lc pc ts ns lv n L R ra rc V st w tn nn ln hlen hG hc h Y hY
theorem uofOk (hc : closedOK ts ns lv st n L R V) {ks : List (List It)} {es : List (List (Nat × Nat))} (h : autoF (GG tn n L R) (tn + nn) 256 = some (ks, es)) : (Calls Tryz.prog 30 #[.agg #[.slice ta tn tc, .slice na nn nc, .slice la ln lc, .int .i64 st, .slice pa n pc]] w fun e y => UofTold ta na la pa tc nc lc pc n st tn nn ln ks es (trT tn es ks.length) (nulB tn n L R) w e y) ∧ EsOK ks es ∧ (trT tn es ks.length).Nodup ∧ (trT tn es ks.length).length ≤ 40000 := by
  have hM : MayOK tn nn n st L R true := by obtain ⟨rfl, rfl, rfl⟩ := hlen; exact mayOK_closed hc
  obtain ⟨hO, hE⟩ := ofOk ta na la pa tc nc lc pc ts ns lv n L R ra rc V st w tn nn ln hlen hG hc h
  have hA := autF hM.p0 h
  have htl : (trT tn es ks.length).length ≤ 40000 := by
    have h1 := trT_len (tn := tn) (c := 130) ks.length (fun q hq => (hE.each q hq).1)
    have h2 : ks.length * 130 ≤ 256 * 130 := Nat.mul_le_mul_right _ hE.le
    omega
  have htnd : (trT tn es ks.length).Nodup := trT_nodup ks.length fun q hq => (hE.each q hq).2.1
  refine ⟨uof_ok ta na la pa tc nc lc pc n st w tn nn ln (askN es) ks es (trT tn es ks.length) (nulB tn n L R) hM.tmax hM.nmax hE.le (fun q hq => ⟨(hE.each q hq).1, (hE.each q hq).2.1, fun x hx => by have h1 := hA.snd q hq x hx; have := hE.le; omega⟩) htl htnd (fun x hx => ?_) (fun X hX => ?_) (fun X hX => ?_) (fun X hX => ?_), hE, htnd, htl⟩
  · obtain ⟨q, hq, e, he, h1, rfl⟩ := trT_mem hx
    exact ⟨q, e.1, rfl, hq, (hA.snd q hq e he).1⟩
  · refine (build_some ta na la pa tc nc lc pc ts ns lv n L R ra rc V st w tn nn ln hlen hG hc h X hX).mono ?_
    rintro e y ⟨sa, sc, kv, ev, he, hAP, hg⟩
    exact ⟨sa, sc, kv, ev, he, hAP.base hX.size, hg⟩
  · exact listX_ok ta na la pa tc nc lc pc n st X tn nn ln ks es hE.le (fun q hq => (hE.each q hq).1) fun Y hY => hO Y (grown_trans hX hY)
  · exact nullable_ok ta na la pa tc nc lc pc ts ns lv n L R ra rc V st X tn nn ln hlen (hG.kept hX) (.inr hc) (cl := true) ⟨hM.t0, hM.tmax, hM.n0, hM.nmax, hM.pmax, hM.p0, hM.left, hM.right, hM.start, hM.added⟩ (nulB tn n L R) (fun i => nulB_iff tn n L R i)
end

end Go.Proofs.YthoamlahbnphkaaGreat.J
