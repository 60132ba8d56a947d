/-
  Grade, walked.
-/
import Derived.Test.YtkbpnafahimeiaaLevelWalk
import Derived.Test.YtkbpnafahimeiaaCopiedWalk
namespace Go.Proofs.Ytkbpnafahimeiaa
open Go.RowKit

def setLev (ps : List PR) (i : Nat) (l : Int) : List PR := ps.set i { ps.getD i ⟨0, [], 0⟩ with level := l }
def gradeGo (l : Int) : List PR → List Int → Option (List PR)
  | ps, [] => some ps
  | ps, h :: r => if 0 ≤ h ∧ h < ps.length then gradeGo l (setLev ps h.toNat l) r else none
def BS.grade (S : BS) (l : Int) (hs : List Int) : Int × BS :=
  if 0 ≤ l ∧ l ≤ S.sides.length then
    match gradeGo l S.prods hs with
    | some ps => (0, { S with prods := ps })
    | none => (1, S)
  else (1, S)
/-- As it was, but for its level. -/
def Graded (l : Int) (ps ps' : List PR) : Prop := ps'.length = ps.length ∧ ∀ i, i < ps.length → (ps'.getD i ⟨0, [], 0⟩).left = (ps.getD i ⟨0, [], 0⟩).left ∧ (ps'.getD i ⟨0, [], 0⟩).right = (ps.getD i ⟨0, [], 0⟩).right ∧ ((ps'.getD i ⟨0, [], 0⟩).level = (ps.getD i ⟨0, [], 0⟩).level ∨ (ps'.getD i ⟨0, [], 0⟩).level = l)
theorem Graded.refl (l : Int) (ps : List PR) : Graded l ps ps := ⟨rfl, fun _ _ => ⟨rfl, rfl, .inl rfl⟩⟩
theorem Graded.set {l : Int} {ps ps' : List PR} (h : Graded l ps ps') {k : Nat} (hk : k < ps.length) : Graded l ps (setLev ps' k l) := by
  refine ⟨by simp [setLev, h.1], fun i hi => ?_⟩
  obtain ⟨h1, h2, h3⟩ := h.2 i hi
  have hi' : i < ps'.length := by rw [h.1]; exact hi
  by_cases e : i = k
  · subst e
    have : (setLev ps' i l).getD i ⟨0, [], 0⟩ = { ps'.getD i ⟨0, [], 0⟩ with level := l } := by simp [setLev, List.getD, hi']
    rw [this]
    exact ⟨h1, h2, .inr rfl⟩
  · have : (setLev ps' k l).getD i ⟨0, [], 0⟩ = ps'.getD i ⟨0, [], 0⟩ := by simp [setLev, List.getD, show ¬ k = i from fun x => e x.symm]
    rw [this]
    exact ⟨h1, h2, h3⟩
theorem gradeGo_graded {l : Int} {ps0 : List PR} : ∀ (hs : List Int) (ps ps' : List PR), Graded l ps0 ps → gradeGo l ps hs = some ps' → Graded l ps0 ps'
  | [], ps, ps', h, e => by cases e; exact h
  | a :: r, ps, ps', h, e => by
    unfold gradeGo at e
    split at e
    · next hc => exact gradeGo_graded r _ _ (h.set (by rw [← h.1]; omega)) e
    · cases e
theorem gradeGo_app {l : Int} : ∀ (xs ys : List Int) (ps ps' : List PR), gradeGo l ps xs = some ps' → gradeGo l ps (xs ++ ys) = gradeGo l ps' ys
  | [], ys, ps, ps', h => by cases h; rfl
  | x :: xs, ys, ps, ps', h => by
    unfold gradeGo at h
    rw [List.cons_append]
    conv => lhs; unfold gradeGo
    split at h
    · next hc => rw [if_pos hc]; exact gradeGo_app xs ys _ _ h
    · cases h
theorem Graded.mem {l : Int} {ps ps' : List PR} (h : Graded l ps ps') {p : PR} (hp : p ∈ ps') : ∃ q ∈ ps, p.left = q.left ∧ p.right = q.right ∧ (p.level = q.level ∨ p.level = l) := by
  obtain ⟨i, hi, rfl⟩ := List.getElem_of_mem hp
  have hi' : i < ps.length := by rw [← h.1]; exact hi
  have := h.2 i hi'
  rw [show ps'.getD i ⟨0, [], 0⟩ = ps'[i] by simp [List.getD, hi], show ps.getD i ⟨0, [], 0⟩ = ps[i] by simp [List.getD, hi']] at this
  exact ⟨ps[i], List.getElem_mem hi', this⟩
theorem BS.OK.graded {S : BS} (h : S.OK) {l : Int} {ps : List PR} (hl : 0 ≤ l ∧ l ≤ S.sides.length) (hg : Graded l S.prods ps) : ({ S with prods := ps } : BS).OK := by
  refine ⟨h.syms, h.tnames, h.nnames, h.tnd, h.nnd, h.sides, h.sdv, by show ps.length ≤ 96; rw [hg.1]; exact h.prods, h.lev, h.lev0, h.levT, h.has, fun p hp => ?_, fun p hp k hk => ?_, fun p hp => ?_, fun p hp => ?_, h.st⟩
  · obtain ⟨q, hq, e1, _, _⟩ := hg.mem hp
    rw [e1]
    exact h.pl q hq
  · obtain ⟨q, hq, _, e2, _⟩ := hg.mem hp
    rw [e2] at hk
    exact h.pr q hq k hk
  · obtain ⟨q, hq, _, e2, _⟩ := hg.mem hp
    rw [e2]
    exact h.plen q hq
  · obtain ⟨q, hq, _, _, e3⟩ := hg.mem hp
    have := h.pv q hq
    show 0 ≤ p.level ∧ p.level ≤ (S.sides.length : Int)
    rcases e3 with e3 | e3 <;> rw [e3] <;> omega
theorem flat_set (l : Int) : ∀ (ps : List PR) (rs : List Value) (i : Nat), rs.length = ps.length → i < ps.length → ((ps.zip rs).flatMap fun x => prL x.1 x.2).set (i * 3 + 2) (.int .i64 l) = ((setLev ps i l).zip rs).flatMap fun x => prL x.1 x.2
  | [], _, _, _, h => by simp at h
  | p :: ps, [], _, h, _ => by simp at h
  | p :: ps, r :: rs, 0, _, _ => by simp [setLev, prL]
  | p :: ps, r :: rs, i + 1, h1, h2 => by
    have ih := flat_set l ps rs i (by simpa using h1) (by simpa using h2)
    have e : setLev (p :: ps) (i + 1) l = p :: setLev ps i l := by simp [setLev]
    rw [e, List.zip_cons_cons, List.zip_cons_cons, List.flatMap_cons, List.flatMap_cons, ← ih]
    show (prL p r ++ _).set _ _ = _
    rw [List.set_append_right _ _ (by simp [prL]; omega), show (i + 1) * 3 + 2 - (prL p r).length = i * 3 + 2 by simp [prL]; omega]

end Go.Proofs.Ytkbpnafahimeiaa

namespace Go.Proofs.Ytkbpnafahimeiaa
open Go.RowKit

attribute [local go_sem] Oper.semAt_some

set_option maxRecDepth 100000 in
set_option maxHeartbeats 1000000 in
theorem grade_good (b : Nat) (S : BS) (l : Int) (a : Option Addr) (cap : Nat) (hs : List Int) (w : World) (hB : BAt w b S) (hl : 0 ≤ l ∧ l ≤ S.sides.length) (ha : IntsAt w a hs) (hlen : hs.length ≤ 17592186044416) (Q : Int × BS) (hQ : Q = S.grade l hs) :
    Calls Try.prog 60 #[.pointer (some ⟨b, 0, none⟩), .int .i64 l, .slice a hs.length cap] w fun e w' => e = .returned (.int .i64 Q.1) ∧ BAt w' b Q.2 ∧ w.grownBy w' (some b) := by
  have HBA : Hid (BAt w b S) := hB
  obtain ⟨hok, c, hr, hc⟩ := hB
  have HR : Hid (BRow w b c) := hr
  have HC : Hid (BCells w S c) := hc
  have HOK : Hid S.OK := hok
  have HL : Hid (IntsAt w a hs) := ha
  have HQ : Hid (Q = S.grade l hs) := hQ
  have HLL : Hid (0 ≤ l ∧ l ≤ S.sides.length) := hl
  obtain ⟨a69, c69, e69, _⟩ := hc.sd.form
  have h69 := hr.cell 69 (by omega)
  rw [e69] at h69
  obtain ⟨rs, h1, h2, h3⟩ := hc.pr
  have H1 : Hid (rs.length = S.prods.length) := h1
  have H3 : Hid (∀ i, i < S.prods.length → IntsIn w (rs.getD i undef) (S.prods.getD i ⟨0, [], 0⟩).right) := h3
  have H2 : Hid (w.ownsRow 0 52 3 (c 70) S.prods.length ((S.prods.zip rs).flatMap fun x => prL x.1 x.2)) := h2
  obtain ⟨a70, c70, e70⟩ := owns_form h2
  have h70 := hr.cell 70 (by omega)
  rw [e70] at h70
  have hp96 : S.prods.length ≤ 96 := hok.prods
  have HCOPY : Hid (Calls Try.prog 71 #[.slice a70 S.prods.length c70] w fun e w' => ∃ a' c', e = .returned (.slice a' S.prods.length c') ∧ w'.ownsRow w.heap.size 52 3 (.slice a' S.prods.length c') S.prods.length ((S.prods.zip rs).flatMap fun x => prL x.1 x.2) ∧ w.grownBy w' none) := by
    rw [e70] at h2
    refine copiedProd_any a70 _ c70 _ w (flat_length h1) ?_ (fun x hx j u hu => by
      subst hx
      rcases h2.2 with ⟨hv, _⟩ | ⟨g, cap', cur, hv, _⟩
      · cases hv
      · simp only [Value.slice.injEq, Option.some.injEq] at hv
        obtain ⟨rfl, _, rfl⟩ := hv
        exact World.ownsRow.cells h2 rfl j u hu) ?_ (by omega)
    · intro e
      rcases h2.2 with ⟨hv, h0⟩ | ⟨g, cap', cur, hv, _⟩
      · simp only [Value.slice.injEq] at hv
        exact ⟨h0, hv.2.2⟩
      · rw [e] at hv; cases hv
    · intro u hu
      obtain ⟨x, hx, hu⟩ := List.mem_flatMap.1 hu
      have hri := List.of_mem_zip (a := x.1) (b := x.2) hx
      obtain ⟨i, hi, e⟩ := List.getElem_of_mem hri.2
      have hIn := h3 i (by omega)
      rw [show rs.getD i undef = x.2 by simp [List.getD, hi, e]] at hIn
      obtain ⟨ar, cr, er⟩ := owns_form hIn
      simp only [prL, List.mem_cons, List.not_mem_nil, or_false] at hu
      rcases hu with rfl | rfl | rfl
      · rfl
      · rw [er]; rfl
      · rfl
  have d1 : decide (l < 0) = false := decide_eq_false (by omega)
  have d2 : decide ((S.sides.length : Int) < l) = false := decide_eq_false (by omega)
  obtain ⟨n, hn⟩ : ∃ n, n = hs.length := ⟨_, rfl⟩
  have HN : Hid (n = hs.length) := hn
  obtain ⟨m, hm⟩ : ∃ m, m = S.prods.length := ⟨_, rfl⟩
  have HM : Hid (m = S.prods.length) := hm
  rw [← hn] at hlen ⊢
  rw [← hm] at hp96 h70 HCOPY
  clear hr hc hok ha hQ hl e69 h1 h2 h3 e70 hn hm
  go_enter Try.func60, Try.ntmps60
  go_wp2_with fail
  refine HCOPY.out.mono ?_
  rintro e w2 ⟨ga, gc, rfl, hown, hg2⟩
  have HG2 : Hid (w.grownBy w2 none) := hg2
  have HOWN : Hid (w2.ownsRow w.heap.size 52 3 (.slice ga m gc) m ((S.prods.zip rs).flatMap fun x => prL x.1 x.2)) := hown
  clear hown hg2 HCOPY
  go_wp2_with fail
  go_loopw [32] (fun v32 wr => ∃ (k : Nat) (ps : List PR), k ≤ n ∧ v32 = .int .i64 k ∧ w.grownBy wr none ∧ wr.ownsRow w.heap.size 52 3 (.slice ga m gc) m ((ps.zip rs).flatMap fun x => prL x.1 x.2) ∧ Graded l S.prods ps ∧ gradeGo l S.prods (hs.take k) = some ps) (fun v32 _ => n - (intOf v32).toNat)
  case atStart => exact ⟨0, S.prods, Nat.zero_le _, rfl, HG2.out, HOWN.out, Graded.refl _ _, rfl⟩
  case round =>
    obtain ⟨k, ps, hk, rfl, hg, hrow, hgr, hgo⟩ := hrel
    have HG : Hid (w.grownBy wr none) := hg
    have HROW : Hid (wr.ownsRow w.heap.size 52 3 (.slice ga m gc) m ((ps.zip rs).flatMap fun x => prL x.1 x.2)) := hrow
    have HGR : Hid (Graded l S.prods ps) := hgr
    have HGO : Hid (gradeGo l S.prods (hs.take k) = some ps) := hgo
    have HPL : Hid (ps.length = m) := hgr.1.trans HM.out.symm
    clear hg hrow hgr hgo HOWN HG2
    by_cases hlt : k < n
    · have hlt' : k < hs.length := by rw [← HN.out]; exact hlt
      have HLT : Hid (k < n) := hlt
      rcases HL.out with h0 | ⟨lb, lo, rfl, hcs⟩
      · rw [h0] at hlt'; simp at hlt'
      · have hck := HG.out.cell (hcs k hlt') (by simp)
        have HAPP : Hid (gradeGo l S.prods hs = gradeGo l ps (hs.getD k 0 :: hs.drop (k + 1))) := by
          show _ = _
          conv => lhs; rw [take_drop_at hlt']
          exact gradeGo_app _ _ _ _ HGO.out
        have HNXT : Hid (gradeGo l S.prods (hs.take (k + 1)) = gradeGo l ps [hs.getD k 0]) := by
          show _ = _
          rw [take_succ_at hlt']
          exact gradeGo_app _ _ _ _ HGO.out
        generalize hs.getD k 0 = h at *
        clear hcs
        by_cases hin : 0 ≤ h ∧ h < m
        · obtain ⟨i, rfl⟩ : ∃ i : Nat, h = (i : Int) := ⟨h.toNat, by omega⟩
          have him : i < m := by omega
          have b1 : decide ((i : Int) < 0) = false := decide_eq_false (by omega)
          have b2 : decide ((m : Int) ≤ (i : Int)) = false := decide_eq_false (by omega)
          have b3 : decide (m ≤ i) = false := decide_eq_false (by omega)
          have HST : Hid (gradeGo l ps [(i : Int)] = some (setLev ps i l)) := by
            show _ = _
            unfold gradeGo
            rw [if_pos (by rw [HPL.out]; omega)]
            rfl
          rcases HROW.out.2 with ⟨hv, h0⟩ | ⟨g, cap', cur, hv, hge, hgb, _⟩
          · omega
          · simp only [Value.slice.injEq, true_and] at hv
            obtain ⟨rfl, rfl⟩ := hv
            have hcell : ∃ v, wr.cell? ⟨g, i * 3 + 2, none⟩ = some v := by
              have hlen := HROW.out.1
              have hcs := World.ownsRow.cells HROW.out rfl (i * 3 + 2) _ (List.getElem?_eq_getElem (by rw [hlen]; omega))
              rw [Addr.add_mid, Nat.zero_add] at hcs
              exact ⟨_, hcs⟩
            obtain ⟨v, hcv⟩ := hcell
            have hfz := frozen_of_row wr g (i * 3 + 2) _ _ hgb
            have HGE : Hid (w.heap.size ≤ g) := hge
            clear hin hgb hge
            go_wp2_with fail
            go_roundw
            case rel => exact ⟨k + 1, setLev ps i l, HLT.out, by go_num, grown_new HG.out (grown_setCell _ _ _) HGE.out, by rw [← flat_set l ps rs i (by rw [H1.out, ← HM.out, HPL.out]) (by rw [HPL.out]; exact him)]; exact owns_set HROW.out _, HGR.out.set (by rw [← HM.out]; exact him), by rw [HNXT.out]; exact HST.out⟩
            case measure => have hx := HLT.out; simp [intOf]; omega
        · have hq : Q = (1, S) := by
            rw [HQ.out]
            unfold BS.grade
            rw [if_pos HLL.out, HAPP.out]
            unfold gradeGo
            rw [if_neg (by rw [HPL.out]; exact hin)]
          subst hq
          by_cases h0 : h < 0
          · have b1 : decide (h < 0) = true := decide_eq_true h0
            clear hin h0
            go_wp2_with fail
            go_ret
            exact ⟨rfl, HBA.out.kept HG.out, grown_but _ HG.out⟩
          · have b1 : decide (h < 0) = false := decide_eq_false h0
            have b2 : decide ((m : Int) ≤ h) = true := decide_eq_true (by omega)
            clear hin h0
            go_wp2_with fail
            go_ret
            exact ⟨rfl, HBA.out.kept HG.out, grown_but _ HG.out⟩
    · have hall : gradeGo l S.prods hs = some ps := by
        have h := HGO.out
        rwa [List.take_of_length_le (by rw [← HN.out]; omega)] at h
      have hq : Q = (0, { S with prods := ps }) := by
        rw [HQ.out]
        unfold BS.grade
        rw [if_pos HLL.out, hall]
      subst hq
      have HR1 : Hid (BRow wr b c) := HR.out.kept HG.out (by simp)
      have hc70 := HR1.out.cell 70 (by omega)
      have hf70 := HR1.out.free 70
      have hst := grown_setCell (w := wr) b 70 (.slice ga m gc)
      have hR3 := HR1.out.set 70 (.slice ga m gc) (by omega)
      have hgall : w.grownBy (wr.setCell ⟨b, 70, none⟩ (.slice ga m gc)) (some b) := grown_trans (grown_but _ HG.out) hst
      have hk := HC.out.kept hgall HR.out.apart
      have hP : ProdsIn wr (.slice ga m gc) ps := by
        refine ⟨rs, by rw [H1.out, HGR.out.1], ?_, fun i hi => ?_⟩
        · rw [HPL.out]; exact owns_base HROW.out
        · have hi' : i < S.prods.length := by rw [← HGR.out.1]; exact hi
          rw [(HGR.out.2 i hi').2.1]
          exact (H3.out i hi').kept HG.out (Apart.none _)
      have HFIN : Hid (BAt (wr.setCell ⟨b, 70, none⟩ (.slice ga m gc)) b { S with prods := ps } ∧ w.grownBy (wr.setCell ⟨b, 70, none⟩ (.slice ga m gc)) (some b)) := by
        refine ⟨⟨HOK.out.graded HLL.out HGR.out, _, hR3, ?_⟩, hgall⟩
        exact ⟨by rw [putC_other _ _ (by omega)]; exact hk.tm, by rw [putC_other _ _ (by omega)]; exact hk.tl, by rw [putC_other _ _ (by omega)]; exact hk.nm, by rw [putC_other _ _ (by omega)]; exact hk.nl,
          fun i hi => by rw [putC_other _ _ (by omega)]; exact hk.lv i hi, by rw [putC_other _ _ (by omega)]; exact hk.sd, by rw [putC_same]; exact hP.kept hst HR1.out.apart, by rw [putC_other _ _ (by omega)]; exact hk.st, foot_prods (B := 0) (e := 52) (n := m) HC.out.ft hgall rfl (fun i hi => putC_other _ _ (by omega)) (fun q hq => by rw [putC_same] at hq; exact (HROW.out.lt q hq).1) (by rw [putC_same]; exact (owns_base HROW.out).kept hst (owns_apart (owns_base HROW.out) (by decide) HR1.out.apart)) HPL.out (fun u hu q hq => by
            obtain ⟨x, hx, hu⟩ := List.mem_flatMap.1 hu
            simp only [prL, List.mem_cons, List.not_mem_nil, or_false] at hu
            rcases hu with rfl | rfl | rfl
            · cases hq
            · obtain ⟨i, hi, e⟩ := List.getElem_of_mem (List.of_mem_zip (a := x.1) (b := x.2) hx).2
              have hi' : i < S.prods.length := by rw [← H1.out]; exact hi
              refine foot_rights HC.out.ft H2.out x.2 (List.mem_flatMap.2 ⟨(S.prods[i], rs[i]), ?_, ?_⟩) q hq
              · exact List.mem_iff_getElem.2 ⟨i, by rw [List.length_zip]; omega, by simp⟩
              · simp [prL, e]
            · cases hq)⟩
      clear hst hR3 hgall hk hP hall
      go_wp2_with fail
      go_ret
      exact ⟨rfl, HFIN.out.1, HFIN.out.2⟩

set_option maxRecDepth 100000 in
theorem grade_bad (b : Nat) (S : BS) (l : Int) (a : Option Addr) (n cap : Nat) (w : World) (hB : BAt w b S) (hl : ¬ (0 ≤ l ∧ l ≤ S.sides.length)) :
    Calls Try.prog 60 #[.pointer (some ⟨b, 0, none⟩), .int .i64 l, .slice a n cap] w fun e w' => e = .returned (.int .i64 1) ∧ w' = w := by
  obtain ⟨_, c, hr, hc⟩ := hB
  obtain ⟨a69, c69, e69, _⟩ := hc.sd.form
  have h69 := hr.cell 69 (by omega)
  rw [e69] at h69
  clear hr hc e69
  by_cases h0 : l < 0
  · have d1 : decide (l < 0) = true := decide_eq_true h0
    clear hl h0
    go_enter Try.func60, Try.ntmps60
    go_wp2_with fail
    go_ret
    exact ⟨rfl, rfl⟩
  · have d1 : decide (l < 0) = false := decide_eq_false h0
    have d2 : decide ((S.sides.length : Int) < l) = true := decide_eq_true (by omega)
    clear hl h0
    go_enter Try.func60, Try.ntmps60
    go_wp2_with fail
    go_ret
    exact ⟨rfl, rfl⟩

/-- Grade of any builder. -/
theorem grade_any (b : Nat) (S : BS) (l : Int) (a : Option Addr) (cap : Nat) (hs : List Int) (w : World) (hB : BAt w b S) (ha : IntsAt w a hs) (hlen : hs.length ≤ 17592186044416) :
    Calls Try.prog 60 #[.pointer (some ⟨b, 0, none⟩), .int .i64 l, .slice a hs.length cap] w fun e w' => e = .returned (.int .i64 (S.grade l hs).1) ∧ BAt w' b (S.grade l hs).2 ∧ w.grownBy w' (some b) := by
  by_cases hl : 0 ≤ l ∧ l ≤ S.sides.length
  · exact grade_good b S l a cap hs w hB hl ha hlen _ rfl
  · have e : S.grade l hs = (1, S) := by unfold BS.grade; rw [if_neg hl]
    rw [e]
    refine (grade_bad b S l a hs.length cap w hB hl).mono ?_
    rintro e w' ⟨he, rfl⟩
    exact ⟨he, hB, grown_refl _ _⟩

end Go.Proofs.Ytkbpnafahimeiaa
