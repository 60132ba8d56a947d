/-
  Term, Non and Start of the document's builder.
-/
import Derived.Test.YtkbpnafahimeiaaRbBase
import Derived.Test.YtkbpnafahimeiaaRvLevels
import Derived.Test.YtkbpnafahimeiaaGat
namespace Go.Proofs.Ytkbpnafahimeiaa
open Go.RowKit

attribute [local go_sem] Oper.semAt_some

theorem numFrom_at (s : ByteArray) : ∀ (l : List ByteArray) (k m : Nat), k < l.length → (∀ j, j < k → l.getD j ⟨#[]⟩ ≠ s) → l.getD k ⟨#[]⟩ = s → numFrom l s m = k + m
  | [], k, m, hk, _, _ => by simp at hk
  | x :: r, 0, m, _, _, he => by
    have : x = s := by simpa using he
    unfold numFrom
    rw [if_pos (by rw [this])]
    simp
  | x :: r, k + 1, m, hk, h, he => by
    have h0 : x ≠ s := by have := h 0 (by omega); simpa using this
    unfold numFrom
    rw [if_neg (fun e => h0 (bytes_ext e)), numFrom_at s r k (m + 1) (by simpa using hk) (fun j hj => by have := h (j + 1) (by omega); simpa using this) (by simpa using he)]
    omega
theorem numOf_at {l : List ByteArray} {s : ByteArray} {k : Nat} (hk : k < l.length) (h : ∀ j, j < k → l.getD j ⟨#[]⟩ ≠ s) (he : l.getD k ⟨#[]⟩ = s) : numOf l s = k + 1 := by
  unfold numOf; rw [numFrom_at s l k 1 hk h he]
theorem numOf_none {l : List ByteArray} {s : ByteArray} (h : ∀ j, j < l.length → l.getD j ⟨#[]⟩ ≠ s) : numOf l s = 0 := numOf_zero fun hm => by
  obtain ⟨j, hj, e⟩ := List.getElem_of_mem hm
  exact h j hj (by simp [List.getD, hj, e])

theorem numbered_z0 {l : List ByteArray} {s : ByteArray} (h : numOf l s = 0) : numbered false l s = (l.length + 1, 0) := by simp [numbered, h]
theorem numbered_z1 {l : List ByteArray} {s : ByteArray} (h : numOf l s = 0) : numbered true l s = (0, 11) := by simp [numbered, h]
theorem rts_addT (S : BS) (s : ByteArray) : rts (S.addT s) = (rts S) ++ [(s, S.lev (S.terms.length + 1))] := by
  unfold rts BS.addT
  simp only [List.length_append, List.length_cons, List.length_nil, Nat.zero_add, List.range_succ, List.map_append]
  congr 1
  · apply List.map_congr_left
    intro j hj
    have hj' : j < S.terms.length := by simpa using hj
    simp [List.getD, List.getElem?_append_left hj']
  · simp [List.getD]

/-- A terminal more. -/
theorem RCells.addT {w w1 : World} {Q : Nat → Prop} {S : BS} {vt vn vl vr : Value} {r c4 g4 : Nat} {s : ByteArray} (hok : S.OK) (h : RCells w Q S vt vn vl vr) (hr : RRow w r vt vn vl vr S.start) (hup : ∀ g, w.heap.size ≤ g → Q g) (hQr : Q r) (hg : w.grownBy w1 vt.ownBlock)
    (ho : w1.ownsRow 0 74 2 (.slice (some ⟨g4, 0, none⟩) (S.terms.length + 1) c4) (S.terms.length + 1) (tmsL (rts S) ++ tmL s 0)) (hl : vt.ownBlock = some g4 ∨ w.heap.size ≤ g4) :
    RAt (w1.setCell ⟨r, 0, none⟩ (.slice (some ⟨g4, 0, none⟩) (S.terms.length + 1) c4)) r (S.addT s) Q ∧ GrownOff w (w1.setCell ⟨r, 0, none⟩ (.slice (some ⟨g4, 0, none⟩) (S.terms.length + 1) c4)) Q := by
  have hr1 := hr.keptOff hg (hr.ne h.tl (by decide))
  obtain ⟨rs, e1, e2, e3⟩ := h.rl
  have hQg : Q g4 := by
    rcases hl with hl | hl
    · exact h.qt g4 hl
    · exact hup g4 hl
  have hst := grown_setCell (w := w1) r 0 (.slice (some ⟨g4, 0, none⟩) (S.terms.length + 1) c4)
  have n1 := h.nl.kept hg (owns_ne h.nl h.tl (by decide))
  have l1 := h.ll.kept hg (owns_ne h.ll h.tl (by decide))
  have r1 := e2.kept hg (owns_ne e2 h.tl (by decide))
  refine ⟨⟨fun g hg' => hup g (Nat.le_trans hg.size (Nat.le_trans hst.size hg')), hQr, _, vn, vl, vr, (hr1.set _).1, ?_⟩, (GrownOff.of_row hg h.tl (by decide) h.qt).trans (GrownOff.of_box hst hr1 (by decide) hQr)⟩
  refine ⟨?_, n1.kept hst (owns_nebox n1 hr1 (by decide)), l1.kept hst (owns_nebox l1 hr1 (by decide)), ⟨rs, e1, r1.kept hst (owns_nebox r1 hr1 (by decide)), fun i hi => ⟨?_, (e3 i hi).2⟩⟩, fun g hv => by cases hv; exact hQg, h.qn, h.ql, h.qr⟩
  · have hlen : (S.addT s).terms.length = S.terms.length + 1 := by simp [BS.addT]
    rw [hlen, rts_addT, hok.levT _ (Nat.lt_succ_self _), tmsL_snoc]
    exact ho.kept hst (owns_nebox ho hr1 (by decide))
  · have i1 : IntsIn w1 (rs.getD i undef) (S.prods.getD i ⟨0, [], 0⟩).right := World.ownsRow.kept (e3 i hi).1 hg (owns_ne (e3 i hi).1 h.tl (by decide))
    exact World.ownsRow.kept i1 hst (owns_nebox i1 hr1 (by decide))

set_option maxRecDepth 100000 in
set_option maxHeartbeats 2000000 in
theorem rterm_any (r : Nat) (S : BS) (s : ByteArray) (w : World) (Q : Nat → Prop) (hok : S.OK) (hR : RAt w r S Q) (hs : s.size ≤ 140737488355328) (A : Int × Int × BS) (hA : A = S.term s) :
    Calls Try.prog 54 #[.pointer (some ⟨r, 0, none⟩), .string s] w fun e w' => e = .returned (.tuple #[.int .i64 A.1, .int .i64 A.2.1]) ∧ RAt w' r A.2.2 Q ∧ GrownOff w w' Q := by
  have HRA : Hid (RAt w r S Q) := hR
  obtain ⟨hup, hQr, vt, vn, vl, vr, hrow, hc⟩ := hR
  have HOK : Hid S.OK := hok
  have HC : Hid (RCells w Q S vt vn vl vr) := hc
  have HROW : Hid (RRow w r vt vn vl vr S.start) := hrow
  have HUP : Hid (∀ g, w.heap.size ≤ g → Q g) := hup
  have HQR : Hid (Q r) := hQr
  have HA : Hid (A = S.term s) := hA
  have hsy := hok.syms
  have HC1 := rIsTerm_any s w hs
  obtain ⟨m0, m1, m2, m3, m4⟩ := hrow.cells
  have f0 := hrow.free 0
  obtain ⟨ta, tc, e0⟩ := owns_slice hc.tl
  obtain ⟨na, nc, e1⟩ := owns_slice hc.nl
  rw [e0] at m0
  rw [e1] at m1
  obtain ⟨tn, htn⟩ : ∃ tn, tn = S.terms.length := ⟨_, rfl⟩
  obtain ⟨nn, hnn⟩ : ∃ nn, nn = S.nons.length := ⟨_, rfl⟩
  have HTN : Hid (S.terms.length = tn) := htn.symm
  have HNN : Hid (S.nons.length = nn) := hnn.symm
  have HE0 : Hid (vt = .slice ta tn tc) := by show _ = _; rw [htn]; exact e0
  have HTA : Hid (TermsAt w ta (rts S)) := (owns_termsAt (by rw [← e0]; exact hc.tl) (rts_length S).symm).1
  rw [← htn] at m0 hsy
  rw [← hnn] at m1 hsy
  clear hc hrow hok hup hQr hA e0 e1 htn hnn hs m2 m3 m4
  cases hb : isTextB s with
  | false =>
    rw [hb] at HC1
    have hA2 : A = (0, 1, S) := by rw [HA.out]; unfold BS.term; rw [hb]; rfl
    subst hA2
    clear hb HA
    go_enter Try.func54, Try.ntmps54
    go_wp2_with (go_at_call 84; refine HC1.mono ?_; rintro e w' ⟨rfl, rfl⟩)
    go_ret2
    exact ⟨rfl, HRA.out, GrownOff.refl _ _⟩
  | true =>
    rw [hb] at HC1
    have HTE : Hid (S.term s = (((numbered S.full S.terms s).1 : Int), (numbered S.full S.terms s).2, if numOf S.terms s = 0 ∧ S.full = false then S.addT s else S)) := by show _ = _; unfold BS.term; rw [hb]; rfl
    clear hb
    go_enter Try.func54, Try.ntmps54
    go_wp2_with (go_at_call 84; refine HC1.mono ?_; rintro e w' ⟨rfl, rfl⟩)
    go_loopw [7] (fun i wr => ∃ k : Nat, k ≤ tn ∧ i = .int .i64 k ∧ wr = w' ∧ ∀ j, j < k → S.terms.getD j ⟨#[]⟩ ≠ s) (fun i _ => tn - (intOf i).toNat)
    case atStart => exact ⟨0, Nat.zero_le _, rfl, rfl, fun j hj => by omega⟩
    case round =>
      obtain ⟨k, hk, rfl, rfl, hall⟩ := hrel
      have HA2 : Hid (∀ j, j < k → S.terms.getD j ⟨#[]⟩ ≠ s) := hall
      clear hall
      by_cases hlt : k < tn
      · have hkl : k < S.terms.length := by rw [HTN.out]; exact hlt
        obtain ⟨bt, off, rfl, hcs⟩ : ∃ b off, ta = some ⟨b, off, none⟩ ∧ ∀ i, i < (rts S).length → wr.cell? ⟨b, off + i * 2, none⟩ = some (.string ((rts S).getD i (⟨#[]⟩, 0)).1) ∧ wr.cell? ⟨b, off + i * 2 + 1, none⟩ = some (.int .i64 ((rts S).getD i (⟨#[]⟩, 0)).2) := by
          rcases HTA.out with h | h
          · have := rts_length S; rw [h] at this; simp at this; omega
          · exact h
        have c0 := (hcs k (by rw [rts_length]; exact hkl)).1
        rw [rts_at S hkl] at c0
        have HFND : Hid (S.terms.getD k ⟨#[]⟩ = s → numOf S.terms s = k + 1) := fun e => numOf_at hkl HA2.out e
        have HST : Hid (S.terms.getD k ⟨#[]⟩ ≠ s → ∀ j, j < k + 1 → S.terms.getD j ⟨#[]⟩ ≠ s) := fun hne j hj => by
          by_cases e : j = k
          · rw [e]; exact hne
          · exact HA2.out j (by omega)
        clear hcs hkl
        generalize S.terms.getD k ⟨#[]⟩ = x at *
        by_cases he : x = s
        · have d1 := strEq_true he
          have hn := HFND.out he
          have hA3 : A = ((k : Int) + 1, 0, S) := by
            rw [HA.out, HTE.out]
            unfold numbered
            rw [if_neg (by omega), if_neg (by omega), hn]
            simp
          subst hA3
          clear he HFND HST hn HA HTE
          go_wp2_with fail
          go_ret2
          exact ⟨by first | rfl | go_num, HRA.out, GrownOff.refl _ _⟩
        · have d1 := strEq_false he
          have HS2 : Hid (∀ j, j < k + 1 → S.terms.getD j ⟨#[]⟩ ≠ s) := HST.out he
          clear he HFND HST
          go_wp2_with fail
          go_roundw
          case rel => exact ⟨k + 1, by omega, by go_num, trivial, HS2.out⟩
          case measure => simp [intOf]; omega
      · obtain rfl : tn = k := by omega
        have HZ : Hid (numOf S.terms s = 0) := numOf_none (by rw [HTN.out]; exact HA2.out)
        by_cases hfull : 64 ≤ tn + nn
        · have d1 : decide (64 ≤ (tn : Int) + nn) = true := decide_eq_true (by omega)
          have hA3 : A = (0, 11, S) := by
            rw [HA.out, HTE.out]
            have hf : S.full = true := by unfold BS.full; rw [HTN.out, HNN.out]; exact decide_eq_true hfull
            rw [hf, numbered_z1 HZ.out, if_neg (by simp)]
            rfl
          subst hA3
          clear HA HTE
          go_wp2_with fail
          go_quiet (fail)
          go_wp2_with fail
          go_ret2
          exact ⟨rfl, HRA.out.kept0 (grown_drewN _ _), GrownOff.of_none (grown_drewN _ _)⟩
        · have d1 : decide (64 ≤ (tn : Int) + nn) = false := decide_eq_false (by omega)
          have hA3 : A = ((tn : Int) + 1, 0, S.addT s) := by
            rw [HA.out, HTE.out]
            have hf : S.full = false := by unfold BS.full; rw [HTN.out, HNN.out]; exact decide_eq_false hfull
            rw [hf, numbered_z0 HZ.out, if_pos ⟨HZ.out, rfl⟩, HTN.out]
            simp
          subst hA3
          clear HA HTE
          obtain ⟨i0, hi, hz0, hz1, hz2⟩ := info_parts infoTerm
          go_wp2_with fail
          go_quiet (fail)
          have HR2 : Hid (RRow (wr.drewN nq) r vt vn vl vr S.start) := HROW.out
          have HC2 : Hid (RCells (wr.drewN nq) Q S vt vn vl vr) := HC.out.kept0 (grown_drewN _ _)
          have HG2 : Hid (GrownOff wr (wr.drewN nq) Q) := GrownOff.of_none (grown_drewN _ _)
          have HUP2 : Hid (∀ g, (wr.drewN nq).heap.size ≤ g → Q g) := HUP.out
          obtain ⟨m0', m1', _⟩ := HR2.out.cells
          have f0' := HR2.out.free 0
          rw [HE0.out] at m0'
          clear m0 m1 f0 HTA HRA
          generalize wr.drewN nq = W at *
          have m0'' := fun o => (World.grownBy_alloc W o none).cell m0' (by simp)
          go_wp2_with (at_builtin; refine wpList_append_lies _ rfl _ _ 28 rfl 0 74 i0 (.agg #[.string ⟨#[]⟩, .int .i64 0]) 2 24 Try.underlying28 hi hz0 hz1 hz2 rfl (by decide) (.slice ta tn tc) tn (tmsL (rts S)) rfl (by have h9 := HC2.out.tl; rw [HE0.out, HTN.out] at h9; exact h9.alloc _) ⟨W.heap.size, 0, none⟩ 1 1 (tmL s 0) rfl rfl (fun j u hu => World.news_of_block (heap_alloc_last _ _) j u hu) (tmL_oneCell _ _) (by omega) (by unfold maxLen; omega) (by omega) (Nat.zero_le _) _ rfl ?_)
          intro g4 c4 w4 hown4 hg4 hloc4 hlt4
          have hA := World.grownBy_alloc W (.cells #[.string s, .int .i64 0] 74) none
          have hRA := HR2.out.keptOff hA (by simp)
          have hCA := HC2.out.kept0 hA
          have hg4' : (W.alloc (.cells #[.string s, .int .i64 0] 74)).grownBy w4 vt.ownBlock := by rw [HE0.out]; exact hg4
          have hR4 : RRow w4 r vt vn vl vr S.start := hRA.keptOff hg4' (hRA.ne hCA.tl (by decide))
          have HFIN : Hid (RAt (w4.setCell ⟨r, 0, none⟩ (.slice (some ⟨g4, 0, none⟩) (tn + 1) c4)) r (S.addT s) Q ∧ GrownOff wr (w4.setCell ⟨r, 0, none⟩ (.slice (some ⟨g4, 0, none⟩) (tn + 1) c4)) Q) := by
            have := RCells.addT (s := s) (g4 := g4) (c4 := c4) HOK.out hCA hRA (fun g hg => HUP2.out g (Nat.le_trans hA.size hg)) HQR.out hg4' (by rw [HTN.out]; exact hown4) (by
              rcases hloc4 with h | h
              · left; rw [HE0.out]; exact h
              · right; rw [h]; simp)
            rw [HTN.out] at this
            exact ⟨this.1, HG2.out.trans ((GrownOff.of_none hA).trans this.2)⟩
          have q0 := hR4.cells.1
          have q1 := hR4.free 0
          have q2 := (hR4.set (.slice (some ⟨g4, 0, none⟩) (tn + 1) c4)).1.cells.1
          clear hA hRA hCA hg4' hR4 hown4 hg4 hloc4 hlt4 HC2 HR2 HG2 HUP2 m0' m0'' m1' f0'
          go_wp2_with fail
          go_ret2
          exact ⟨by first | rfl | go_num, HFIN.out.1, HFIN.out.2⟩

/-- A nonterminal more. -/
theorem RCells.addN {w w1 : World} {Q : Nat → Prop} {S : BS} {vt vn vl vr : Value} {r c4 g4 : Nat} {s : ByteArray} (h : RCells w Q S vt vn vl vr) (hr : RRow w r vt vn vl vr S.start) (hup : ∀ g, w.heap.size ≤ g → Q g) (hQr : Q r) (hg : w.grownBy w1 vn.ownBlock)
    (ho : w1.ownsRow 0 9 1 (.slice (some ⟨g4, 0, none⟩) (S.nons.length + 1) c4) (S.nons.length + 1) (S.nons.map Value.string ++ [.string s])) (hl : vn.ownBlock = some g4 ∨ w.heap.size ≤ g4) :
    RAt (w1.setCell ⟨r, 1, none⟩ (.slice (some ⟨g4, 0, none⟩) (S.nons.length + 1) c4)) r (S.addN s) Q ∧ GrownOff w (w1.setCell ⟨r, 1, none⟩ (.slice (some ⟨g4, 0, none⟩) (S.nons.length + 1) c4)) Q := by
  have hr1 := hr.keptOff hg (hr.ne h.nl (by decide))
  obtain ⟨rs, e1, e2, e3⟩ := h.rl
  have hQg : Q g4 := by
    rcases hl with hl | hl
    · exact h.qn g4 hl
    · exact hup g4 hl
  have hst := grown_setCell (w := w1) r 1 (.slice (some ⟨g4, 0, none⟩) (S.nons.length + 1) c4)
  have n1 := h.tl.kept hg (owns_ne h.tl h.nl (by decide))
  have l1 := h.ll.kept hg (owns_ne h.ll h.nl (by decide))
  have r1 := e2.kept hg (owns_ne e2 h.nl (by decide))
  refine ⟨⟨fun g hg' => hup g (Nat.le_trans hg.size (Nat.le_trans hst.size hg')), hQr, vt, _, vl, vr, (hr1.set _).2.1, ?_⟩, (GrownOff.of_row hg h.nl (by decide) h.qn).trans (GrownOff.of_box hst hr1 (by decide) hQr)⟩
  refine ⟨n1.kept hst (owns_nebox n1 hr1 (by decide)), ?_, l1.kept hst (owns_nebox l1 hr1 (by decide)), ⟨rs, e1, r1.kept hst (owns_nebox r1 hr1 (by decide)), fun i hi => ⟨?_, (e3 i hi).2⟩⟩, h.qt, fun g hv => by cases hv; exact hQg, h.ql, h.qr⟩
  · have hlen : (S.addN s).nons.length = S.nons.length + 1 := by simp [BS.addN]
    rw [hlen]
    have e : (S.addN s).nons.map Value.string = S.nons.map Value.string ++ [.string s] := by simp [BS.addN]
    rw [e]
    exact ho.kept hst (owns_nebox ho hr1 (by decide))
  · have i1 : IntsIn w1 (rs.getD i undef) (S.prods.getD i ⟨0, [], 0⟩).right := World.ownsRow.kept (e3 i hi).1 hg (owns_ne (e3 i hi).1 h.nl (by decide))
    exact World.ownsRow.kept i1 hst (owns_nebox i1 hr1 (by decide))

set_option maxRecDepth 100000 in
set_option maxHeartbeats 2000000 in
theorem rnon_any (r : Nat) (S : BS) (s : ByteArray) (w : World) (Q : Nat → Prop) (hok : S.OK) (hR : RAt w r S Q) (hs : s.size ≤ 140737488355328) (A : Int × Int × BS) (hA : A = S.non s) :
    Calls Try.prog 55 #[.pointer (some ⟨r, 0, none⟩), .string s] w fun e w' => e = .returned (.tuple #[.int .i64 A.1, .int .i64 A.2.1]) ∧ RAt w' r A.2.2 Q ∧ GrownOff w w' Q := by
  have HRA : Hid (RAt w r S Q) := hR
  obtain ⟨hup, hQr, vt, vn, vl, vr, hrow, hc⟩ := hR
  have HOK : Hid S.OK := hok
  have HC : Hid (RCells w Q S vt vn vl vr) := hc
  have HROW : Hid (RRow w r vt vn vl vr S.start) := hrow
  have HUP : Hid (∀ g, w.heap.size ≤ g → Q g) := hup
  have HQR : Hid (Q r) := hQr
  have HA : Hid (A = S.non s) := hA
  have hsy := hok.syms
  have HC1 := rIsName_any s w hs
  obtain ⟨m0, m1, m2, m3, m4⟩ := hrow.cells
  have f0 := hrow.free 0
  obtain ⟨ta, tc, e0⟩ := owns_slice hc.tl
  obtain ⟨na, nc, e1⟩ := owns_slice hc.nl
  rw [e0] at m0
  rw [e1] at m1
  obtain ⟨tn, htn⟩ : ∃ tn, tn = S.terms.length := ⟨_, rfl⟩
  obtain ⟨nn, hnn⟩ : ∃ nn, nn = S.nons.length := ⟨_, rfl⟩
  have HTN : Hid (S.terms.length = tn) := htn.symm
  have HNN : Hid (S.nons.length = nn) := hnn.symm
  have HE0 : Hid (vn = .slice na nn nc) := by show _ = _; rw [hnn]; exact e1
  have HTA : Hid (StrsAt w na S.nons) := StrsIn.strsAt (v := .slice na S.nons.length nc) (by rw [← e1]; exact hc.nl) rfl
  rw [← htn] at m0 hsy
  rw [← hnn] at m1 hsy
  clear hc hrow hok hup hQr hA e0 e1 htn hnn hs m2 m3 m4
  cases hb : isNameB s with
  | false =>
    rw [hb] at HC1
    have hA2 : A = (0, 1, S) := by rw [HA.out]; unfold BS.non; rw [hb]; rfl
    subst hA2
    clear hb HA
    go_enter Try.func55, Try.ntmps55
    go_wp2_with (go_at_call 85; refine HC1.mono ?_; rintro e w' ⟨rfl, rfl⟩)
    go_ret2
    exact ⟨rfl, HRA.out, GrownOff.refl _ _⟩
  | true =>
    rw [hb] at HC1
    have HTE : Hid (S.non s = (-((numbered S.full S.nons s).1 : Int), (numbered S.full S.nons s).2, if numOf S.nons s = 0 ∧ S.full = false then S.addN s else S)) := by show _ = _; unfold BS.non; rw [hb]; rfl
    clear hb
    go_enter Try.func55, Try.ntmps55
    go_wp2_with (go_at_call 85; refine HC1.mono ?_; rintro e w' ⟨rfl, rfl⟩)
    go_loopw [7] (fun i wr => ∃ k : Nat, k ≤ nn ∧ i = .int .i64 k ∧ wr = w' ∧ ∀ j, j < k → S.nons.getD j ⟨#[]⟩ ≠ s) (fun i _ => nn - (intOf i).toNat)
    case atStart => exact ⟨0, Nat.zero_le _, rfl, rfl, fun j hj => by omega⟩
    case round =>
      obtain ⟨k, hk, rfl, rfl, hall⟩ := hrel
      have HA2 : Hid (∀ j, j < k → S.nons.getD j ⟨#[]⟩ ≠ s) := hall
      clear hall
      by_cases hlt : k < nn
      · have hkl : k < S.nons.length := by rw [HNN.out]; exact hlt
        obtain ⟨bt, off, rfl, hcs⟩ : ∃ b off, na = some ⟨b, off, none⟩ ∧ ∀ i, i < S.nons.length → wr.cell? ⟨b, off + i, none⟩ = some (.string (S.nons.getD i ⟨#[]⟩)) := by
          rcases HTA.out with h | h
          · rw [h] at hkl; simp at hkl
          · exact h
        have c0 := hcs k hkl
        have HFND : Hid (S.nons.getD k ⟨#[]⟩ = s → numOf S.nons s = k + 1) := fun e => numOf_at hkl HA2.out e
        have HST : Hid (S.nons.getD k ⟨#[]⟩ ≠ s → ∀ j, j < k + 1 → S.nons.getD j ⟨#[]⟩ ≠ s) := fun hne j hj => by
          by_cases e : j = k
          · rw [e]; exact hne
          · exact HA2.out j (by omega)
        clear hcs hkl
        generalize S.nons.getD k ⟨#[]⟩ = x at *
        by_cases he : x = s
        · have d1 := strEq_true he
          have hn := HFND.out he
          have hA3 : A = (-1 - (k : Int), 0, S) := by
            rw [HA.out, HTE.out]
            unfold numbered
            rw [if_neg (by omega), if_neg (by omega), hn]
            simp
            omega
          subst hA3
          clear he HFND HST hn HA HTE
          go_wp2_with fail
          go_ret2
          exact ⟨by first | rfl | go_num, HRA.out, GrownOff.refl _ _⟩
        · have d1 := strEq_false he
          have HS2 : Hid (∀ j, j < k + 1 → S.nons.getD j ⟨#[]⟩ ≠ s) := HST.out he
          clear he HFND HST
          go_wp2_with fail
          go_roundw
          case rel => exact ⟨k + 1, by omega, by go_num, trivial, HS2.out⟩
          case measure => simp [intOf]; omega
      · obtain rfl : nn = k := by omega
        have HZ : Hid (numOf S.nons s = 0) := numOf_none (by rw [HNN.out]; exact HA2.out)
        by_cases hfull : 64 ≤ tn + nn
        · have d1 : decide (64 ≤ (tn : Int) + nn) = true := decide_eq_true (by omega)
          have hA3 : A = (0, 11, S) := by
            rw [HA.out, HTE.out]
            have hf : S.full = true := by unfold BS.full; rw [HTN.out, HNN.out]; exact decide_eq_true hfull
            rw [hf, numbered_z1 HZ.out, if_neg (by simp)]
            rfl
          subst hA3
          clear HA HTE
          go_wp2_with fail
          go_quiet (fail)
          go_wp2_with fail
          go_ret2
          exact ⟨rfl, HRA.out.kept0 (grown_drewN _ _), GrownOff.of_none (grown_drewN _ _)⟩
        · have d1 : decide (64 ≤ (tn : Int) + nn) = false := decide_eq_false (by omega)
          have hA3 : A = (-((nn : Int) + 1), 0, S.addN s) := by
            rw [HA.out, HTE.out]
            have hf : S.full = false := by unfold BS.full; rw [HTN.out, HNN.out]; exact decide_eq_false hfull
            rw [hf, numbered_z0 HZ.out, if_pos ⟨HZ.out, rfl⟩, HNN.out]
            simp
          subst hA3
          clear HA HTE
          obtain ⟨i0, hi, hz0, hz1, hz2⟩ := info_parts infoStr
          go_wp2_with fail
          go_quiet (fail)
          have HR2 : Hid (RRow (wr.drewN nq) r vt vn vl vr S.start) := HROW.out
          have HC2 : Hid (RCells (wr.drewN nq) Q S vt vn vl vr) := HC.out.kept0 (grown_drewN _ _)
          have HG2 : Hid (GrownOff wr (wr.drewN nq) Q) := GrownOff.of_none (grown_drewN _ _)
          have HUP2 : Hid (∀ g, (wr.drewN nq).heap.size ≤ g → Q g) := HUP.out
          obtain ⟨m0', m1', _⟩ := HR2.out.cells
          have f0' := HR2.out.free 1
          rw [HE0.out] at m1'
          clear m0 m1 f0 HTA HRA
          generalize wr.drewN nq = W at *
          have m0'' := fun o => (World.grownBy_alloc W o none).cell m1' (by simp)
          go_wp2_with (at_builtin; refine wpList_append_lies _ rfl _ _ 29 rfl 0 9 i0 (.string ByteArray.empty) 1 16 Try.underlying29 hi hz0 hz1 hz2 rfl (by decide) (.slice na nn nc) nn (S.nons.map Value.string) rfl (by have h9 := HC2.out.nl; rw [HE0.out, HNN.out] at h9; exact h9.alloc _) ⟨W.heap.size, 0, none⟩ 1 1 [.string s] rfl rfl (cell_one_new _ _ _) (str_oneCell s) (by omega) (by unfold maxLen; omega) (by omega) (Nat.zero_le _) _ rfl ?_)
          intro g4 c4 w4 hown4 hg4 hloc4 hlt4
          have hA := World.grownBy_alloc W (.cells #[.string s] 9) none
          have hRA := HR2.out.keptOff hA (by simp)
          have hCA := HC2.out.kept0 hA
          have hg4' : (W.alloc (.cells #[.string s] 9)).grownBy w4 vn.ownBlock := by rw [HE0.out]; exact hg4
          have hR4 : RRow w4 r vt vn vl vr S.start := hRA.keptOff hg4' (hRA.ne hCA.nl (by decide))
          have HFIN : Hid (RAt (w4.setCell ⟨r, 1, none⟩ (.slice (some ⟨g4, 0, none⟩) (nn + 1) c4)) r (S.addN s) Q ∧ GrownOff wr (w4.setCell ⟨r, 1, none⟩ (.slice (some ⟨g4, 0, none⟩) (nn + 1) c4)) Q) := by
            have := RCells.addN (s := s) (g4 := g4) (c4 := c4) hCA hRA (fun g hg => HUP2.out g (Nat.le_trans hA.size hg)) HQR.out hg4' (by rw [HNN.out]; exact hown4) (by
              rcases hloc4 with h | h
              · left; rw [HE0.out]; exact h
              · right; rw [h]; simp)
            rw [HNN.out] at this
            exact ⟨this.1, HG2.out.trans ((GrownOff.of_none hA).trans this.2)⟩
          have q0 := hR4.cells.2.1
          have q1 := hR4.free 1
          have q2 := (hR4.set (.slice (some ⟨g4, 0, none⟩) (nn + 1) c4)).2.1.cells.2.1
          clear hA hRA hCA hg4' hR4 hown4 hg4 hloc4 hlt4 HC2 HR2 HG2 HUP2 m0' m0'' m1' f0'
          go_wp2_with fail
          go_ret2
          exact ⟨by first | rfl | go_num, HFIN.out.1, HFIN.out.2⟩

theorem rnon_at (r n cap : Nat) (h : Int) (a : Option Addr) (w : World) (hc : w.cell? ⟨r, 1, none⟩ = some (.slice a n cap)) (hn : n ≤ 64) :
    Calls Try.prog 63 #[.pointer (some ⟨r, 0, none⟩), .int .i64 h] w fun e w' => e = .returned (.bool (decide (h < 0) && decide (-(n : Int) ≤ h))) ∧ w' = w := by
  by_cases h0 : h ≤ -1
  · have d0 : decide (h ≤ -1) = true := decide_eq_true h0
    have d1 : decide (h < 0) = true := decide_eq_true (by omega)
    rw [d1, Bool.true_and]
    clear h0 d1
    go_enter Try.func63, Try.ntmps63
    go_wp2_with fail
    go_ret
    exact ⟨rfl, rfl⟩
  · have d0 : decide (h ≤ -1) = false := decide_eq_false h0
    have d1 : decide (h < 0) = false := decide_eq_false (by omega)
    rw [d1, Bool.false_and]
    clear h0 d1
    go_enter Try.func63, Try.ntmps63
    go_wp2_with fail
    go_ret
    exact ⟨rfl, rfl⟩
theorem rterm_at (r n cap : Nat) (h : Int) (a : Option Addr) (w : World) (hc : w.cell? ⟨r, 0, none⟩ = some (.slice a n cap)) :
    Calls Try.prog 88 #[.pointer (some ⟨r, 0, none⟩), .int .i64 h] w fun e w' => e = .returned (.bool (decide (0 < h) && decide (h ≤ n))) ∧ w' = w := by
  by_cases h0 : 1 ≤ h
  · have d0 : decide (1 ≤ h) = true := decide_eq_true h0
    have d1 : decide (0 < h) = true := decide_eq_true (by omega)
    rw [d1, Bool.true_and]
    clear h0 d1
    go_enter Try.func88, Try.ntmps88
    go_wp2_with fail
    go_ret
    exact ⟨rfl, rfl⟩
  · have d0 : decide (1 ≤ h) = false := decide_eq_false h0
    have d1 : decide (0 < h) = false := decide_eq_false (by omega)
    rw [d1, Bool.false_and]
    clear h0 d1
    go_enter Try.func88, Try.ntmps88
    go_wp2_with fail
    go_ret
    exact ⟨rfl, rfl⟩
theorem RAt.isN {w : World} {r : Nat} {S : BS} {Q : Nat → Prop} (hok : S.OK) (hR : RAt w r S Q) (h : Int) : Calls Try.prog 63 #[.pointer (some ⟨r, 0, none⟩), .int .i64 h] w fun e w' => e = .returned (.bool (S.isN h)) ∧ w' = w := by
  obtain ⟨_, _, vt, vn, vl, vr, hrow, hc⟩ := hR
  obtain ⟨na, nc, e1⟩ := owns_slice hc.nl
  have m1 := hrow.cells.2.1
  rw [e1] at m1
  exact rnon_at r S.nons.length nc h na w m1 (by have := hok.syms; omega)
theorem RAt.isT {w : World} {r : Nat} {S : BS} {Q : Nat → Prop} (hR : RAt w r S Q) (h : Int) : Calls Try.prog 88 #[.pointer (some ⟨r, 0, none⟩), .int .i64 h] w fun e w' => e = .returned (.bool (S.isT h)) ∧ w' = w := by
  obtain ⟨_, _, vt, vn, vl, vr, hrow, hc⟩ := hR
  obtain ⟨ta, tc, e1⟩ := owns_slice hc.tl
  have m0 := hrow.cells.1
  rw [e1] at m0
  exact rterm_at r S.terms.length tc h ta w m0

def BS.startA (S : BS) (h : Int) : Int × BS := if S.isN h then (0, { S with start := h }) else (1, S)
theorem rstart_any (r : Nat) (S : BS) (h : Int) (w : World) (Q : Nat → Prop) (hok : S.OK) (hR : RAt w r S Q) :
    Calls Try.prog 27 #[.pointer (some ⟨r, 0, none⟩), .int .i64 h] w fun e w' => e = .returned (.int .i64 (S.startA h).1) ∧ RAt w' r (S.startA h).2 Q ∧ GrownOff w w' Q := by
  have hn := RAt.isN hok hR h
  cases hi : S.isN h with
  | false =>
    rw [hi] at hn
    have e : S.startA h = (1, S) := by unfold BS.startA; rw [hi]; rfl
    rw [e]
    have HR : Hid (RAt w r S Q) := hR
    clear hR e hi hok
    go_enter Try.func27, Try.ntmps27
    go_wp2_with (go_at_call 63; refine hn.mono ?_; rintro e w' ⟨rfl, rfl⟩)
    go_ret
    exact ⟨rfl, HR.out, GrownOff.refl _ _⟩
  | true =>
    rw [hi] at hn
    have e : S.startA h = (0, { S with start := h }) := by unfold BS.startA; rw [hi]; rfl
    rw [e]
    obtain ⟨hup, hQr, vt, vn, vl, vr, hrow, hc⟩ := hR
    have hst := grown_setCell (w := w) r 4 (.int .i64 h)
    have HFIN : Hid (RAt (w.setCell ⟨r, 4, none⟩ (.int .i64 h)) r { S with start := h } Q ∧ GrownOff w (w.setCell ⟨r, 4, none⟩ (.int .i64 h)) Q) := by
      have hk := hc.keptBox hst hrow (by decide)
      refine ⟨⟨fun g hg => hup g (Nat.le_trans hst.size hg), hQr, vt, vn, vl, vr, hrow.setStart h, ?_⟩, GrownOff.of_box hst hrow (by decide) hQr⟩
      exact ⟨hk.tl, hk.nl, hk.ll, hk.rl, hk.qt, hk.qn, hk.ql, hk.qr⟩
    have m4 := hrow.cells.2.2.2.2
    have f4 := hrow.free 4
    clear hc hrow hst e hi hok
    go_enter Try.func27, Try.ntmps27
    go_wp2_with (go_at_call 63; refine hn.mono ?_; rintro e w' ⟨rfl, rfl⟩)
    go_ret
    exact ⟨rfl, HFIN.out.1, HFIN.out.2⟩

end Go.Proofs.Ytkbpnafahimeiaa
