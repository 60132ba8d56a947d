/-
  Level of the document's builder.
-/
import Derived.Test.YtkbpnafahimeiaaRbGrade
namespace Go.Proofs.Ytkbpnafahimeiaa
open Go.RowKit

attribute [local go_sem] Oper.semAt_some

theorem levGo_good {S : BS} {K : Int} (hK : K ≠ 0) : ∀ (l : List Int) (lev lev' : Nat → Int), levGo S K lev l = some lev' → l.Nodup ∧ ∀ h ∈ l, S.isT h = true ∧ lev h.toNat = 0
  | [], _, _, _ => ⟨List.nodup_nil, by simp⟩
  | a :: r, lev, lev', h => by
    unfold levGo at h
    split at h
    · next hc =>
      obtain ⟨h1, h2⟩ := levGo_good hK r _ _ h
      have key : ∀ x ∈ r, x.toNat ≠ a.toNat := fun x hx e => by
        have := (h2 x hx).2
        rw [e] at this
        simp [updL] at this
        exact hK this
      refine ⟨List.nodup_cons.2 ⟨fun ha => key a ha rfl, h1⟩, fun x hx => ?_⟩
      rcases List.mem_cons.1 hx with rfl | hx
      · exact hc
      · have h3 := h2 x hx
        refine ⟨h3.1, ?_⟩
        have h4 := h3.2
        simp [updL, key x hx] at h4
        exact h4
    · cases h
theorem levGo_full {S : BS} {K : Int} : ∀ (l : List Int) (lev : Nat → Int), l.Nodup → (∀ h ∈ l, S.isT h = true ∧ lev h.toNat = 0) → levGo S K lev l = some fun j : Nat => if (j : Int) ∈ l then K else lev j
  | [], lev, _, _ => by simp [levGo]
  | a :: r, lev, hn, h => by
    rw [List.nodup_cons] at hn
    obtain ⟨h1, h2⟩ := h a (by simp)
    have ha := isT_iff.1 h1
    unfold levGo
    rw [if_pos ⟨h1, h2⟩, levGo_full r _ hn.2 (fun x hx => by
      obtain ⟨q1, q2⟩ := h x (by simp [hx])
      have hx' := isT_iff.1 q1
      refine ⟨q1, ?_⟩
      have hne : x.toNat ≠ a.toNat := fun e => hn.1 (by have : x = a := by omega
                                                        rw [← this]; exact hx)
      simp [updL, hne, q2])]
    congr 1
    funext j
    by_cases hj : (j : Int) ∈ r
    · simp [hj]
    · by_cases ej : (j : Int) = a
      · have : j = a.toNat := by omega
        rw [if_neg hj, if_pos (by simp [ej])]
        simp [updL, this]
      · have : j ≠ a.toNat := by omega
        rw [if_neg hj, if_neg (by simp [ej, hj])]
        simp [updL, this]

/-- A list's places: what Level asks of each. -/
def levAsk (S : BS) (hs : List Int) (j : Nat) : Prop := S.isT (hs.getD j 0) = true ∧ S.lev (hs.getD j 0).toNat = 0 ∧ ∀ m, m < j → hs.getD m 0 ≠ hs.getD j 0
theorem getD_mem_int {l : List Int} {k : Nat} (h : k < l.length) : l.getD k 0 ∈ l := by
  have : l.getD k 0 = l[k] := by simp [List.getD, h]
  rw [this]; exact List.getElem_mem _
theorem nodup_int (l : List Int) : l.Nodup ↔ ∀ i k, k < i → i < l.length → l.getD k 0 ≠ l.getD i 0 := by
  rw [List.nodup_iff_pairwise_ne, List.pairwise_iff_getElem]
  constructor
  · intro h i k hk hi
    have := h k i (by omega) hi hk
    simpa [List.getD, hi, show k < l.length by omega] using this
  · intro h i j hi hj hij
    have := h j i hij hj
    simpa [List.getD, hi, hj] using this
theorem levGo_ask {S : BS} {K : Int} (hK : K ≠ 0) (hs : List Int) : (∀ j, j < hs.length → levAsk S hs j) ↔ ∃ lev', levGo S K S.lev hs = some lev' := by
  constructor
  · intro h
    exact ⟨_, levGo_full hs S.lev ((nodup_int hs).2 fun i k hk hi => (h i hi).2.2 k hk) (fun x hx => by
      obtain ⟨j, hj, e⟩ := List.getElem_of_mem hx
      have := h j hj
      rw [← e, show hs[j] = hs.getD j 0 by simp [List.getD, hj]]
      exact ⟨this.1, this.2.1⟩)⟩
  · rintro ⟨lev', h⟩ j hj
    obtain ⟨h1, h2⟩ := levGo_good hK hs _ _ h
    exact ⟨(h2 _ (getD_mem_int hj)).1, (h2 _ (getD_mem_int hj)).2, fun m hm => (nodup_int hs).1 h1 j m hm hj⟩

/-- The levels, told of the first k. -/
def levTold (S : BS) (K : Int) (hs : List Int) (k : Nat) : Nat → Int := fun j => if (j : Int) ∈ hs.take k then K else S.lev j
def BS.tolds (S : BS) (side K : Int) (hs : List Int) (k : Nat) : BS := { S with lev := levTold S K hs k, sides := S.sides ++ [side] }
theorem tolds_zero (S : BS) (side K : Int) (hs : List Int) : S.tolds side K hs 0 = { S with sides := S.sides ++ [side] } := by
  unfold BS.tolds
  have : levTold S K hs 0 = S.lev := by funext j; simp [levTold]
  rw [this]
theorem levTold_succ {S : BS} {K : Int} {hs : List Int} {k : Nat} (hk : k < hs.length) (hp : 0 ≤ hs.getD k 0) : levTold S K hs (k + 1) = updL (levTold S K hs k) (hs.getD k 0).toNat K := by
  funext j
  unfold levTold updL
  rw [take_succ_at hk]
  generalize hs.getD k 0 = h at *
  generalize hs.take k = l at *
  by_cases e : j = h.toNat
  · rw [if_pos e, if_pos (List.mem_append.2 (.inr (List.mem_singleton.2 (by omega))))]
  · have he : ¬ (j : Int) = h := fun x => e (by omega)
    rw [if_neg e]
    show _ = (if (j : Int) ∈ l then K else S.lev j)
    by_cases hm : (j : Int) ∈ l
    · rw [if_pos (List.mem_append.2 (.inl hm)), if_pos hm]
    · rw [if_neg hm, if_neg (fun x => by
        rcases List.mem_append.1 x with x | x
        · exact hm x
        · exact he (List.mem_singleton.1 x))]
theorem level_done {S : BS} {side : Int} {hs : List Int} (hs1 : 1 ≤ side ∧ side ≤ 3) (hne : hs ≠ []) (h : ∀ j, j < hs.length → levAsk S hs j) : S.level side hs = ((S.sides.length : Int) + 1, 0, S.tolds side ((S.sides.length : Int) + 1) hs hs.length) := by
  unfold BS.level
  rw [if_pos ⟨hs1, hne⟩, levGo_full hs S.lev ((nodup_int hs).2 fun i k hk hi => (h i hi).2.2 k hk) (fun x hx => by
      obtain ⟨j, hj, e⟩ := List.getElem_of_mem hx
      have := h j hj
      rw [← e, show hs[j] = hs.getD j 0 by simp [List.getD, hj]]
      exact ⟨this.1, this.2.1⟩)]
  simp only
  unfold BS.addL BS.tolds levTold
  rw [List.take_length]
theorem level_not {S : BS} {side : Int} {hs : List Int} (h : ¬ ∀ j, j < hs.length → levAsk S hs j) : S.level side hs = (0, 1, S) := by
  unfold BS.level
  split
  · have : levGo S ((S.sides.length : Int) + 1) S.lev hs = none := by
      cases e : levGo S ((S.sides.length : Int) + 1) S.lev hs with
      | none => rfl
      | some lev' => exact absurd ((levGo_ask (by omega) hs).2 ⟨lev', e⟩) h
    rw [this]
  · rfl

theorem tmsL_set : ∀ (ts : List (ByteArray × Int)) (i : Nat) (K : Int), (tmsL ts).set (i * 2 + 1) (.int .i64 K) = tmsL (ts.set i ((ts.getD i (⟨#[]⟩, 0)).1, K))
  | [], i, K => by simp [tmsL]
  | t :: ts, 0, K => by simp [tmsL, tmL]
  | t :: ts, i + 1, K => by
    have ih := tmsL_set ts i K
    have e : tmsL (t :: ts) = tmL t.1 t.2 ++ tmsL ts := by simp [tmsL]
    have e2 : tmsL ((t :: ts).set (i + 1) (((t :: ts).getD (i + 1) (⟨#[]⟩, 0)).1, K)) = tmL t.1 t.2 ++ tmsL (ts.set i ((ts.getD i (⟨#[]⟩, 0)).1, K)) := by simp [tmsL]
    rw [e, e2, ← ih, List.set_append_right _ _ (by simp [tmL]; omega), show (i + 1) * 2 + 1 - (tmL t.1 t.2).length = i * 2 + 1 by simp [tmL]; omega]
theorem rts_upd (S : BS) (i : Nat) (K : Int) (hi : i < S.terms.length) : (rts S).set i (((rts S).getD i (⟨#[]⟩, 0)).1, K) = rts { S with lev := updL S.lev (i + 1) K } := by
  apply List.ext_getElem
  · simp [rts]
  · intro j h1 h2
    rw [List.getElem_set]
    by_cases e : i = j
    · subst e
      rw [if_pos rfl, rts_at S hi]
      simp [rts, updL]
    · rw [if_neg e]
      simp [rts, updL, show ¬ j = i from fun x => e x.symm]

/-- A terminal's level, in its place. -/
theorem RCells.levT {w : World} {Q : Nat → Prop} {S : BS} {vn vl vr : Value} {r gt c i : Nat} {K : Int} (h : RCells w Q S (.slice (some ⟨gt, 0, none⟩) S.terms.length c) vn vl vr) (hr : RRow w r (.slice (some ⟨gt, 0, none⟩) S.terms.length c) vn vl vr S.start) (hup : ∀ g, w.heap.size ≤ g → Q g) (hQr : Q r) (hi : i < S.terms.length) :
    RAt (w.setCell ⟨gt, i * 2 + 1, none⟩ (.int .i64 K)) r { S with lev := updL S.lev (i + 1) K } Q ∧ GrownOff w (w.setCell ⟨gt, i * 2 + 1, none⟩ (.int .i64 K)) Q := by
  obtain ⟨rs, e1, e2, e3⟩ := h.rl
  have hst := grown_setCell (w := w) gt (i * 2 + 1) (.int .i64 K)
  have hst' : w.grownBy (w.setCell ⟨gt, i * 2 + 1, none⟩ (.int .i64 K)) (Value.slice (some ⟨gt, 0, none⟩) S.terms.length c).ownBlock := hst
  refine ⟨⟨fun g hg => hup g (Nat.le_trans hst.size hg), hQr, _, vn, vl, vr, hr.keptOff hst' (hr.ne h.tl (by decide)), ?_⟩, GrownOff.of_row hst' h.tl (by decide) h.qt⟩
  refine ⟨?_, h.nl.kept hst' (owns_ne h.nl h.tl (by decide)), h.ll.kept hst' (owns_ne h.ll h.tl (by decide)), ⟨rs, e1, e2.kept hst' (owns_ne e2 h.tl (by decide)), fun j hj => ⟨World.ownsRow.kept (e3 j hj).1 hst' (owns_ne (e3 j hj).1 h.tl (by decide)), (e3 j hj).2⟩⟩, h.qt, h.qn, h.ql, h.qr⟩
  rw [← rts_upd S i K hi, ← tmsL_set]
  exact owns_set h.tl _

/-- A side more. -/
theorem RCells.addL {w w1 : World} {Q : Nat → Prop} {S : BS} {vt vn vl vr : Value} {r c4 g4 : Nat} {side : Int} (h : RCells w Q S vt vn vl vr) (hr : RRow w r vt vn vl vr S.start) (hup : ∀ g, w.heap.size ≤ g → Q g) (hQr : Q r) (hg : w.grownBy w1 vl.ownBlock)
    (ho : w1.ownsRow 0 3 1 (.slice (some ⟨g4, 0, none⟩) (S.sides.length + 1) c4) (S.sides.length + 1) (S.sides.map (Value.int .i64) ++ [.int .i64 side])) (hl : vl.ownBlock = some g4 ∨ w.heap.size ≤ g4) :
    RAt (w1.setCell ⟨r, 2, none⟩ (.slice (some ⟨g4, 0, none⟩) (S.sides.length + 1) c4)) r { S with sides := S.sides ++ [side] } Q ∧ GrownOff w (w1.setCell ⟨r, 2, none⟩ (.slice (some ⟨g4, 0, none⟩) (S.sides.length + 1) c4)) Q := by
  have hr1 := hr.keptOff hg (hr.ne h.ll (by decide))
  obtain ⟨rs, e1, e2, e3⟩ := h.rl
  have hQg : Q g4 := by
    rcases hl with hl | hl
    · exact h.ql g4 hl
    · exact hup g4 hl
  have hst := grown_setCell (w := w1) r 2 (.slice (some ⟨g4, 0, none⟩) (S.sides.length + 1) c4)
  have n1 := h.tl.kept hg (owns_ne h.tl h.ll (by decide))
  have l1 := h.nl.kept hg (owns_ne h.nl h.ll (by decide))
  have r1 := e2.kept hg (owns_ne e2 h.ll (by decide))
  refine ⟨⟨fun g hg' => hup g (Nat.le_trans hg.size (Nat.le_trans hst.size hg')), hQr, vt, vn, _, vr, (hr1.set _).2.2.1, ?_⟩, (GrownOff.of_row hg h.ll (by decide) h.ql).trans (GrownOff.of_box hst hr1 (by decide) hQr)⟩
  refine ⟨n1.kept hst (owns_nebox n1 hr1 (by decide)), l1.kept hst (owns_nebox l1 hr1 (by decide)), ?_, ⟨rs, e1, r1.kept hst (owns_nebox r1 hr1 (by decide)), fun i hi => ⟨?_, fun g hv => ⟨((e3 i hi).2 g hv).1, ?_⟩⟩⟩, h.qt, h.qn, fun g hv => by cases hv; exact hQg, h.qr⟩
  · show (w1.setCell ⟨r, 2, none⟩ (.slice (some ⟨g4, 0, none⟩) (S.sides.length + 1) c4)).ownsRow 0 3 1 (.slice (some ⟨g4, 0, none⟩) (S.sides.length + 1) c4) (S.sides ++ [side]).length ((S.sides ++ [side]).map (Value.int .i64))
    have e : (S.sides ++ [side]).map (Value.int .i64) = S.sides.map (Value.int .i64) ++ [.int .i64 side] := by simp
    rw [e, show (S.sides ++ [side]).length = S.sides.length + 1 by simp]
    exact ho.kept hst (owns_nebox ho hr1 (by decide))
  · have hne : (rs.getD i undef).ownBlock = none ∨ (rs.getD i undef).ownBlock ≠ vl.ownBlock := by
      cases hv : (rs.getD i undef).ownBlock with
      | none => exact .inl rfl
      | some g => exact .inr (fun e => ((e3 i hi).2 g hv).2 e.symm)
    have i1 : IntsIn w1 (rs.getD i undef) (S.prods.getD i ⟨0, [], 0⟩).right := World.ownsRow.kept (e3 i hi).1 hg hne
    exact World.ownsRow.kept i1 hst (owns_nebox i1 hr1 (by decide))
  · intro e
    have e' : g4 = g := by simpa [Value.ownBlock] using e
    rcases hl with hl | hl
    · exact ((e3 i hi).2 g hv).2 (by rw [hl, e'])
    · have hlt : g < w.heap.size := (World.ownsRow.lt (e3 i hi).1 g hv).2
      omega

end Go.Proofs.Ytkbpnafahimeiaa
