import Derived.Test.YthoamlahbnphkaaGreatQpikkpinmopid
import Derived.Test.YthoamlahbnphkaaGreatQdoliolgblefd
import Derived.Test.YthoamlahbnphkaaGreatQkjibagifhbeg

/-
  relate: lists under way, and what is handed to them.
-/
namespace Go.Proofs.YthoamlahbnphkaaGreat.J
open Go.RowKit Go.Maps Go.Shelf

attribute [local go_sem] Oper.semAt_some

/-- A number more, unless it stands last. -/
def addL (l : List Int) (x : Int) : List Int := if l.getLast? = some x then l else l ++ [x]

/-- Lists under way. -/
structure LqP (P X : World) (bx kb T : Nat) (Q : Nat → List Int) (ua : Nat → Option Addr) (uc : Nat → Nat) : Prop where
  grown : P.grownBy X none
  box : X.heap[bx]? = some (.cells #[.slice (some ⟨kb, 0, none⟩) T T] 30 (0, 0))
  val : ValAt X kb T 24 (fun k => .slice (ua k) (Q k).length (uc k))
  own : ∀ k, k < T → X.ownsRow P.heap.size 3 1 (.slice (ua k) (Q k).length (uc k)) (Q k).length (intV (Q k))
  sep : ∀ k l, k < T → l < T → k ≠ l → (Value.slice (ua k) (Q k).length (uc k)).ownBlock = none ∨ (Value.slice (ua k) (Q k).length (uc k)).ownBlock ≠ (Value.slice (ua l) (Q l).length (uc l)).ownBlock
  lo : P.heap.size ≤ bx ∧ P.heap.size ≤ kb
section
variable {P X Y : World} {bx kb T : Nat} {Q : Nat → List Int} {ua : Nat → Option Addr} {uc : Nat → Nat}
theorem LqP.kept (h : LqP P X bx kb T Q ua uc) (hg : X.grownBy Y none) : LqP P Y bx kb T Q ua uc :=
  ⟨grown_trans h.grown hg, box_kept h.box hg, h.val.kept hg, fun k hk => keep0 (h.own k hk) hg, h.sep, h.lo⟩
theorem LqP.add (h : LqP P X bx kb T Q ua uc) {f g c : Nat} {x : Int} (hf : f < T) (hg : X.grownBy Y (Value.slice (ua f) (Q f).length (uc f)).ownBlock) (ho : Y.ownsRow P.heap.size 3 1 (.slice (some ⟨g, 0, none⟩) ((Q f).length + 1) c) ((Q f).length + 1) (intV (Q f) ++ [.int .i64 x])) (hat : (Value.slice (ua f) (Q f).length (uc f)).ownBlock = some g ∨ g = X.heap.size) : LqP P (Y.setCell ⟨kb, f, none⟩ (.slice (some ⟨g, 0, none⟩) ((Q f).length + 1) c)) bx kb T (updL Q f (Q f ++ [x])) (updL ua f (some ⟨g, 0, none⟩)) (updL uc f c) := by
  have hs : Y.grownBy (Y.setCell ⟨kb, f, none⟩ (.slice (some ⟨g, 0, none⟩) ((Q f).length + 1) c)) (some kb) := grown_setCell _ _ _
  have hv : ValAt Y kb T 24 (fun k => .slice (ua k) (Q k).length (uc k)) := box_row h.val (h.own f hf) (by decide) hg
  have hb : Y.heap[bx]? = some (.cells #[.slice (some ⟨kb, 0, none⟩) T T] 30 (0, 0)) := box_row h.box (h.own f hf) (by decide) hg
  have hlen : (Q f ++ [x]).length = (Q f).length + 1 := by simp
  have hiv : intV (Q f ++ [x]) = intV (Q f) ++ [.int .i64 x] := by unfold intV; rw [List.map_append]; rfl
  have key : ∀ k, k < T → k ≠ f → (Value.slice (ua k) (Q k).length (uc k)).ownBlock = none ∨ (Value.slice (ua k) (Q k).length (uc k)).ownBlock ≠ some g := fun k hk e => by
    rcases hat with h1 | h1
    · rw [← h1]; exact h.sep k f hk hf e
    · cases hb : (Value.slice (ua k) (Q k).length (uc k)).ownBlock with
      | none => exact .inl rfl
      | some b =>
        right
        intro h2
        have h3 := ((h.own k hk).lt b hb).2
        have h4 : b = g := by simpa using h2
        omega
  refine ⟨grown_new (grown_owned h.grown (h.own f hf) (Nat.le_refl _) hg) hs h.lo.2, ?_, ?_, fun k hk => ?_, fun k l hk hl e => ?_, h.lo⟩
  · refine (hs.block bx (Array.getElem?_eq_some_iff.1 hb).1 ?_).trans hb
    intro e
    have e2 : bx = kb := by simpa using e
    unfold ValAt at hv
    rw [e2, hv] at hb
    simp only [Option.some.injEq, Obj.cells.injEq] at hb
    exact absurd hb.2.1 (by decide)
  · refine (hv.set f _).ext fun i _ => ?_
    unfold put updL
    by_cases e : i = f
    · simp only [if_pos e, hlen]
    · simp only [if_neg e]
  · by_cases e : k = f
    · subst e
      rw [updL_same, updL_same, updL_same, hlen, hiv]
      exact ho.kept hs (owns_nebox ho hv (by decide))
    · rw [updL_other _ _ e, updL_other _ _ e, updL_other _ _ e]
      have h1 := (h.own k hk).kept hg (h.sep k f hk hf e)
      exact h1.kept hs (owns_nebox h1 hv (by decide))
  · by_cases e1 : k = f
    · subst e1
      have e2 : l ≠ k := fun h => e h.symm
      rw [updL_same, updL_same, updL_same, updL_other _ _ e2, updL_other _ _ e2, updL_other _ _ e2]
      right
      rcases key l hl e2 with h1 | h1
      · rw [h1]; simp [Value.ownBlock]
      · exact fun h2 => h1 h2.symm
    · rw [updL_other _ _ e1, updL_other _ _ e1, updL_other _ _ e1]
      by_cases e2 : l = f
      · subst e2
        rw [updL_same, updL_same, updL_same]
        exact key k hk e1
      · rw [updL_other _ _ e2, updL_other _ _ e2, updL_other _ _ e2]
        exact h.sep k l hk hl e
end

theorem updL_id {α : Type} (f : Nat → α) (k : Nat) : updL f k (f k) = f := funext fun i => by
  unfold updL
  by_cases e : i = k
  · rw [if_pos e, e]
  · rw [if_neg e]
/-- All blocks stay but numbers and rows of rows. -/
def KeepH (X Y : World) : Prop := X.heap.size ≤ Y.heap.size ∧ ∀ (b : Nat) (cs : Array Value) (t : TypeId), X.heap[b]? = some (.cells cs t (0, 0)) → t ≠ 3 → t ≠ 24 → Y.heap[b]? = some (.cells cs t (0, 0))
theorem KeepH.refl (X : World) : KeepH X X := ⟨Nat.le_refl _, fun _ _ _ h _ _ => h⟩
theorem KeepH.trans {X Y Z : World} (h : KeepH X Y) (k : KeepH Y Z) : KeepH X Z := ⟨Nat.le_trans h.1 k.1, fun b cs t h1 h2 h3 => k.2 b cs t (h.2 b cs t h1 h2 h3) h2 h3⟩
theorem KeepH.none_ {X Y : World} (h : X.grownBy Y none) : KeepH X Y := ⟨h.size, fun _ _ _ h1 _ _ => box_kept h1 h⟩
theorem KeepH.row {X Y : World} {B n : Nat} {v : Value} {xs : List Value} (ho : X.ownsRow B 3 1 v n xs) (h : X.grownBy Y v.ownBlock) : KeepH X Y := ⟨h.size, fun _ _ _ h1 h2 _ => box_row h1 ho (fun e => h2 e.symm) h⟩
theorem KeepH.set {X : World} {b len x : Nat} {c : Nat → Value} {v : Value} (hb : ValAt X b len 24 c) : KeepH X (X.setCell ⟨b, x, none⟩ v) := by
  have hg : X.grownBy (X.setCell ⟨b, x, none⟩ v) (some b) := grown_setCell _ _ _
  refine ⟨hg.size, fun b' cs t h1 _ h3 => (hg.block b' (Array.getElem?_eq_some_iff.1 h1).1 ?_).trans h1⟩
  intro e
  have e2 : b' = b := by simpa using e
  unfold ValAt at hb
  rw [e2, hb] at h1
  simp only [Option.some.injEq, Obj.cells.injEq] at h1
  exact h3 h1.2.1.symm
/-- What is handed to the lists. -/
def HandTold (P : World) (bx kb T : Nat) (Q : Nat → List Int) (f : Nat) (x : Int) (w : World) (e : Ending) (y : World) : Prop := e = .returned (.tuple #[]) ∧ KeepH w y ∧ ∃ ua uc, LqP P y bx kb T (updL Q f (addL (Q f) x)) ua uc

set_option maxRecDepth 100000 in
set_option maxHeartbeats 2000000 in
theorem hand_any (P w : World) (bx kb T : Nat) (Q : Nat → List Int) (ua : Nat → Option Addr) (uc : Nat → Nat) (h : LqP P w bx kb T Q ua uc) (f : Nat) (x : Int) (hf : f < T) (hQ : (Q f).length ≤ 10000000) :
    Calls Tryz.prog 57 #[.int .i64 (f : Int), .int .i64 x, .pointer (some ⟨bx, 0, none⟩)] w fun e y => HandTold P bx kb T Q f x w e y := by
  have HL : Hid (LqP P w bx kb T Q ua uc) := h
  have c0 : w.cell? ⟨bx, 0, none⟩ = some (.slice (some ⟨kb, 0, none⟩) T T) := by rw [cell_of_row _ _ _ _ _ _ h.box]; rfl
  have c1 := h.val.cell f hf
  obtain ⟨fa, hfa⟩ : ∃ a, a = ua f := ⟨_, rfl⟩
  obtain ⟨fc, hfc⟩ : ∃ a, a = uc f := ⟨_, rfl⟩
  obtain ⟨m, hm⟩ : ∃ m, m = (Q f).length := ⟨_, rfl⟩
  rw [← hfa, ← hfc, ← hm] at c1
  rw [← hm] at hQ
  have hf0 : (0 : Int) ≤ (f : Int) := by omega
  have hf1 : (f : Int) < (T : Int) := by omega
  have HOW : Hid (∀ Y, w.grownBy Y none → Y.ownsRow P.heap.size 3 1 (.slice fa m fc) m (intV (Q f))) := fun Y hY => by
    have h1 := keep0 (h.own f hf) hY
    rw [← hfa, ← hfc, ← hm] at h1
    exact h1
  have HPS : Hid (∀ Y, w.grownBy Y none → P.heap.size ≤ Y.heap.size) := fun Y hY => Nat.le_trans h.grown.size hY.size
  have HFIN : Hid (∀ (Y V : World) (g c : Nat), w.grownBy Y none → Y.grownBy V (Value.slice fa m fc).ownBlock → V.ownsRow P.heap.size 3 1 (.slice (some ⟨g, 0, none⟩) (m + 1) c) (m + 1) (intV (Q f) ++ [.int .i64 x]) → ((Value.slice fa m fc).ownBlock = some g ∨ g = Y.heap.size) → V.cell? ⟨kb, f, none⟩ = some (.slice fa m fc) ∧ V.frozen? ⟨kb, f, none⟩ = false ∧ V.cell? ⟨bx, 0, none⟩ = some (.slice (some ⟨kb, 0, none⟩) T T) ∧ KeepH w (V.setCell ⟨kb, f, none⟩ (.slice (some ⟨g, 0, none⟩) (m + 1) c)) ∧ ∃ ua' uc', LqP P (V.setCell ⟨kb, f, none⟩ (.slice (some ⟨g, 0, none⟩) (m + 1) c)) bx kb T (updL Q f (Q f ++ [x])) ua' uc') := fun Y V g c hY hg ho hat => by
    rw [hfa, hfc, hm] at hg hat
    rw [hm] at ho
    have h1 := h.kept hY
    have hv : ValAt V kb T 24 (fun k => .slice (ua k) (Q k).length (uc k)) := box_row h1.val (h1.own f hf) (by decide) hg
    have hb : V.heap[bx]? = some (.cells #[.slice (some ⟨kb, 0, none⟩) T T] 30 (0, 0)) := box_row h1.box (h1.own f hf) (by decide) hg
    refine ⟨by rw [hfa, hfc, hm]; exact hv.cell f hf, hv.free f, by rw [cell_of_row _ _ _ _ _ _ hb]; rfl, ?_⟩
    rw [hm]
    exact ⟨((KeepH.none_ hY).trans (.row (h1.own f hf) hg)).trans (.set hv), _, _, h1.add hf hg ho hat⟩
  have HAL : Hid ((m = 0 ∨ (Q f).getD (m - 1) 0 ≠ x) → addL (Q f) x = Q f ++ [x]) := fun h => by
    unfold addL
    rw [if_neg]
    intro e
    rw [List.getLast?_eq_getElem?, ← hm] at e
    rcases h with h | h
    · rw [List.getElem?_eq_none (by omega)] at e; cases e
    · exact h (by rw [List.getD_eq_getElem?_getD, e]; rfl)
  have HALN : Hid (m ≠ 0 → (Q f).getD (m - 1) 0 = x → addL (Q f) x = Q f) := fun h0 h => by
    unfold addL
    rw [if_pos]
    rw [List.getLast?_eq_getElem?, ← hm]
    rw [List.getD_eq_getElem?_getD, List.getElem?_eq_getElem (by omega)] at h
    rw [List.getElem?_eq_getElem (by omega)]
    exact congrArg some h
  have HCL : Hid (∀ Y, w.grownBy Y none → m ≠ 0 → ∃ g, fa = some ⟨g, 0, none⟩ ∧ Y.cell? ⟨g, m - 1, none⟩ = some (.int .i64 ((Q f).getD (m - 1) 0))) := fun Y hY h0 => by
    obtain ⟨g, c, e, h1⟩ := owns_at (HOW.out Y hY) (by omega)
    simp only [Value.slice.injEq] at e
    refine ⟨g, e.1, h1 (m - 1) _ ?_⟩
    unfold intV
    rw [List.getElem?_map, List.getElem?_eq_getElem (by omega), List.getD_eq_getElem?_getD, List.getElem?_eq_getElem (by omega)]; rfl
  obtain ⟨xs, hxs⟩ : ∃ xs, xs = intV (Q f) := ⟨_, rfl⟩
  rw [← hxs] at HOW HFIN
  obtain ⟨i0, hi0, hz0, hz1, hz2⟩ := info_parts infoInt
  have c2 : ∀ o, (w.alloc o).cell? ⟨bx, 0, none⟩ = some (.slice (some ⟨kb, 0, none⟩) T T) := fun o => (World.grownBy_alloc _ o none).cell c0 (by simp)
  have c3 : ∀ o, (w.alloc o).cell? ⟨kb, f, none⟩ = some (.slice fa m fc) := fun o => (World.grownBy_alloc _ o none).cell c1 (by simp)
  clear h hfa hfc hm hxs
  by_cases h0 : m = 0
  · subst h0
    have HA0 := show Hid _ from HAL.out (.inl rfl)
    go_enter Tryz.func57, Tryz.ntmps57
    go_wp2_with fail
    go_region_law (first
      | (refine step_append_liesW _ rfl (.tmp 30) (.tmp 32) 24 rfl P.heap.size 3 i0 (.int .i64 0) 1 8 Tryz.underlying24 hi0 hz0 hz1 hz2 rfl (by decide) (.slice fa 0 fc) 0 xs (by simp [Act.eval]) (HOW.out _ (grown_trans (World.grownBy_alloc _ _ none) (grown_drewN _ _))) ⟨w.heap.size, 0, none⟩ 1 1 [.int .i64 x] (by simp [Act.eval]) rfl (World.news_of_block (heap_alloc_last w _)) (by simp [Value.oneCell']) (by decide) (by unfold maxLen; omega) (by omega) (HPS.out _ (grown_trans (World.grownBy_alloc _ _ none) (grown_drewN _ _))) ?_; intro g9 c9 wB hoB hgB hat; obtain ⟨q1, q2, q3, q4⟩ := HFIN.out _ wB g9 c9 (grown_trans (World.grownBy_alloc _ _ none) (grown_drewN _ _)) hgB hoB hat; have HQ1 := show Hid _ from q4; clear q4 hoB hgB hat)
      | fail)
    all_goals go_wp2_with fail
    all_goals refine bodyPost_end (v := .tuple #[]) (by simp [results, Tryz.results57]) rfl ?_
    all_goals exact ⟨rfl, by rw [HA0.out]; exact HQ1.out⟩
  · obtain ⟨k, rfl⟩ : ∃ k, m = k + 1 := ⟨m - 1, by omega⟩
    obtain ⟨g, rfl, d0⟩ := HCL.out w (grown_refl _ _) h0
    rw [Nat.add_sub_cancel] at d0
    obtain ⟨z, hz⟩ : ∃ z, z = (Q f).getD k 0 := ⟨_, rfl⟩
    rw [← hz] at d0
    have hk0 : (0 : Int) ≤ (k : Int) := by omega
    have hk1 : (k : Int) < (k : Int) + 1 := by omega
    have hkd : decide ((k : Int) < 0) = false := decide_eq_false (by omega)
    by_cases e : z = x
    · have HA1 := show Hid _ from HALN.out h0 (by rw [Nat.add_sub_cancel, ← hz]; exact e)
      have hzx : (z != x) = false := by rw [e]; exact bne_self_eq_false _
      clear hz e
      go_enter Tryz.func57, Tryz.ntmps57
      go_wp2_with fail
      refine bodyPost_end (v := .tuple #[]) (by simp [results, Tryz.results57]) rfl ?_
      refine ⟨rfl, .refl _, ua, uc, ?_⟩
      rw [HA1.out, updL_id]
      exact HL.out
    · have HA0 := show Hid _ from HAL.out (.inr (by rw [Nat.add_sub_cancel, ← hz]; exact e))
      have hzx : (z != x) = true := bne_iff_ne.2 e
      clear hz e
      go_enter Tryz.func57, Tryz.ntmps57
      go_wp2_with fail
      go_region_law (first
        | (refine step_append_liesW _ rfl (.tmp 30) (.tmp 32) 24 rfl P.heap.size 3 i0 (.int .i64 0) 1 8 Tryz.underlying24 hi0 hz0 hz1 hz2 rfl (by decide) (.slice (some ⟨g, 0, none⟩) (k + 1) fc) (k + 1) xs (by simp [Act.eval]) (HOW.out _ (grown_trans (World.grownBy_alloc _ _ none) (grown_drewN _ _))) ⟨w.heap.size, 0, none⟩ 1 1 [.int .i64 x] (by simp [Act.eval]) rfl (World.news_of_block (heap_alloc_last w _)) (by simp [Value.oneCell']) (by decide) (by unfold maxLen; omega) (by omega) (HPS.out _ (grown_trans (World.grownBy_alloc _ _ none) (grown_drewN _ _))) ?_; intro g9 c9 wB hoB hgB hat; obtain ⟨q1, q2, q3, q4⟩ := HFIN.out _ wB g9 c9 (grown_trans (World.grownBy_alloc _ _ none) (grown_drewN _ _)) hgB hoB hat; have HQ1 := show Hid _ from q4; clear q4 hoB hgB hat)
        | fail)
      all_goals go_wp2_with fail
      all_goals refine bodyPost_end (v := .tuple #[]) (by simp [results, Tryz.results57]) rfl ?_
      all_goals exact ⟨rfl, by rw [HA0.out]; exact HQ1.out⟩

end Go.Proofs.YthoamlahbnphkaaGreat.J

/-
  relate: reads.
-/
namespace Go.Proofs.YthoamlahbnphkaaGreat.J
open Go.RowKit Go.Maps Go.Shelf

attribute [local go_sem] Oper.semAt_some

/-- What is handed out for one transition, among edges of the state behind it. -/
def rdE (tl : List It) (tn : Nat) (F : Nat → Bool) (i b : Nat) (l : List (Nat × Nat)) : List (Nat × Int) := (l.filter fun x => decide (tn ≤ x.1) && F (x.1 - tn)).map fun x => (i, nmF tl b x.1)
theorem rdE_snoc (tl : List It) (tn : Nat) (F : Nat → Bool) (i b : Nat) (l : List (Nat × Nat)) (s t : Nat) : rdE tl tn F i b (l ++ [(s, t)]) = rdE tl tn F i b l ++ (if (decide (tn ≤ s) && F (s - tn)) = true then [(i, nmF tl b s)] else []) := by
  unfold rdE
  rw [List.filter_append, List.map_append]
  by_cases h : (decide (tn ≤ s) && F (s - tn)) = true
  · rw [if_pos h, List.filter_cons, if_pos h]; rfl
  · rw [if_neg h, List.filter_cons, if_neg h]; rfl
theorem rdE_len (tl : List It) (tn : Nat) (F : Nat → Bool) (i b : Nat) (l : List (Nat × Nat)) : (rdE tl tn F i b l).length ≤ l.length := by
  unfold rdE
  rw [List.length_map]
  exact List.length_filter_le _ _
/-- The state behind a transition. -/
def bhF (es : List (List (Nat × Nat))) (x : It) : Nat := (ldF (es.getD x.1.toNat []) x.2.toNat).toNat
/-- What is handed out for the transitions below k. -/
def rdT (es : List (List (Nat × Nat))) (tl : List It) (tn : Nat) (F : Nat → Bool) : Nat → List (Nat × Int)
  | 0 => []
  | k + 1 => rdT es tl tn F k ++ rdE tl tn F k (bhF es (tl.getD k (0, 0))) (es.getD (bhF es (tl.getD k (0, 0))) [])
/-- Lists, once all this has been handed to them. -/
def foldQ (Q : Nat → List Int) (l : List (Nat × Int)) : Nat → List Int := l.foldl (fun Q p => updL Q p.1 (addL (Q p.1) p.2)) Q
theorem foldQ_snoc (Q : Nat → List Int) (l : List (Nat × Int)) (p : Nat × Int) : foldQ Q (l ++ [p]) = updL (foldQ Q l) p.1 (addL (foldQ Q l p.1) p.2) := by
  unfold foldQ
  rw [List.foldl_append]; rfl
theorem addL_len (l : List Int) (x : Int) : (addL l x).length ≤ l.length + 1 := by
  unfold addL
  split
  · omega
  · rw [List.length_append]; exact Nat.le_refl _
theorem foldQ_len (Q : Nat → List Int) (f : Nat) : ∀ (l : List (Nat × Int)), (foldQ Q l f).length ≤ (Q f).length + l.length := fun l => by
  induction l generalizing Q with
  | nil => exact Nat.le_refl _
  | cons p l ih =>
    have h1 := ih (updL Q p.1 (addL (Q p.1) p.2))
    have h2 : foldQ Q (p :: l) f = foldQ (updL Q p.1 (addL (Q p.1) p.2)) l f := rfl
    rw [h2, List.length_cons]
    by_cases e : f = p.1
    · subst e
      rw [updL_same] at h1
      have h3 := addL_len (Q p.1) p.2
      omega
    · rw [updL_other _ _ e] at h1
      omega
theorem rdT_len {es : List (List (Nat × Nat))} {tl : List It} {tn c : Nat} {F : Nat → Bool} (h : ∀ q, (es.getD q []).length ≤ c) : ∀ k, (rdT es tl tn F k).length ≤ k * c
  | 0 => by simp [rdT]
  | k + 1 => by
    have h1 := rdT_len (tl := tl) (tn := tn) (F := F) h k
    have h2 := rdE_len tl tn F k (bhF es (tl.getD k (0, 0))) (es.getD (bhF es (tl.getD k (0, 0))) [])
    have h3 := h (bhF es (tl.getD k (0, 0)))
    rw [rdT, List.length_append, Nat.succ_mul]
    omega

end Go.Proofs.YthoamlahbnphkaaGreat.J
