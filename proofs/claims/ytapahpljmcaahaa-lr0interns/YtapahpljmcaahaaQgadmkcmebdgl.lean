import Derived.Test.YtapahpljmcaahaaQfnaeblgimkbp
import Derived.Test.YtapahpljmcaahaaQpncfdpmnignn
import Derived.Test.YtapahpljmcaahaaQeapmpnlfgojj
import Derived.Deep.AppendSrc

/-
  lr0: the document's automaton under way, in memory.
-/
namespace Go.Proofs.Ytapahpljmcaahaa.J
open Go.RowKit Go.Maps Go.Shelf

theorem GG_zero' {tn n : Nat} {L : Nat → Int} {R : Nat → List Int} {k : List It} (hk : ∀ x ∈ k, itB n R x = true) (hR : ∀ k, k < n → ∀ x ∈ R k, (0 : Int) < x) : GG tn n L R k 0 = [] := by
  unfold GG
  have key : ∀ x ∈ CLo tn n L R k, itB n R x = true := by
    unfold CLo
    by_cases hh : ∃ l, IsClo tn n L R k l ∧ l.length ≤ k.length + 13000
    · rw [dif_pos hh]
      have h1 := Classical.choose_spec hh
      exact fun x hx => ((h1.1.mem x).1 hx).item hk
    · rw [dif_neg hh]
      exact fun x hx => absurd hx (by simp)
  unfold kerT
  rw [List.map_eq_nil_iff, List.filter_eq_nil_iff]
  intro x hx h
  have h1 := key x hx
  have h2 : aheadV R x = 0 := by simpa using h
  unfold itB at h1
  simp only [Bool.and_eq_true, decide_eq_true_eq] at h1
  obtain ⟨⟨⟨a1, a2⟩, a3⟩, a4⟩ := h1
  unfold aheadV at h2
  by_cases e : x.2 = ((R x.1.toNat).length : Int)
  · rw [if_pos e] at h2; omega
  · rw [if_neg e] at h2
    have hl : x.2.toNat < (R x.1.toNat).length := by omega
    have h3 := hR x.1.toNat (by omega) ((R x.1.toNat).getD x.2.toNat 0) (by
      generalize R x.1.toNat = l at hl ⊢
      rw [List.getD_eq_getElem?_getD, List.getElem?_eq_getElem hl]; exact List.getElem_mem hl)
    omega

/-- The document's automaton under way: what its box says (bs, ba, bi) and its states' row. -/
structure DbP (w X : World) (bx : Nat) (bs : Value) (ba bi : Int) (rv : Value) (N : Nat) (kv ev : Nat → Value) (kl el : Nat → List It) (Q : Value → List It → Prop) : Prop where
  grown : w.grownBy X none
  box : X.heap[bx]? = some (.cells #[bs, .int .i64 ba, .int .i64 bi] 32 (0, 0))
  row : X.ownsRow w.heap.size 43 2 rv N (stV kv ev N)
  ker : ∀ i, i < N → X.ownsRow w.heap.size 49 2 (kv i) (kl i).length (itsV (kl i))
  edg : ∀ i, i < N → X.ownsRow w.heap.size 61 2 (ev i) (el i).length (itsV (el i))
  sep : ∀ i j, i < N → j < N → i ≠ j → (ev i).ownBlock = none ∨ (ev i).ownBlock ≠ (ev j).ownBlock
  lo : w.heap.size ≤ bx
  pas : ∀ v l, Q v l → X.ownsRow w.heap.size 49 2 v l.length (itsV l)

section
variable {w X Y : World} {bx : Nat} {bs : Value} {ba bi : Int} {rv : Value} {N : Nat} {kv ev : Nat → Value} {kl el : Nat → List It} {Q : Value → List It → Prop}
theorem DbP.kept (h : DbP w X bx bs ba bi rv N kv ev kl el Q) (hg : X.grownBy Y none) : DbP w Y bx bs ba bi rv N kv ev kl el Q :=
  ⟨grown_trans h.grown hg, box_kept h.box hg, keep0 h.row hg, fun i hi => keep0 (h.ker i hi) hg, fun i hi => keep0 (h.edg i hi) hg, h.sep, h.lo, fun v l hq => keep0 (h.pas v l hq) hg⟩
theorem DbP.mono {Q' : Value → List It → Prop} (h : DbP w X bx bs ba bi rv N kv ev kl el Q) (hq : ∀ v l, Q' v l → X.ownsRow w.heap.size 49 2 v l.length (itsV l)) : DbP w X bx bs ba bi rv N kv ev kl el Q' := ⟨h.grown, h.box, h.row, h.ker, h.edg, h.sep, h.lo, hq⟩
theorem DbP.cells (h : DbP w X bx bs ba bi rv N kv ev kl el Q) : X.cell? ⟨bx, 0, none⟩ = some bs ∧ X.cell? ⟨bx, 1, none⟩ = some (.int .i64 ba) ∧ X.cell? ⟨bx, 2, none⟩ = some (.int .i64 bi) := by
  refine ⟨?_, ?_, ?_⟩ <;> (rw [cell_of_row _ _ _ _ _ _ h.box]; rfl)
theorem DbP.free (h : DbP w X bx bs ba bi rv N kv ev kl el Q) (o : Nat) : X.frozen? ⟨bx, o, none⟩ = false := frozen_of_row _ _ _ _ _ h.box
/-- Blocks of w's own stay. -/
theorem DbP.phat (h : DbP w X bx bs ba bi rv N kv ev kl el Q) {b : Nat} {cs : Array Value} {t : TypeId} (hb : w.heap[b]? = some (.cells cs t (0, 0))) : X.heap[b]? = some (.cells cs t (0, 0)) := box_kept hb h.grown

/-- The box alone is turned. -/
theorem DbP.boxed (h : DbP w X bx bs ba bi rv N kv ev kl el Q) {bs' : Value} {ba' bi' : Int} (hg : X.grownBy Y (some bx)) (hb : Y.heap[bx]? = some (.cells #[bs', .int .i64 ba', .int .i64 bi'] 32 (0, 0))) : DbP w Y bx bs' ba' bi' rv N kv ev kl el Q :=
  ⟨grown_new h.grown hg h.lo, hb, h.row.kept hg (owns_nebox h.row h.box (by decide)), fun i hi => (h.ker i hi).kept hg (owns_nebox (h.ker i hi) h.box (by decide)), fun i hi => (h.edg i hi).kept hg (owns_nebox (h.edg i hi) h.box (by decide)), h.sep, h.lo, fun v l hq => (h.pas v l hq).kept hg (owns_nebox (h.pas v l hq) h.box (by decide))⟩
theorem DbP.setS (h : DbP w X bx bs ba bi rv N kv ev kl el Q) (v : Value) : DbP w (X.setCell ⟨bx, 0, none⟩ v) bx v ba bi rv N kv ev kl el Q :=
  h.boxed (grown_setCell _ _ _) (heap_setCell_same _ _ _ _ _ _ h.box)
theorem DbP.setA (h : DbP w X bx bs ba bi rv N kv ev kl el Q) (v : Int) : DbP w (X.setCell ⟨bx, 1, none⟩ (.int .i64 v)) bx bs v bi rv N kv ev kl el Q :=
  h.boxed (grown_setCell _ _ _) (heap_setCell_same _ _ _ _ _ _ h.box)
theorem DbP.setI (h : DbP w X bx bs ba bi rv N kv ev kl el Q) (v : Int) : DbP w (X.setCell ⟨bx, 2, none⟩ (.int .i64 v)) bx bs ba v rv N kv ev kl el Q :=
  h.boxed (grown_setCell _ _ _) (heap_setCell_same _ _ _ _ _ _ h.box)
/-- A state more. -/
theorem DbP.pushS (h : DbP w X bx bs ba bi rv N kv ev kl el Q) {rv' kv0 : Value} {k : List It} (hk : X.ownsRow w.heap.size 49 2 kv0 k.length (itsV k)) (hg : X.grownBy Y rv.ownBlock) (ho : Y.ownsRow w.heap.size 43 2 rv' (N + 1) (stV kv ev N ++ [kv0, .slice none 0 0])) : DbP w Y bx bs ba bi rv' (N + 1) (updL kv N kv0) (updL ev N (.slice none 0 0)) (updL kl N k) (updL el N []) Q := by
  refine ⟨grown_owned h.grown h.row (Nat.le_refl _) hg, box_row h.box h.row (by decide) hg, ?_, fun i hi => ?_, fun i hi => ?_, fun i j hi hj hne => ?_, h.lo, fun v l hq => row_row (h.pas v l hq) h.row (by decide) hg⟩
  · have e : stV (updL kv N kv0) (updL ev N (.slice none 0 0)) (N + 1) = stV kv ev N ++ [kv0, .slice none 0 0] := by
      show stV _ _ N ++ _ = _
      rw [updL_same, updL_same, stV_congr N (fun i hi => ⟨updL_other _ _ (by omega), updL_other _ _ (by omega)⟩)]
    rw [e]; exact ho
  · by_cases e : i = N
    · subst e
      rw [updL_same, updL_same]
      exact row_row hk h.row (by decide) hg
    · rw [updL_other _ _ e, updL_other _ _ e]
      exact row_row (h.ker i (by omega)) h.row (by decide) hg
  · by_cases e : i = N
    · subst e
      rw [updL_same, updL_same]
      exact World.ownsRow_nil _ _ _ _
    · rw [updL_other _ _ e, updL_other _ _ e]
      exact row_row (h.edg i (by omega)) h.row (by decide) hg
  · by_cases e : i = N
    · subst e
      rw [updL_same]
      exact .inl rfl
    · rw [updL_other _ _ e]
      by_cases e2 : j = N
      · subst e2
        rw [updL_same]
        cases hb : (ev i).ownBlock with
        | none => exact .inl rfl
        | some b => exact .inr (by simp [Value.ownBlock])
      · rw [updL_other _ _ e2]
        exact h.sep i j (by omega) (by omega) hne

/-- An edge more in the row of a state: the row itself, ahead of the store. -/
structure DbE (w Y : World) (bx : Nat) (bs : Value) (ba bi : Int) (rv : Value) (N : Nat) (kv ev : Nat → Value) (kl el : Nat → List It) (Q : Value → List It → Prop) (i : Nat) (v : Value) (ed : List It) : Prop where
  grown : w.grownBy Y none
  box : Y.heap[bx]? = some (.cells #[bs, .int .i64 ba, .int .i64 bi] 32 (0, 0))
  row : Y.ownsRow w.heap.size 43 2 rv N (stV kv ev N)
  ker : ∀ i, i < N → Y.ownsRow w.heap.size 49 2 (kv i) (kl i).length (itsV (kl i))
  edg : ∀ j, j < N → j ≠ i → Y.ownsRow w.heap.size 61 2 (ev j) (el j).length (itsV (el j))
  new : Y.ownsRow w.heap.size 61 2 v ed.length (itsV ed)
  sep : ∀ i j, i < N → j < N → i ≠ j → (ev i).ownBlock = none ∨ (ev i).ownBlock ≠ (ev j).ownBlock
  sepN : ∀ j, j < N → j ≠ i → (ev j).ownBlock = none ∨ (ev j).ownBlock ≠ v.ownBlock
  lo : w.heap.size ≤ bx
  pas : ∀ v l, Q v l → Y.ownsRow w.heap.size 49 2 v l.length (itsV l)
theorem DbP.pushE (h : DbP w X bx bs ba bi rv N kv ev kl el Q) {i g c : Nat} {ed : List It} (hi : i < N) (hg : X.grownBy Y (ev i).ownBlock) (ho : Y.ownsRow w.heap.size 61 2 (.slice (some ⟨g, 0, none⟩) ed.length c) ed.length (itsV ed)) (hat : (ev i).ownBlock = some g ∨ g = X.heap.size) : DbE w Y bx bs ba bi rv N kv ev kl el Q i (.slice (some ⟨g, 0, none⟩) ed.length c) ed := by
  refine ⟨grown_owned h.grown (h.edg i hi) (Nat.le_refl _) hg, box_row h.box (h.edg i hi) (by decide) hg, row_row h.row (h.edg i hi) (by decide) hg, fun j hj => row_row (h.ker j hj) (h.edg i hi) (by decide) hg, fun j hj hne => (h.edg j hj).kept hg (h.sep j i hj hi hne), ho, h.sep, fun j hj hne => ?_, h.lo, fun v l hq => row_row (h.pas v l hq) (h.edg i hi) (by decide) hg⟩
  rcases hat with h1 | h1
  · show _ ∨ _ ≠ some g
    rw [← h1]; exact h.sep j i hj hi hne
  · cases hb : (ev j).ownBlock with
    | none => exact .inl rfl
    | some k =>
      right
      intro h2
      have := ((h.edg j hj).lt k hb).2
      have : k = g := by simpa [Value.ownBlock] using h2
      omega
theorem DbE.set {i g cap : Nat} {v : Value} {ed : List It} (h : DbE w X bx bs ba bi rv N kv ev kl el Q i v ed) (hrv : rv = .slice (some ⟨g, 0, none⟩) N cap) (hi : i < N) : DbP w (X.setCell ⟨g, i * 2 + 1, none⟩ v) bx bs ba bi rv N kv (updL ev i v) kl (updL el i ed) Q := by
  have hg : X.grownBy (X.setCell ⟨g, i * 2 + 1, none⟩ v) rv.ownBlock := by rw [hrv]; exact grown_setCell _ _ _
  refine ⟨grown_owned h.grown h.row (Nat.le_refl _) hg, box_row h.box h.row (by decide) hg, ?_, fun j hj => row_row (h.ker j hj) h.row (by decide) hg, fun j hj => ?_, fun j k hj hk hne => ?_, h.lo, fun v l hq => row_row (h.pas v l hq) h.row (by decide) hg⟩
  · have hr := h.row
    refine ⟨by rw [stV_len], ?_⟩
    rcases hr.2 with ⟨h1, h2⟩ | ⟨g2, cap2, cur, h1, hB, hh, h3, h4, h5, h6⟩
    · omega
    · rw [h1] at hrv
      simp only [Value.slice.injEq, Option.some.injEq, Addr.mk.injEq] at hrv
      obtain ⟨⟨rfl, _⟩, _, rfl⟩ := hrv
      refine .inr ⟨g2, cap2, cur.setIfInBounds (i * 2 + 1) v, h1, hB, heap_setCell_same _ _ _ _ _ _ hh, h3, h4, by rw [Array.size_setIfInBounds]; exact h5, ?_⟩
      rw [← stV_set kv ev v N i hi, ← h6, Array.toList_setIfInBounds, List.take_set]
  · by_cases e : j = i
    · subst e
      rw [updL_same, updL_same]
      exact row_row h.new h.row (by decide) hg
    · rw [updL_other _ _ e, updL_other _ _ e]
      exact row_row (h.edg j hj e) h.row (by decide) hg
  · by_cases e : j = i
    · subst e
      have e2 : k ≠ j := fun h => hne h.symm
      rw [updL_same, updL_other _ _ e2]
      rcases h.sepN k hk e2 with h1 | h1
      · rw [h1]
        cases hb : v.ownBlock with
        | none => exact .inl rfl
        | some b => exact .inr (by simp)
      · exact .inr fun h2 => h1 h2.symm
    · rw [updL_other _ _ e]
      by_cases e2 : k = i
      · subst e2
        rw [updL_same]
        exact h.sepN j hj e
      · rw [updL_other _ _ e2]
        exact h.sep j k hj hk hne
theorem DbE.cells {i : Nat} {v : Value} {ed : List It} (h : DbE w X bx bs ba bi rv N kv ev kl el Q i v ed) : X.cell? ⟨bx, 0, none⟩ = some bs := by rw [cell_of_row _ _ _ _ _ _ h.box]; rfl
theorem DbE.kept {i : Nat} {v : Value} {ed : List It} (h : DbE w X bx bs ba bi rv N kv ev kl el Q i v ed) (hg : X.grownBy Y none) : DbE w Y bx bs ba bi rv N kv ev kl el Q i v ed :=
  ⟨grown_trans h.grown hg, box_kept h.box hg, keep0 h.row hg, fun i hi => keep0 (h.ker i hi) hg, fun i hi hn => keep0 (h.edg i hi hn) hg, keep0 h.new hg, h.sep, h.sepN, h.lo, fun v l hq => keep0 (h.pas v l hq) hg⟩
end

/-- The document's automaton between two edges of state i. -/
def DbAt (w X : World) (bx : Nat) (ks : List (List It)) (asked : Int) (el : Nat → List It) (Q : Value → List It → Prop) : Prop := ∃ (sa : Option Addr) (sc : Nat) (kv ev : Nat → Value), DbP w X bx (.slice sa ks.length sc) asked (ks.length : Int) (.slice sa ks.length sc) ks.length kv ev (fun i => ks.getD i []) el Q
theorem DbAt.kept {w X Y : World} {bx : Nat} {ks : List (List It)} {asked : Int} {el : Nat → List It} {Q : Value → List It → Prop} (h : DbAt w X bx ks asked el Q) (hg : X.grownBy Y none) : DbAt w Y bx ks asked el Q := by
  obtain ⟨sa, sc, kv, ev, h1⟩ := h
  exact ⟨sa, sc, kv, ev, h1.kept hg⟩
theorem DbAt.grown {w X : World} {bx : Nat} {ks : List (List It)} {asked : Int} {el : Nat → List It} {Q : Value → List It → Prop} (h : DbAt w X bx ks asked el Q) : w.grownBy X none := by
  obtain ⟨sa, sc, kv, ev, h1⟩ := h
  exact h1.grown
/-- A state more, told of the kernels. -/
theorem db_more {ks : List (List It)} {k : List It} : updL (fun i => ks.getD i []) ks.length k = fun i => (ks ++ [k]).getD i [] := funext fun i => by
  by_cases e : i = ks.length
  · subst e; rw [updL_same, getD_snoc_new]
  · rw [updL_other _ _ e]
    by_cases e2 : i < ks.length
    · rw [getD_snoc_old e2]
    · show ks.getD i [] = _
      rw [List.getD_eq_getElem?_getD, List.getD_eq_getElem?_getD, List.getElem?_eq_none (by omega), List.getElem?_eq_none (by rw [List.length_append, List.length_singleton]; omega)]
theorem db_none {N : Nat} {el : Nat → List It} (h : ∀ i, N ≤ i → el i = []) : updL el N [] = el := funext fun i => by
  by_cases e : i = N
  · subst e; rw [updL_same, h _ (Nat.le_refl _)]
  · rw [updL_other _ _ e]
/-- The kernels that place looks at. -/
theorem DbP.kers {w X : World} {bx : Nat} {bs : Value} {ba bi : Int} {sa : Option Addr} {sc : Nat} {ks : List (List It)} {kv ev : Nat → Value} {el : Nat → List It} {Q : Value → List It → Prop} (h : DbP w X bx bs ba bi (.slice sa ks.length sc) ks.length kv ev (fun i => ks.getD i []) el Q) : ∃ (ka : Nat → Option Addr) (kc : Nat → Nat), KersAt X sa ks ka kc := by
  have hc : ∀ i, ∃ (a : Option Addr) (c : Nat), i < ks.length → kv i = .slice a (ks.getD i []).length c := fun i => by
    by_cases hi : i < ks.length
    · obtain ⟨a, c, e⟩ := owns_cut (h.ker i hi)
      exact ⟨a, c, fun _ => e⟩
    · exact ⟨none, 0, fun h => absurd h hi⟩
  refine ⟨fun i => Classical.choose (hc i), fun i => Classical.choose (Classical.choose_spec (hc i)), ?_⟩
  by_cases h0 : ks = []
  · exact .inl h0
  · have hp : 0 < ks.length := List.length_pos_iff.2 h0
    obtain ⟨g, c, e, h1⟩ := owns_at h.row hp
    right
    refine ⟨g, 0, (by simp only [Value.slice.injEq] at e; exact e.1), fun i hi => ?_⟩
    have e2 := Classical.choose_spec (Classical.choose_spec (hc i)) hi
    have h3 := h.ker i hi
    rw [e2] at h3
    refine ⟨?_, ItsAt.of h3⟩
    rw [Nat.zero_add, ← e2]
    exact h1 _ _ (stV_at kv ev _ i hi).1

end Go.Proofs.Ytapahpljmcaahaa.J

/-
  lr0: the edges of an automaton, pure.
-/
namespace Go.Proofs.Ytapahpljmcaahaa.J
open Go.RowKit Go.Maps Go.Shelf

/-- Has it items? -/
def someB (k : List It) : Bool := decide (k ≠ [])
theorem someB_true {k : List It} : someB k = true ↔ k ≠ [] := by unfold someB; exact decide_eq_true_iff
/-- The symbols below s whose kernels have items. -/
def symsT (G : Nat → List It) (s : Nat) : List Nat := (List.range s).filter fun t => someB (G t)
theorem symsT_succ (G : Nat → List It) (s : Nat) : symsT G (s + 1) = symsT G s ++ (if G s = [] then [] else [s]) := by
  unfold symsT
  rw [List.range_succ, List.filter_append]
  congr 1
  by_cases h : G s = []
  · rw [if_pos h]; simp [someB, h]
  · rw [if_neg h]; simp [someB, h]
theorem symsT_len (G : Nat → List It) : ∀ s, (symsT G s).length ≤ s
  | 0 => by simp [symsT]
  | s + 1 => by
    rw [symsT_succ, List.length_append]
    have := symsT_len G s
    split <;> simp <;> omega
theorem symsT_prefix (G : Nat → List It) {s S : Nat} (h : s ≤ S) : symsT G s <+: symsT G S := by
  obtain ⟨d, rfl⟩ : ∃ d, S = s + d := ⟨S - s, by omega⟩
  clear h
  induction d with
  | zero => exact List.prefix_refl _
  | succ d ih => exact ih.trans (by rw [show s + (d + 1) = (s + d) + 1 by omega, symsT_succ]; exact List.prefix_append _ _)
theorem symsT_at (G : Nat → List It) {s S : Nat} (h : s < S) (hs : G s ≠ []) : (symsT G s).length < (symsT G S).length ∧ (symsT G S).getD (symsT G s).length 0 = s := by
  have h1 : symsT G (s + 1) = symsT G s ++ [s] := by rw [symsT_succ, if_neg hs]
  have h2 := symsT_prefix G (s := s + 1) (S := S) h
  rw [h1] at h2
  have h3 := h2.length_le
  rw [List.length_append, List.length_singleton] at h3
  refine ⟨by omega, ?_⟩
  rw [getD_prefix h2 (by rw [List.length_append, List.length_singleton]; omega), getD_snoc_new]
theorem mem_symsT {G : Nat → List It} {S s : Nat} : s ∈ symsT G S ↔ s < S ∧ G s ≠ [] := by
  unfold symsT
  rw [List.mem_filter, List.mem_range, someB_true]
theorem symsT_nodup (G : Nat → List It) (S : Nat) : (symsT G S).Nodup := List.Nodup.sublist List.filter_sublist List.nodup_range

theorem leaveF_fst {G : Nat → List It} {ks : List (List It)} : ∀ (s : Nat) {ks' : List (List It)} {ed : List (Nat × Nat)}, leaveF G ks s = some (ks', ed) → ed.map Prod.fst = symsT G s
  | 0, ks', ed, e => by
    unfold leaveF at e
    cases e
    rfl
  | s + 1, ks', ed, e => by
    unfold leaveF at e
    cases h1 : leaveF G ks s with
    | none => rw [h1] at e; cases e
    | some q =>
      obtain ⟨k1, e1⟩ := q
      have ih := leaveF_fst s h1
      rw [h1] at e
      simp only at e
      by_cases hg : G s = []
      · rw [if_pos hg] at e
        cases e
        rw [ih, symsT_succ, if_pos hg, List.append_nil]
      · rw [if_neg hg] at e
        cases h2 : askF k1 (G s) with
        | none => rw [h2] at e; cases e
        | some q2 =>
          obtain ⟨t, k2⟩ := q2
          rw [h2] at e
          cases e
          rw [List.map_append, ih, symsT_succ, if_neg hg]; rfl

/-- The edges by their symbols. -/
theorem autoF_fst {P : Nat → List It → Prop} {G : List It → Nat → List It} {S : Nat} (h0 : P 0 [(0, 0)]) (hG : ∀ i m k s, P i k → i < m → P m (G k s)) : ∀ (i : Nat) {ks : List (List It)} {es : List (List (Nat × Nat))}, autoF G S i = some (ks, es) → ∀ q, q < es.length → (es.getD q []).map Prod.fst = symsT (G (ks.getD q [])) S
  | 0, ks, es, e => by
    unfold autoF at e
    cases e
    intro q hq
    exact absurd hq (Nat.not_lt_zero _)
  | i + 1, ks', es', e => by
    cases h1 : autoF G S i with
    | none =>
      have := autoF_none h1 1
      rw [this] at e; cases e
    | some p =>
      obtain ⟨ks, es⟩ := p
      have ih := autoF_fst h0 hG i h1
      have ha := autoOK h0 hG i h1
      by_cases hi : i < ks.length
      · have e' := e
        rw [autoF_step h1 hi] at e
        cases h2 : leaveF (G (ks.getD i [])) ks S with
        | none => rw [h2] at e; cases e
        | some q2 =>
          obtain ⟨k2, ed⟩ := q2
          rw [h2] at e
          cases e
          obtain ⟨_, j2, _, _⟩ := ha.kok.leave (fun m s hm => hG i m _ s (ha.kok.each i hi) (by omega)) S h2
          have hes : es.length = i := by rw [ha.len]; omega
          intro q hq
          rw [List.length_append, List.length_singleton] at hq
          by_cases e2 : q < es.length
          · rw [getD_snoc_old e2, getD_prefix j2 (by omega)]
            exact ih q e2
          · have : q = es.length := by omega
            subst this
            rw [getD_snoc_new, hes, getD_prefix j2 hi]
            exact leaveF_fst S h2
      · have := autoF_stay h1 (Nat.le_of_not_lt hi) 1
        rw [this] at e
        cases e
        exact ih

/-- An automaton, all of it. -/
structure AutF (G : List It → Nat → List It) (n : Nat) (R : Nat → List Int) (S : Nat) (ks : List (List It)) (es : List (List (Nat × Nat))) : Prop where
  kok : KsOK (PJ n R) ks
  pos : 0 < ks.length
  head : ks.getD 0 [] = [(0, 0)]
  len : es.length = ks.length
  fst : ∀ q, q < ks.length → (es.getD q []).map Prod.fst = symsT (G (ks.getD q [])) S
  snd : ∀ q, q < ks.length → ∀ x ∈ es.getD q [], x.1 < S ∧ x.2 < ks.length ∧ ks.getD x.2 [] = G (ks.getD q []) x.1
theorem autF {tn nn n : Nat} {L : Nat → Int} {R : Nat → List Int} (hn0 : 0 < n) {ks : List (List It)} {es : List (List (Nat × Nat))} (h : autoF (GG tn n L R) (tn + nn) 256 = some (ks, es)) : AutF (GG tn n L R) n R (tn + nn) ks es := by
  have ha := auOK hn0 h
  have hl : es.length = ks.length := by rw [ha.len]; have := ha.kok.le; omega
  have hp : PJ n R 0 [(0, 0)] := ⟨fun x hx => by
    rw [List.mem_singleton.1 hx]
    unfold itB
    simp only [Bool.and_eq_true, decide_eq_true_eq]
    exact ⟨⟨⟨by omega, by omega⟩, by omega⟩, by omega⟩, by simp⟩
  exact ⟨ha.kok, ha.pos, ha.head, hl, fun q hq => autoF_fst hp (fun i m k s hp hm => hp.GG s hm) 256 h q (by omega), fun q hq x hx => (ha.edges q (by omega)).2 x hx⟩
section
variable {G : List It → Nat → List It} {n : Nat} {R : Nat → List Int} {S : Nat} {ks : List (List It)} {es : List (List (Nat × Nat))}
theorem AutF.elen (h : AutF G n R S ks es) {q : Nat} (hq : q < ks.length) : (es.getD q []).length = (symsT (G (ks.getD q [])) S).length := by rw [← h.fst q hq, List.length_map]
theorem AutF.esym (h : AutF G n R S ks es) {q i : Nat} (hq : q < ks.length) (hi : i < (es.getD q []).length) : ((es.getD q []).getD i (0, 0)).1 = (symsT (G (ks.getD q [])) S).getD i 0 := by
  rw [← h.fst q hq]
  generalize es.getD q [] = l at hi ⊢
  rw [List.getD_eq_getElem?_getD, List.getD_eq_getElem?_getD, List.getElem?_map, List.getElem?_eq_getElem hi]; rfl
/-- The edge by a symbol that has a kernel. -/
theorem AutF.edge (h : AutF G n R S ks es) {q s : Nat} (hq : q < ks.length) (hs : s < S) (hk : G (ks.getD q []) s ≠ []) : (symsT (G (ks.getD q [])) s).length < (es.getD q []).length ∧ ∃ t, (es.getD q []).getD (symsT (G (ks.getD q [])) s).length (0, 0) = (s, t) ∧ t < ks.length ∧ ks.getD t [] = G (ks.getD q []) s := by
  obtain ⟨h1, h2⟩ := symsT_at (G (ks.getD q [])) hs hk
  rw [← h.elen hq] at h1
  refine ⟨h1, ?_⟩
  have h3 := h.esym hq h1
  rw [h2] at h3
  have hm : (es.getD q []).getD (symsT (G (ks.getD q [])) s).length (0, 0) ∈ es.getD q [] := by
    generalize es.getD q [] = l at h1 ⊢
    rw [List.getD_eq_getElem?_getD, List.getElem?_eq_getElem h1]; exact List.getElem_mem h1
  obtain ⟨_, h5, h6⟩ := h.snd q hq _ hm
  rw [h3] at h6
  exact ⟨_, Prod.ext h3 rfl, h5, h6⟩
end

end Go.Proofs.Ytapahpljmcaahaa.J

/-
  lr0: what the law Lr0Interns asks of an automaton, pure.
-/
namespace Go.Proofs.Ytapahpljmcaahaa.J
open Go.RowKit Go.Maps Go.Shelf

/-- The symbol right ahead of the dot of a kernel's first item. -/
def syT (R : Nat → List Int) (k : List It) : Int := ((k.head?).map fun x => (R x.1.toNat).getD (x.2 - 1).toNat 0).getD 0
/-- What the items behind a symbol are. -/
theorem ker_sym {n : Nat} {R : Nat → List Int} {l : List It} (h : ∀ x ∈ l, itB n R x = true) {s : Nat} : ∀ x ∈ kerT R l (s : Int), itB n R x = true ∧ 1 ≤ x.2 ∧ (R x.1.toNat).getD (x.2 - 1).toNat 0 = (s : Int) := by
  intro x hx
  refine ⟨kerT_item h x hx, ?_⟩
  unfold kerT at hx
  obtain ⟨y, hy, rfl⟩ := List.mem_map.1 hx
  obtain ⟨hy1, hy2⟩ := List.mem_filter.1 hy
  have h1 := h y hy1
  have h2 : aheadV R y = (s : Int) := by simpa using hy2
  unfold itB at h1
  simp only [Bool.and_eq_true, decide_eq_true_eq] at h1
  obtain ⟨⟨⟨a1, a2⟩, a3⟩, a4⟩ := h1
  refine ⟨by show 1 ≤ y.2 + 1; omega, ?_⟩
  show (R y.1.toNat).getD (y.2 + 1 - 1).toNat 0 = _
  rw [show y.2 + 1 - 1 = y.2 by omega]
  unfold aheadV at h2
  by_cases e : y.2 = ((R y.1.toNat).length : Int)
  · rw [if_pos e] at h2; omega
  · rw [if_neg e] at h2; exact h2
theorem CLo_item {tn n : Nat} {L : Nat → Int} {R : Nat → List Int} {k : List It} (hk : ∀ x ∈ k, itB n R x = true) : ∀ x ∈ CLo tn n L R k, itB n R x = true := by
  unfold CLo
  by_cases hh : ∃ l, IsClo tn n L R k l ∧ l.length ≤ k.length + 13000
  · rw [dif_pos hh]
    have h1 := Classical.choose_spec hh
    exact fun x hx => ((h1.1.mem x).1 hx).item hk
  · rw [dif_neg hh]
    exact fun x hx => absurd hx (by simp)

section
variable {tn nn n : Nat} {L : Nat → Int} {R : Nat → List Int} {ks : List (List It)} {es : List (List (Nat × Nat))}
/-- The kernel that an edge leads to. -/
theorem edge_ker (hA : AutF (GG tn n L R) n R (tn + nn) ks es) (hR : ∀ k, k < n → ∀ x ∈ R k, (0 : Int) < x) {q : Nat} (hq : q < ks.length) {s t : Nat} (hx : (s, t) ∈ es.getD q []) : 0 < s ∧ s < tn + nn ∧ 0 < t ∧ t < ks.length ∧ ks.getD t [] ≠ [] ∧ ∀ x ∈ ks.getD t [], itB n R x = true ∧ 1 ≤ x.2 ∧ (R x.1.toNat).getD (x.2 - 1).toNat 0 = (s : Int) := by
  obtain ⟨h1, h2, h3⟩ := hA.snd q hq _ hx
  simp only at h1 h2 h3
  have hit := (hA.kok.each q hq).1
  have hne : GG tn n L R (ks.getD q []) s ≠ [] := by
    have h4 : s ∈ (es.getD q []).map Prod.fst := List.mem_map.2 ⟨(s, t), hx, rfl⟩
    rw [hA.fst q hq] at h4
    exact (mem_symsT.1 h4).2
  have hall : ∀ x ∈ ks.getD t [], itB n R x = true ∧ 1 ≤ x.2 ∧ (R x.1.toNat).getD (x.2 - 1).toNat 0 = (s : Int) := by
    rw [h3]
    exact ker_sym (CLo_item hit)
  refine ⟨?_, h1, ?_, h2, by rw [h3]; exact hne, hall⟩
  · rcases Nat.eq_zero_or_pos s with e | e
    · subst e
      exact absurd (GG_zero' hit hR) hne
    · exact e
  · rcases Nat.eq_zero_or_pos t with e | e
    · subst e
      rw [hA.head] at hall
      have := (hall (0, 0) (by simp)).2.1
      simp at this
    · exact e
theorem edge_sy (hA : AutF (GG tn n L R) n R (tn + nn) ks es) (hR : ∀ k, k < n → ∀ x ∈ R k, (0 : Int) < x) {q : Nat} (hq : q < ks.length) {s t : Nat} (hx : (s, t) ∈ es.getD q []) : syT R (ks.getD t []) = (s : Int) := by
  obtain ⟨_, _, _, _, hne, hall⟩ := edge_ker hA hR hq hx
  unfold syT
  cases hk : ks.getD t [] with
  | nil => exact absurd hk hne
  | cons x k =>
    rw [hk] at hall
    exact (hall x (List.mem_cons_self ..)).2.2
end

/-- A kernel that leaving a state brought has an edge from it. -/
theorem leave_newJ {G : Nat → List It} {ks : List (List It)} : ∀ (s : Nat) {ks' : List (List It)} {ed : List (Nat × Nat)}, leaveF G ks s = some (ks', ed) → ∀ t, ks.length ≤ t → t < ks'.length → ∃ x ∈ ed, x.2 = t
  | 0, ks', ed, e, t, h1, h2 => by
    unfold leaveF at e
    cases e
    omega
  | s + 1, ks', ed, e, t, h1, h2 => by
    unfold leaveF at e
    cases h3 : leaveF G ks s with
    | none => rw [h3] at e; cases e
    | some q =>
      obtain ⟨k1, e1⟩ := q
      rw [h3] at e
      simp only at e
      by_cases hg : G s = []
      · rw [if_pos hg] at e
        cases e
        exact leave_newJ s h3 t h1 h2
      · rw [if_neg hg] at e
        cases h4 : askF k1 (G s) with
        | none => rw [h4] at e; cases e
        | some q2 =>
          obtain ⟨u, k2⟩ := q2
          rw [h4] at e
          cases e
          by_cases h5 : t < k1.length
          · obtain ⟨x, hx, h6⟩ := leave_newJ s h3 t h1 h5
            exact ⟨x, List.mem_append_left _ hx, h6⟩
          · refine ⟨(s, u), List.mem_append_right _ (List.mem_singleton.2 rfl), ?_⟩
            unfold askF at h4
            by_cases hk : G s ∈ k1
            · rw [if_pos hk] at h4
              cases h4
              omega
            · rw [if_neg hk] at h4
              by_cases hl : k1.length < 256
              · rw [if_pos hl] at h4
                cases h4
                rw [List.length_append, List.length_singleton] at h2
                show k1.length = t
                omega
              · rw [if_neg hl] at h4; cases h4
/-- Each state but the first has an edge from one below it. -/
theorem auto_newJ {G : List It → Nat → List It} {S : Nat} : ∀ (i : Nat) {ks : List (List It)} {es : List (List (Nat × Nat))}, autoF G S i = some (ks, es) → ∀ t, 0 < t → t < ks.length → ∃ p, p < t ∧ ∃ x ∈ es.getD p [], x.2 = t
  | 0, ks, es, e, t, h1, h2 => by
    unfold autoF at e
    cases e
    simp only [List.length_singleton] at h2
    omega
  | i + 1, ks', es', e, t, h1, h2 => by
    cases h3 : autoF G S i with
    | none => have := autoF_none h3 1; rw [this] at e; cases e
    | some q =>
      obtain ⟨ks, es⟩ := q
      have ih := auto_newJ i h3
      have ha := autoOK (P := fun _ _ => True) trivial (fun _ _ _ _ _ _ => trivial) i h3
      by_cases hi : i < ks.length
      · rw [autoF_step h3 hi] at e
        have hes : es.length = i := by rw [ha.len]; omega
        cases h4 : leaveF (G (ks.getD i [])) ks S with
        | none => rw [h4] at e; cases e
        | some q2 =>
          obtain ⟨k2, ed⟩ := q2
          rw [h4] at e
          cases e
          by_cases h5 : t < ks.length
          · obtain ⟨p, h6, x, hx, h7⟩ := ih t h1 h5
            have hp : p < es.length := by
              refine Nat.lt_of_not_le fun h8 => ?_
              rw [List.getD_eq_getElem?_getD, List.getElem?_eq_none h8] at hx
              simp at hx
            exact ⟨p, h6, x, by rw [getD_snoc_old hp]; exact hx, h7⟩
          · obtain ⟨x, hx, h6⟩ := leave_newJ S h4 t (by omega) h2
            exact ⟨i, by omega, x, by rw [← hes, getD_snoc_new]; exact hx, h6⟩
      · have := autoF_stay h3 (Nat.le_of_not_lt hi) 1
        rw [this] at e
        cases e
        exact ih t h1 h2

/-- How many below m are marked. -/
def cntJ (f : Nat → Bool) : Nat → Nat
  | 0 => 0
  | m + 1 => cntJ f m + (if f m = true then 1 else 0)
def markJ (f : Nat → Bool) (t : Nat) : Nat → Bool := fun x => if x = t then true else f x
theorem cntJ_le (f : Nat → Bool) : ∀ m, cntJ f m ≤ m
  | 0 => Nat.le_refl _
  | m + 1 => by
    unfold cntJ
    have := cntJ_le f m
    by_cases h : f m = true
    · rw [if_pos h]; omega
    · rw [if_neg h]; omega
theorem cntJ_far (f : Nat → Bool) (t : Nat) : ∀ m, m ≤ t → cntJ (markJ f t) m = cntJ f m
  | 0, _ => rfl
  | m + 1, h => by
    unfold cntJ
    rw [cntJ_far f t m (by omega), show markJ f t m = f m from if_neg (by omega)]
theorem cntJ_mark {f : Nat → Bool} {t : Nat} (ht : f t = false) : ∀ m, t < m → cntJ (markJ f t) m = cntJ f m + 1
  | 0, h => absurd h (Nat.not_lt_zero _)
  | m + 1, h => by
    unfold cntJ
    by_cases e : t = m
    · subst e
      rw [cntJ_far f t t (Nat.le_refl _), show markJ f t t = true from if_pos rfl, ht]
      rfl
    · rw [cntJ_mark ht m (by omega), show markJ f t m = f m from if_neg (fun h => e h.symm)]
      omega

/-- The search under way: of state q the edges below i are done (q = N: of none are some left). -/
structure SrJ (es : List (List (Nat × Nat))) (N : Nat) (inn : Nat → Bool) (todo : List Nat) (q i : Nat) : Prop where
  zero : inn 0 = true
  todoIn : ∀ t ∈ todo, t < N ∧ inn t = true
  done : ∀ t, t < N → inn t = true → t ∉ todo → ∀ j, j < (es.getD t []).length → (t = q → j < i) → inn ((es.getD t []).getD j (0, 0)).2 = true
section
variable {es : List (List (Nat × Nat))} {N : Nat} {inn : Nat → Bool} {todo : List Nat} {q i : Nat}
theorem SrJ.start (hN : 0 < N) : SrJ es N (markJ (fun _ => false) 0) [0] N 0 where
  zero := rfl
  todoIn := fun t ht => by rw [List.mem_singleton.1 ht]; exact ⟨hN, rfl⟩
  done := fun t _ hi hn => by
    have h0 : t = 0 := by
      by_cases e : t = 0
      · exact e
      · exact absurd hi (by rw [show markJ (fun _ => false) 0 t = false from if_neg e]; decide)
    exact absurd (List.mem_singleton.2 h0) hn
theorem SrJ.pop (h : SrJ es N inn (q :: todo) N 0) : SrJ es N inn todo q 0 where
  zero := h.zero
  todoIn := fun t ht => h.todoIn t (List.mem_cons_of_mem _ ht)
  done := fun t ht hi hn j hj hq => by
    by_cases e : t = q
    · exact absurd (hq e) (Nat.not_lt_zero _)
    · exact h.done t ht hi (fun hm => (List.mem_cons.1 hm).elim e hn) j hj (fun h1 => absurd ht (by omega))
theorem SrJ.skip (h : SrJ es N inn todo q i) (hx : inn ((es.getD q []).getD i (0, 0)).2 = true) : SrJ es N inn todo q (i + 1) where
  zero := h.zero
  todoIn := h.todoIn
  done := fun t ht hi hn j hj hq => by
    by_cases e : t = q ∧ j = i
    · obtain ⟨rfl, rfl⟩ := e; exact hx
    · exact h.done t ht hi hn j hj (fun h1 => by have := hq h1; have : j ≠ i := fun h2 => e ⟨h1, h2⟩; omega)
theorem SrJ.add (h : SrJ es N inn todo q i) {s t : Nat} (hx : (es.getD q []).getD i (0, 0) = (s, t)) (ht : t < N) : SrJ es N (markJ inn t) (todo ++ [t]) q (i + 1) := by
  have hold : ∀ u, inn u = true → markJ inn t u = true := fun u hu => by
    unfold markJ
    by_cases e : u = t
    · rw [if_pos e]
    · rw [if_neg e]; exact hu
  refine ⟨hold 0 h.zero, fun u hu => ?_, fun u hu hi hn j hj hjq => ?_⟩
  · rcases List.mem_append.1 hu with hu | hu
    · exact ⟨(h.todoIn u hu).1, hold u (h.todoIn u hu).2⟩
    · rw [List.mem_singleton.1 hu]; exact ⟨ht, if_pos rfl⟩
  · have e : u ≠ t := fun e => hn (List.mem_append_right _ (List.mem_singleton.2 e))
    rw [show markJ inn t u = inn u from if_neg e] at hi
    by_cases e2 : u = q ∧ j = i
    · obtain ⟨rfl, rfl⟩ := e2
      rw [hx]; exact if_pos rfl
    · exact hold _ (h.done u hu hi (fun hm => hn (List.mem_append_left _ hm)) j hj (fun h1 => by have := hjq h1; have : j ≠ i := fun h2 => e2 ⟨h1, h2⟩; omega))
theorem SrJ.left (h : SrJ es N inn todo q i) (hi : (es.getD q []).length ≤ i) : SrJ es N inn todo N 0 where
  zero := h.zero
  todoIn := h.todoIn
  done := fun t ht hin hn j hj _ => h.done t ht hin hn j hj (fun e => by subst e; omega)
theorem SrJ.all (h : SrJ es N inn [] N 0) (hnew : ∀ t, 0 < t → t < N → ∃ p, p < t ∧ ∃ x ∈ es.getD p [], x.2 = t) : ∀ (m t : Nat), t < m → t < N → inn t = true
  | 0, _, hm, _ => absurd hm (Nat.not_lt_zero _)
  | m + 1, t, hm, ht => by
    by_cases e : t = 0
    · subst e; exact h.zero
    · obtain ⟨p, h1, x, hx, h2⟩ := hnew t (by omega) ht
      have hp := SrJ.all h hnew m p (by omega) (by omega)
      obtain ⟨j, hj, h3⟩ := List.getElem_of_mem hx
      have h4 := h.done p (by omega) hp (by simp) j hj (fun h5 => by omega)
      rw [List.getD_eq_getElem?_getD, List.getElem?_eq_getElem hj, h3] at h4
      simp only [Option.getD_some] at h4
      rw [h2] at h4
      exact h4
end
/-- By which symbols the states were reached. -/
def byF (sy : Nat → Int) (inn : Nat → Bool) (t : Nat) : Int := if t = 0 then 0 else if inn t = true then sy t else 0
theorem byF_mark {sy : Nat → Int} {inn : Nat → Bool} {t : Nat} (ht : 0 < t) : (fun u => if u = t then sy t else byF sy inn u) = byF sy (markJ inn t) := funext fun u => by
  unfold byF markJ
  by_cases e : u = t
  · subst e
    rw [if_pos rfl, if_neg (by omega), if_pos rfl, if_pos rfl]
  · rw [if_neg e, if_neg e]
theorem byF_same {sy : Nat → Int} {inn : Nat → Bool} {t : Nat} (ht : 0 < t) (hi : inn t = true) : (fun u => if u = t then sy t else byF sy inn u) = byF sy inn := funext fun u => by
  by_cases e : u = t
  · subst e
    unfold byF
    rw [if_pos rfl, if_neg (by omega), if_pos hi]
  · rw [if_neg e]
/-- The sum of the edges. -/
def sumE (es : List (List (Nat × Nat))) : Nat → Nat
  | 0 => 0
  | i + 1 => sumE es i + (es.getD i []).length
theorem sumE_take (es : List (List (Nat × Nat))) : ∀ i, i ≤ es.length → sumE es i = ((es.take i).map List.length).sum
  | 0, _ => rfl
  | i + 1, h => by
    unfold sumE
    rw [sumE_take es i (by omega), List.take_add_one, List.getElem?_eq_getElem (show i < es.length by omega), List.map_append, List.sum_append]
    have e : es.getD i [] = es[i] := by rw [List.getD_eq_getElem?_getD, List.getElem?_eq_getElem (show i < es.length by omega)]; rfl
    rw [e]
    simp
theorem askN_sum (es : List (List (Nat × Nat))) : askN es = 1 + sumE es es.length := by
  unfold askN
  rw [sumE_take es es.length (Nat.le_refl _), List.take_length]

end Go.Proofs.Ytapahpljmcaahaa.J

/-
  trans: a queue of numbers: what is left of a row, from some place on; and append onto it.
-/
namespace Go.Proofs.Ytapahpljmcaahaa.J
open Go.RowKit Go.Maps Go.Shelf

/-- A queue of numbers, from block B on. -/
def QueAt (X : World) (B : Nat) (a : Option Addr) (cap : Nat) (xs : List Int) : Prop :=
  xs.length ≤ cap ∧ (cap ≠ 0 → ∃ g off cur, a = some ⟨g, off, none⟩ ∧ B ≤ g ∧ X.heap[g]? = some (.cells cur 3 (0, 0)) ∧ off + cap ≤ cur.size ∧ ∀ i, i < xs.length → cur[off + i]? = some (.int .i64 (xs.getD i 0)))
section
variable {X Y : World} {B cap : Nat} {a : Option Addr} {xs : List Int}
theorem QueAt.kept (h : QueAt X B a cap xs) (hg : X.grownBy Y none) : QueAt Y B a cap xs := by
  refine ⟨h.1, fun hc => ?_⟩
  obtain ⟨g, off, cur, h1, h2, h3, h4⟩ := h.2 hc
  exact ⟨g, off, cur, h1, h2, (hg.block g (Array.getElem?_eq_some_iff.1 h3).1 (by simp)).trans h3, h4⟩
theorem QueAt.other {b : Nat} {cs : Array Value} {t : TypeId} (h : QueAt X B a cap xs) (hg : X.grownBy Y (some b)) (hb : X.heap[b]? = some (.cells cs t (0, 0))) (ht : t ≠ 3) : QueAt Y B a cap xs := by
  refine ⟨h.1, fun hc => ?_⟩
  obtain ⟨g, off, cur, h1, h2, h3, h4⟩ := h.2 hc
  refine ⟨g, off, cur, h1, h2, (hg.block g (Array.getElem?_eq_some_iff.1 h3).1 ?_).trans h3, h4⟩
  intro e
  have : g = b := by simpa using e
  subst this
  rw [h3] at hb
  cases hb
  exact ht rfl
theorem QueAt.head {x : Int} {ys : List Int} (h : QueAt X B a cap (x :: ys)) : ∃ g off, a = some ⟨g, off, none⟩ ∧ X.cell? ⟨g, off, none⟩ = some (.int .i64 x) := by
  have hc : cap ≠ 0 := by have := h.1; simp at this; omega
  obtain ⟨g, off, cur, h1, h2, h3, h4, h5⟩ := h.2 hc
  refine ⟨g, off, h1, ?_⟩
  rw [cell_of_row _ _ _ _ _ _ h3]
  simpa using h5 0 (by simp)
theorem QueAt.tail {x : Int} {ys : List Int} {g off : Nat} (h : QueAt X B (some ⟨g, off, none⟩) cap (x :: ys)) (a' : Option Addr) (ha : 1 < cap → a' = some ⟨g, off + 1, none⟩) : QueAt X B a' (cap - 1) ys := by
  have hl := h.1
  simp at hl
  refine ⟨by omega, fun hc => ?_⟩
  obtain ⟨g', off', cur, h1, h2, h3, h4, h5⟩ := h.2 (by omega)
  cases h1
  refine ⟨g, off + 1, cur, ha (by omega), h2, h3, by omega, fun i hi => ?_⟩
  have := h5 (i + 1) (by simp; omega)
  rw [show off + 1 + i = off + (i + 1) by omega]
  simpa using this
end

/-- Where a queue lies behind an append, and what was turned. -/
def QueTo (w : World) (a : Option Addr) (cap : Nat) (a' : Option Addr) (w' : World) : Prop := (w.grownBy w' none ∧ a' = some ⟨w.heap.size, 0, none⟩) ∨ ∃ g off, cap ≠ 0 ∧ a = some ⟨g, off, none⟩ ∧ a' = some ⟨g, off, none⟩ ∧ w.grownBy w' (some g)

section
variable {P : Program} (w : World)
theorem run_append_que (B : Nat) (t ty : TypeId) (i : TypeInfo) (ht : P.underlying t = some (.slice 3)) (hi : P.info? 3 = some i) (hz : i.zero = some (.int .i64 0)) (hs1 : i.size = 1) (hby : i.bytes = 8)
    (a : Option Addr) (cap : Nat) (xs : List Int) (hq : QueAt w B a cap xs) (hB : B ≤ w.heap.size) (nb : Nat) (x : Int) (c : Nat) (hn : w.cell? ⟨nb, 0, none⟩ = some (.int .i64 x)) (hlen : xs.length < 1000000) :
    ∃ a' cap' w', (Builtin.append_ #[t, t] ty #[.slice a xs.length cap, .slice (some ⟨nb, 0, none⟩) 1 c]).run P w = .ok (.slice a' (xs.length + 1) cap') w' ∧ QueAt w' B a' cap' (xs ++ [x]) ∧ QueTo w a cap a' w' := by
  have hnews : ∀ (u : World), u.heap = w.heap → ∀ j z, [Value.int .i64 x][j]? = some z → u.cell? ((⟨nb, 0, none⟩ : Addr).add j) = some z := fun u hu j z hj => by
    have h0 : j = 0 := by
      have := (List.getElem?_eq_some_iff.1 hj).1; simpa using this
    subst h0
    have : z = .int .i64 x := by simpa using hj.symm
    subst this
    have e : (⟨nb, 0, none⟩ : Addr).add 0 = ⟨nb, 0, none⟩ := by simp [Addr.add]
    rw [e]
    unfold World.cell? at hn ⊢
    rw [hu]; exact hn
  have hgrowO : ∀ (olds : List Value), olds.length = xs.length → (∀ j, j < xs.length → olds[j]? = some (.int .i64 (xs.getD j 0))) →
      (Builtin.append_ #[t, t] ty #[.slice a xs.length cap, .slice (some ⟨nb, 0, none⟩) 1 c]).run P w =
      .ok (.slice (some ⟨w.heap.size, 0, none⟩) (xs.length + 1) (grownCap w (xs.length + 1) cap 3))
        (w.drew.alloc (.cells ((olds ++ [Value.int .i64 x]).toArray ++ Builtin.zeroCells (Value.int .i64 0).cells (grownCap w (xs.length + 1) cap 3 - (xs.length + 1))) 3)) →
      ∃ a' cap' w', (Builtin.append_ #[t, t] ty #[.slice a xs.length cap, .slice (some ⟨nb, 0, none⟩) 1 c]).run P w = .ok (.slice a' (xs.length + 1) cap') w' ∧ QueAt w' B a' cap' (xs ++ [x]) ∧ QueTo w a cap a' w' := fun olds hol hov hr => by
    have hge := grownCap_ge w (xs.length + 1) cap 3
    refine ⟨_, _, _, hr, ⟨by simp; exact hge, fun _ => ⟨w.heap.size, 0, _, rfl, hB, heap_alloc_new w.drew _, ?_, fun j hj => ?_⟩⟩, Or.inl ⟨⟨rfl, rfl, rfl, by simp, fun k hk _ => Go.heap_alloc_old w.drew _ hk⟩, rfl⟩⟩
    · simp only [Array.size_append, List.size_toArray, List.length_append, size_zeroCells, hol]
      simp [Value.cells]; omega
    · simp only [List.length_append, List.length_cons, List.length_nil] at hj
      rw [Array.getElem?_append, if_pos (by simp [hol]; omega)]
      simp only [Nat.zero_add, List.getElem?_toArray]
      by_cases e : j < xs.length
      · rw [List.getElem?_append_left (by omega), hov j e]
        simp [List.getD, List.getElem?_append, e]
      · have : j = xs.length := by omega
        subst this
        rw [List.getElem?_append_right (by omega), hol]
        simp [List.getD]
  by_cases hc : cap = 0
  · have hx : xs = [] := by
      apply List.eq_nil_of_length_eq_zero
      have := hq.1; omega
    subst hx
    subst hc
    refine hgrowO [] rfl (fun j hj => absurd hj (Nat.not_lt_zero _)) ?_
    cases a with
    | none =>
      have hr := run_append_nil (P := P) w t ty 3 i (.int .i64 0) ht hi hz ⟨nb, 0, none⟩ 1 c [.int .i64 x] (by rw [hs1]; rfl) (hnews w rfl) (by omega) (by omega) (by rw [hby]; decide)
      simpa using hr
    | some ad =>
      have hr := run_append_grow (P := P) w t ty 3 i (.int .i64 0) ht hi hz ad 0 0 [] (by simp) (fun j v h => by simp at h) ⟨nb, 0, none⟩ 1 c [.int .i64 x] (by rw [hs1]; rfl) (hnews w rfl) (by omega) (by omega) (by rw [hby]; decide)
      simpa using hr
  · obtain ⟨g, off, cur, rfl, h2, h3, h4, h5⟩ := hq.2 hc
    by_cases hroom : xs.length + 1 ≤ cap
    · have hr := run_append_room_src (P := P) (w := w) t t ty 3 i ht hi g off xs.length cap (.slice (some ⟨nb, 0, none⟩) 1 c) 1 [.int .i64 x] (Src.ofSlice w ht ⟨nb, 0, none⟩ 1 c [.int .i64 x] (by rw [hs1]; rfl) (hnews w rfl) (by simp [Value.oneCell'])) hroom
        (fun j hj => by
          rw [cell_of_row _ _ _ _ _ _ h3, hs1]
          have : off + xs.length * 1 + j < cur.size := by simp at hj; omega
          rw [Array.getElem?_eq_getElem this]; rfl) (fun j _ => frozen_of_row _ _ _ _ _ h3)
      rw [hs1, Nat.mul_one] at hr
      refine ⟨_, _, _, hr, ⟨by simp; omega, fun _ => ⟨g, off, cur.setIfInBounds (off + xs.length) (.int .i64 x), rfl, h2, heap_setCell_same w g _ _ _ _ h3, by simp; omega, fun j hj => ?_⟩⟩, Or.inr ⟨g, off, hc, rfl, rfl, grown_setCell g _ _⟩⟩
      simp only [List.length_append, List.length_cons, List.length_nil] at hj
      rw [Array.getElem?_setIfInBounds]
      by_cases e : j < xs.length
      · rw [if_neg (by omega), h5 j e]
        simp [List.getD, List.getElem?_append, e]
      · have : j = xs.length := by omega
        subst this
        have h7 : off + xs.length < cur.size := by omega
        simp [List.getD, h7]
    · refine hgrowO (xs.map (Value.int .i64)) (by simp) (fun j hj => by simp [List.getD, hj]) ?_
      have hr := run_append_grow (P := P) w t ty 3 i (.int .i64 0) ht hi hz ⟨g, off, none⟩ xs.length cap (xs.map (Value.int .i64)) (by rw [hs1]; simp) (fun j v h => by
          have hj : j < xs.length := by have := (List.getElem?_eq_some_iff.1 h).1; simpa using this
          rw [Addr.add_mid, cell_of_row _ _ _ _ _ _ h3, h5 j hj, ← h]
          simp [List.getD, hj]) ⟨nb, 0, none⟩ 1 c [.int .i64 x] (by rw [hs1]; rfl) (hnews w rfl) (by omega) (by omega) (growslice_fits (by omega) (by rw [hby]; omega))
      simpa using hr

theorem wpList_append_que {ops : Array Oper} {rest : List Oper} {o : Oper} {ac : Act} {Q : Exit → Act → World → Prop} (hgd : o.guard = none) (s y : Operand) (t : TypeId)
    (ho : o.op = .call { callee := .builtin .append, args := #[s, y], argTypes := #[t, t] })
    (B : Nat) (i : TypeInfo) (ht : P.underlying t = some (.slice 3)) (hi : P.info? 3 = some i) (hz : i.zero = some (.int .i64 0)) (hs1 : i.size = 1) (hby : i.bytes = 8)
    (a : Option Addr) (n cap : Nat) (xs : List Int) (hs : ac.eval s = .slice a n cap) (hnl : n = xs.length) (hq : QueAt w B a cap xs) (hB : B ≤ w.heap.size) (nb : Nat) (x : Int) (c : Nat) (hy : ac.eval y = .slice (some ⟨nb, 0, none⟩) 1 c) (hn : w.cell? ⟨nb, 0, none⟩ = some (.int .i64 x)) (hlen : n < 1000000)
    (h : ∀ a' cap' w', QueAt w' B a' cap' (xs ++ [x]) → (QueTo w a cap a' w') → wpList P ops Q rest (ac.put o.dst (.slice a' (n + 1) cap')) w') : wpList P ops Q (o :: rest) ac w := by
  subst hnl
  refine wpList_plain hgd fun K hK => ?_
  obtain ⟨a', cap', w', hr, h2, h3⟩ := run_append_que (P := P) w B t o.type i ht hi hz hs1 hby a cap xs hq hB nb x c hn hlen
  unfold Oper.wp execOp
  simp only [ho, resolve, invoke, builtin, Sem.run_bind, Sem.run_pure, Result.andThen_ok, List.map_toArray, List.map_cons, List.map_nil, hs, hy, hr]
  exact hK _ _ (h a' cap' w' h2 h3)
end

end Go.Proofs.Ytapahpljmcaahaa.J
