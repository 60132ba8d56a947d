import Derived.Test.YtfcholpleeiddaaGreatQoddakoabdlka
import Derived.Test.YtfcholpleeiddaaGreatQndkbflpjpdjh
import Derived.Test.YtfcholpleeiddaaGreatQddghegikemnk
import Derived.Deep.RegionLaw

/-
  lr0: the document's automaton under way, in memory.
-/
namespace Go.Proofs.YtfcholpleeiddaaGreat.J
open Go.RowKit Go.Maps Go.Shelf

theorem GG_zero' {tn n : Nat} {L : Nat → Int} {R : Nat → List Int} {k : List It} (hk : ∀ x ∈ k, itB n R x = true) (hR : ∀ k, k < n → ∀ x ∈ R k, (0 : Int) < x) : GG tn n L R k 0 = [] := by
  unfold GG
  have key : ∀ x ∈ CLo tn n L R k, itB n R x = true := by
    unfold CLo
    by_cases hh : ∃ l, IsClo tn n L R k l ∧ l.length ≤ k.length + 13000
    · rw [dif_pos hh]
      have h1 := Classical.choose_spec hh
      exact fun x hx => ((h1.1.mem x).1 hx).item hk
    · rw [dif_neg hh]
      exact fun x hx => absurd hx (by simp)
  unfold kerT
  rw [List.map_eq_nil_iff, List.filter_eq_nil_iff]
  intro x hx h
  have h1 := key x hx
  have h2 : aheadV R x = 0 := by simpa using h
  unfold itB at h1
  simp only [Bool.and_eq_true, decide_eq_true_eq] at h1
  obtain ⟨⟨⟨a1, a2⟩, a3⟩, a4⟩ := h1
  unfold aheadV at h2
  by_cases e : x.2 = ((R x.1.toNat).length : Int)
  · rw [if_pos e] at h2; omega
  · rw [if_neg e] at h2
    have hl : x.2.toNat < (R x.1.toNat).length := by omega
    have h3 := hR x.1.toNat (by omega) ((R x.1.toNat).getD x.2.toNat 0) (by
      generalize R x.1.toNat = l at hl ⊢
      rw [List.getD_eq_getElem?_getD, List.getElem?_eq_getElem hl]; exact List.getElem_mem hl)
    omega

/-- The document's automaton under way: what its box says (bs, ba, bi) and its states' row. -/
structure DbP (w X : World) (bx : Nat) (bs : Value) (ba bi : Int) (rv : Value) (N : Nat) (kv ev : Nat → Value) (kl el : Nat → List It) (Q : Value → List It → Prop) : Prop where
  grown : w.grownBy X none
  box : X.heap[bx]? = some (.cells #[bs, .int .i64 ba, .int .i64 bi] 49 (0, 0))
  row : X.ownsRow w.heap.size 72 2 rv N (stV kv ev N)
  ker : ∀ i, i < N → X.ownsRow w.heap.size 68 2 (kv i) (kl i).length (itsV (kl i))
  edg : ∀ i, i < N → X.ownsRow w.heap.size 78 2 (ev i) (el i).length (itsV (el i))
  sep : ∀ i j, i < N → j < N → i ≠ j → (ev i).ownBlock = none ∨ (ev i).ownBlock ≠ (ev j).ownBlock
  lo : w.heap.size ≤ bx
  pas : ∀ v l, Q v l → X.ownsRow w.heap.size 68 2 v l.length (itsV l)

section
variable {w X Y : World} {bx : Nat} {bs : Value} {ba bi : Int} {rv : Value} {N : Nat} {kv ev : Nat → Value} {kl el : Nat → List It} {Q : Value → List It → Prop}
theorem DbP.kept (h : DbP w X bx bs ba bi rv N kv ev kl el Q) (hg : X.grownBy Y none) : DbP w Y bx bs ba bi rv N kv ev kl el Q :=
  ⟨grown_trans h.grown hg, box_kept h.box hg, keep0 h.row hg, fun i hi => keep0 (h.ker i hi) hg, fun i hi => keep0 (h.edg i hi) hg, h.sep, h.lo, fun v l hq => keep0 (h.pas v l hq) hg⟩
theorem DbP.mono {Q' : Value → List It → Prop} (h : DbP w X bx bs ba bi rv N kv ev kl el Q) (hq : ∀ v l, Q' v l → X.ownsRow w.heap.size 68 2 v l.length (itsV l)) : DbP w X bx bs ba bi rv N kv ev kl el Q' := ⟨h.grown, h.box, h.row, h.ker, h.edg, h.sep, h.lo, hq⟩
theorem DbP.cells (h : DbP w X bx bs ba bi rv N kv ev kl el Q) : X.cell? ⟨bx, 0, none⟩ = some bs ∧ X.cell? ⟨bx, 1, none⟩ = some (.int .i64 ba) ∧ X.cell? ⟨bx, 2, none⟩ = some (.int .i64 bi) := by
  refine ⟨?_, ?_, ?_⟩ <;> (rw [cell_of_row _ _ _ _ _ _ h.box]; rfl)
theorem DbP.free (h : DbP w X bx bs ba bi rv N kv ev kl el Q) (o : Nat) : X.frozen? ⟨bx, o, none⟩ = false := frozen_of_row _ _ _ _ _ h.box
/-- Blocks of w's own stay. -/
theorem DbP.phat (h : DbP w X bx bs ba bi rv N kv ev kl el Q) {b : Nat} {cs : Array Value} {t : TypeId} (hb : w.heap[b]? = some (.cells cs t (0, 0))) : X.heap[b]? = some (.cells cs t (0, 0)) := box_kept hb h.grown

/-- The box alone is turned. -/
theorem DbP.boxed (h : DbP w X bx bs ba bi rv N kv ev kl el Q) {bs' : Value} {ba' bi' : Int} (hg : X.grownBy Y (some bx)) (hb : Y.heap[bx]? = some (.cells #[bs', .int .i64 ba', .int .i64 bi'] 49 (0, 0))) : DbP w Y bx bs' ba' bi' rv N kv ev kl el Q :=
  ⟨grown_new h.grown hg h.lo, hb, h.row.kept hg (owns_nebox h.row h.box (by decide)), fun i hi => (h.ker i hi).kept hg (owns_nebox (h.ker i hi) h.box (by decide)), fun i hi => (h.edg i hi).kept hg (owns_nebox (h.edg i hi) h.box (by decide)), h.sep, h.lo, fun v l hq => (h.pas v l hq).kept hg (owns_nebox (h.pas v l hq) h.box (by decide))⟩
theorem DbP.setS (h : DbP w X bx bs ba bi rv N kv ev kl el Q) (v : Value) : DbP w (X.setCell ⟨bx, 0, none⟩ v) bx v ba bi rv N kv ev kl el Q :=
  h.boxed (grown_setCell _ _ _) (heap_setCell_same _ _ _ _ _ _ h.box)
theorem DbP.setA (h : DbP w X bx bs ba bi rv N kv ev kl el Q) (v : Int) : DbP w (X.setCell ⟨bx, 1, none⟩ (.int .i64 v)) bx bs v bi rv N kv ev kl el Q :=
  h.boxed (grown_setCell _ _ _) (heap_setCell_same _ _ _ _ _ _ h.box)
theorem DbP.setI (h : DbP w X bx bs ba bi rv N kv ev kl el Q) (v : Int) : DbP w (X.setCell ⟨bx, 2, none⟩ (.int .i64 v)) bx bs ba v rv N kv ev kl el Q :=
  h.boxed (grown_setCell _ _ _) (heap_setCell_same _ _ _ _ _ _ h.box)
/-- A state more. -/
theorem DbP.pushS (h : DbP w X bx bs ba bi rv N kv ev kl el Q) {rv' kv0 : Value} {k : List It} (hk : X.ownsRow w.heap.size 68 2 kv0 k.length (itsV k)) (hg : X.grownBy Y rv.ownBlock) (ho : Y.ownsRow w.heap.size 72 2 rv' (N + 1) (stV kv ev N ++ [kv0, .slice none 0 0])) : DbP w Y bx bs ba bi rv' (N + 1) (updL kv N kv0) (updL ev N (.slice none 0 0)) (updL kl N k) (updL el N []) Q := by
  refine ⟨grown_owned h.grown h.row (Nat.le_refl _) hg, box_row h.box h.row (by decide) hg, ?_, fun i hi => ?_, fun i hi => ?_, fun i j hi hj hne => ?_, h.lo, fun v l hq => row_row (h.pas v l hq) h.row (by decide) hg⟩
  · have e : stV (updL kv N kv0) (updL ev N (.slice none 0 0)) (N + 1) = stV kv ev N ++ [kv0, .slice none 0 0] := by
      show stV _ _ N ++ _ = _
      rw [updL_same, updL_same, stV_congr N (fun i hi => ⟨updL_other _ _ (by omega), updL_other _ _ (by omega)⟩)]
    rw [e]; exact ho
  · by_cases e : i = N
    · subst e
      rw [updL_same, updL_same]
      exact row_row hk h.row (by decide) hg
    · rw [updL_other _ _ e, updL_other _ _ e]
      exact row_row (h.ker i (by omega)) h.row (by decide) hg
  · by_cases e : i = N
    · subst e
      rw [updL_same, updL_same]
      exact World.ownsRow_nil _ _ _ _
    · rw [updL_other _ _ e, updL_other _ _ e]
      exact row_row (h.edg i (by omega)) h.row (by decide) hg
  · by_cases e : i = N
    · subst e
      rw [updL_same]
      exact .inl rfl
    · rw [updL_other _ _ e]
      by_cases e2 : j = N
      · subst e2
        rw [updL_same]
        cases hb : (ev i).ownBlock with
        | none => exact .inl rfl
        | some b => exact .inr (by simp [Value.ownBlock])
      · rw [updL_other _ _ e2]
        exact h.sep i j (by omega) (by omega) hne

/-- An edge more in the row of a state: the row itself, ahead of the store. -/
structure DbE (w Y : World) (bx : Nat) (bs : Value) (ba bi : Int) (rv : Value) (N : Nat) (kv ev : Nat → Value) (kl el : Nat → List It) (Q : Value → List It → Prop) (i : Nat) (v : Value) (ed : List It) : Prop where
  grown : w.grownBy Y none
  box : Y.heap[bx]? = some (.cells #[bs, .int .i64 ba, .int .i64 bi] 49 (0, 0))
  row : Y.ownsRow w.heap.size 72 2 rv N (stV kv ev N)
  ker : ∀ i, i < N → Y.ownsRow w.heap.size 68 2 (kv i) (kl i).length (itsV (kl i))
  edg : ∀ j, j < N → j ≠ i → Y.ownsRow w.heap.size 78 2 (ev j) (el j).length (itsV (el j))
  new : Y.ownsRow w.heap.size 78 2 v ed.length (itsV ed)
  sep : ∀ i j, i < N → j < N → i ≠ j → (ev i).ownBlock = none ∨ (ev i).ownBlock ≠ (ev j).ownBlock
  sepN : ∀ j, j < N → j ≠ i → (ev j).ownBlock = none ∨ (ev j).ownBlock ≠ v.ownBlock
  lo : w.heap.size ≤ bx
  pas : ∀ v l, Q v l → Y.ownsRow w.heap.size 68 2 v l.length (itsV l)
theorem DbP.pushE (h : DbP w X bx bs ba bi rv N kv ev kl el Q) {i g c : Nat} {ed : List It} (hi : i < N) (hg : X.grownBy Y (ev i).ownBlock) (ho : Y.ownsRow w.heap.size 78 2 (.slice (some ⟨g, 0, none⟩) ed.length c) ed.length (itsV ed)) (hat : (ev i).ownBlock = some g ∨ g = X.heap.size) : DbE w Y bx bs ba bi rv N kv ev kl el Q i (.slice (some ⟨g, 0, none⟩) ed.length c) ed := by
  refine ⟨grown_owned h.grown (h.edg i hi) (Nat.le_refl _) hg, box_row h.box (h.edg i hi) (by decide) hg, row_row h.row (h.edg i hi) (by decide) hg, fun j hj => row_row (h.ker j hj) (h.edg i hi) (by decide) hg, fun j hj hne => (h.edg j hj).kept hg (h.sep j i hj hi hne), ho, h.sep, fun j hj hne => ?_, h.lo, fun v l hq => row_row (h.pas v l hq) (h.edg i hi) (by decide) hg⟩
  rcases hat with h1 | h1
  · show _ ∨ _ ≠ some g
    rw [← h1]; exact h.sep j i hj hi hne
  · cases hb : (ev j).ownBlock with
    | none => exact .inl rfl
    | some k =>
      right
      intro h2
      have := ((h.edg j hj).lt k hb).2
      have : k = g := by simpa [Value.ownBlock] using h2
      omega
theorem DbE.set {i g cap : Nat} {v : Value} {ed : List It} (h : DbE w X bx bs ba bi rv N kv ev kl el Q i v ed) (hrv : rv = .slice (some ⟨g, 0, none⟩) N cap) (hi : i < N) : DbP w (X.setCell ⟨g, i * 2 + 1, none⟩ v) bx bs ba bi rv N kv (updL ev i v) kl (updL el i ed) Q := by
  have hg : X.grownBy (X.setCell ⟨g, i * 2 + 1, none⟩ v) rv.ownBlock := by rw [hrv]; exact grown_setCell _ _ _
  refine ⟨grown_owned h.grown h.row (Nat.le_refl _) hg, box_row h.box h.row (by decide) hg, ?_, fun j hj => row_row (h.ker j hj) h.row (by decide) hg, fun j hj => ?_, fun j k hj hk hne => ?_, h.lo, fun v l hq => row_row (h.pas v l hq) h.row (by decide) hg⟩
  · have hr := h.row
    refine ⟨by rw [stV_len], ?_⟩
    rcases hr.2 with ⟨h1, h2⟩ | ⟨g2, cap2, cur, h1, hB, hh, h3, h4, h5, h6⟩
    · omega
    · rw [h1] at hrv
      simp only [Value.slice.injEq, Option.some.injEq, Addr.mk.injEq] at hrv
      obtain ⟨⟨rfl, _⟩, _, rfl⟩ := hrv
      refine .inr ⟨g2, cap2, cur.setIfInBounds (i * 2 + 1) v, h1, hB, heap_setCell_same _ _ _ _ _ _ hh, h3, h4, by rw [Array.size_setIfInBounds]; exact h5, ?_⟩
      rw [← stV_set kv ev v N i hi, ← h6, Array.toList_setIfInBounds, List.take_set]
  · by_cases e : j = i
    · subst e
      rw [updL_same, updL_same]
      exact row_row h.new h.row (by decide) hg
    · rw [updL_other _ _ e, updL_other _ _ e]
      exact row_row (h.edg j hj e) h.row (by decide) hg
  · by_cases e : j = i
    · subst e
      have e2 : k ≠ j := fun h => hne h.symm
      rw [updL_same, updL_other _ _ e2]
      rcases h.sepN k hk e2 with h1 | h1
      · rw [h1]
        cases hb : v.ownBlock with
        | none => exact .inl rfl
        | some b => exact .inr (by simp)
      · exact .inr fun h2 => h1 h2.symm
    · rw [updL_other _ _ e]
      by_cases e2 : k = i
      · subst e2
        rw [updL_same]
        exact h.sepN j hj e
      · rw [updL_other _ _ e2]
        exact h.sep j k hj hk hne
theorem DbE.cells {i : Nat} {v : Value} {ed : List It} (h : DbE w X bx bs ba bi rv N kv ev kl el Q i v ed) : X.cell? ⟨bx, 0, none⟩ = some bs := by rw [cell_of_row _ _ _ _ _ _ h.box]; rfl
theorem DbE.kept {i : Nat} {v : Value} {ed : List It} (h : DbE w X bx bs ba bi rv N kv ev kl el Q i v ed) (hg : X.grownBy Y none) : DbE w Y bx bs ba bi rv N kv ev kl el Q i v ed :=
  ⟨grown_trans h.grown hg, box_kept h.box hg, keep0 h.row hg, fun i hi => keep0 (h.ker i hi) hg, fun i hi hn => keep0 (h.edg i hi hn) hg, keep0 h.new hg, h.sep, h.sepN, h.lo, fun v l hq => keep0 (h.pas v l hq) hg⟩
end

/-- The document's automaton between two edges of state i. -/
def DbAt (w X : World) (bx : Nat) (ks : List (List It)) (asked : Int) (el : Nat → List It) (Q : Value → List It → Prop) : Prop := ∃ (sa : Option Addr) (sc : Nat) (kv ev : Nat → Value), DbP w X bx (.slice sa ks.length sc) asked (ks.length : Int) (.slice sa ks.length sc) ks.length kv ev (fun i => ks.getD i []) el Q
theorem DbAt.kept {w X Y : World} {bx : Nat} {ks : List (List It)} {asked : Int} {el : Nat → List It} {Q : Value → List It → Prop} (h : DbAt w X bx ks asked el Q) (hg : X.grownBy Y none) : DbAt w Y bx ks asked el Q := by
  obtain ⟨sa, sc, kv, ev, h1⟩ := h
  exact ⟨sa, sc, kv, ev, h1.kept hg⟩
theorem DbAt.grown {w X : World} {bx : Nat} {ks : List (List It)} {asked : Int} {el : Nat → List It} {Q : Value → List It → Prop} (h : DbAt w X bx ks asked el Q) : w.grownBy X none := by
  obtain ⟨sa, sc, kv, ev, h1⟩ := h
  exact h1.grown
/-- A state more, told of the kernels. -/
theorem db_more {ks : List (List It)} {k : List It} : updL (fun i => ks.getD i []) ks.length k = fun i => (ks ++ [k]).getD i [] := funext fun i => by
  by_cases e : i = ks.length
  · subst e; rw [updL_same, getD_snoc_new]
  · rw [updL_other _ _ e]
    by_cases e2 : i < ks.length
    · rw [getD_snoc_old e2]
    · show ks.getD i [] = _
      rw [List.getD_eq_getElem?_getD, List.getD_eq_getElem?_getD, List.getElem?_eq_none (by omega), List.getElem?_eq_none (by rw [List.length_append, List.length_singleton]; omega)]
theorem db_none {N : Nat} {el : Nat → List It} (h : ∀ i, N ≤ i → el i = []) : updL el N [] = el := funext fun i => by
  by_cases e : i = N
  · subst e; rw [updL_same, h _ (Nat.le_refl _)]
  · rw [updL_other _ _ e]
/-- The kernels that place looks at. -/
theorem DbP.kers {w X : World} {bx : Nat} {bs : Value} {ba bi : Int} {sa : Option Addr} {sc : Nat} {ks : List (List It)} {kv ev : Nat → Value} {el : Nat → List It} {Q : Value → List It → Prop} (h : DbP w X bx bs ba bi (.slice sa ks.length sc) ks.length kv ev (fun i => ks.getD i []) el Q) : ∃ (ka : Nat → Option Addr) (kc : Nat → Nat), KersAt X sa ks ka kc := by
  have hc : ∀ i, ∃ (a : Option Addr) (c : Nat), i < ks.length → kv i = .slice a (ks.getD i []).length c := fun i => by
    by_cases hi : i < ks.length
    · obtain ⟨a, c, e⟩ := owns_cut (h.ker i hi)
      exact ⟨a, c, fun _ => e⟩
    · exact ⟨none, 0, fun h => absurd h hi⟩
  refine ⟨fun i => Classical.choose (hc i), fun i => Classical.choose (Classical.choose_spec (hc i)), ?_⟩
  by_cases h0 : ks = []
  · exact .inl h0
  · have hp : 0 < ks.length := List.length_pos_iff.2 h0
    obtain ⟨g, c, e, h1⟩ := owns_at h.row hp
    right
    refine ⟨g, 0, (by simp only [Value.slice.injEq] at e; exact e.1), fun i hi => ?_⟩
    have e2 := Classical.choose_spec (Classical.choose_spec (hc i)) hi
    have h3 := h.ker i hi
    rw [e2] at h3
    refine ⟨?_, ItsAt.of h3⟩
    rw [Nat.zero_add, ← e2]
    exact h1 _ _ (stV_at kv ev _ i hi).1

end Go.Proofs.YtfcholpleeiddaaGreat.J

/-
  A region of a function as a declaration of its own.
-/
namespace Go.Proofs.YtfcholpleeiddaaGreat.J
open Go.RowKit Go.Maps Go.Shelf

/-- The regions of a number. -/
def regionsJ (n : Nat) : Code → List Code
  | .region i ops b => if i = n then [.region i ops b] else []
  | .loop c => regionsJ n c
  | .seq a b => regionsJ n a ++ regionsJ n b
  | .block _ c => regionsJ n c
  | .scope c => regionsJ n c
  | .cond _ a b => regionsJ n a ++ regionsJ n b
  | _ => []
/-- The loops of a piece of code, the outer ahead of the inner. -/
def loopsJ : Code → List Code
  | .loop c => .loop c :: loopsJ c
  | .seq a b => loopsJ a ++ loopsJ b
  | .block _ c => loopsJ c
  | .scope c => loopsJ c
  | .cond _ a b => loopsJ a ++ loopsJ b
  | _ => []
def OnEndJ (P : Act → World → Prop) : Exit → Act → World → Prop
  | .normal, a, w => P a w
  | _, _, _ => False

end Go.Proofs.YtfcholpleeiddaaGreat.J

/-
  lr0: the document's Build: an edge more, a declaration of its own (printed by tools/rbedgegen.py).
-/
namespace Go.Proofs.YtfcholpleeiddaaGreat.J
open Go.RowKit Go.Maps Go.Shelf

attribute [local go_sem] Oper.semAt_some

noncomputable def rbR : Code := ((Tryz.f14.body.map (regionsJ 23)).getD []).getD 0 .skip

set_option maxRecDepth 100000 in
set_option maxHeartbeats 8000000 in
theorem rb_edge {K : Act → World → Prop} {X2 : World} {B bx sb2 N2 sc2 i s t em ec : Nat} {ea : Option Addr} {xs : List Value}
    {v0 v1 v2 v3 v4 v7 v9 v11 v12 v13 v14 v15 v16 v17 v18 v19 v20 v21 v22 v23 v24 v25 v26 v27 v28 v29 v30 v31 v32 v33 v34 v35 v36 v37 v38 v39 v40 v41 v42 v43 v44 v45 v46 v47 v48 v49 v50 v51 v52 v53 v54 v55 v56 v57 v58 v59 v60 v61 v62 v63 v64 v65 v66 v67 v68 v69 v70 v71 v72 v73 v74 v75 v76 v77 v78 v79 v80 v81 v82 v83 v84 v85 v86 v87 v88 v89 v90 v91 v92 v93 v94 v95 v96 : Value}
    (x1 : X2.cell? ⟨bx, 0, none⟩ = some (.slice (some ⟨sb2, 0, none⟩) N2 sc2)) (x2 : X2.cell? ⟨sb2, i * 2 + 1, none⟩ = some (.slice ea em ec))
    (x3 : ∀ o, (X2.alloc o).cell? ⟨bx, 0, none⟩ = some (.slice (some ⟨sb2, 0, none⟩) N2 sc2)) (x4 : ∀ o, (X2.alloc o).cell? ⟨sb2, i * 2 + 1, none⟩ = some (.slice ea em ec))
    (hiN : (i : Int) < (N2 : Int)) (hemb : em ≤ 130)
    (hOW : ∀ Y, X2.grownBy Y none → Y.ownsRow B 78 2 (.slice ea em ec) em xs) (hBS : ∀ Y, X2.grownBy Y none → B ≤ Y.heap.size)
    (hfin : ∀ (Y Z : World) (g c' : Nat), X2.grownBy Y none → Y.grownBy Z (Value.slice ea em ec).ownBlock → Z.ownsRow B 78 2 (.slice (some ⟨g, 0, none⟩) (em + 1) c') (em + 1) (xs ++ [.int .i64 (s : Int), .int .i64 (t : Int)]) → ((Value.slice ea em ec).ownBlock = some g ∨ g = Y.heap.size) → Z.cell? ⟨sb2, i * 2 + 1, none⟩ = some (.slice ea em ec) ∧ Z.frozen? ⟨sb2, i * 2 + 1, none⟩ = false ∧ Z.cell? ⟨bx, 0, none⟩ = some (.slice (some ⟨sb2, 0, none⟩) N2 sc2) ∧ ∀ u80 u81 u82 u83 u84 u85 u86 u87 u88 u89 u90 u91 u92 u93 u94 u95 : Value, K ⟨List.toArray (v0 :: v1 :: v2 :: v3 :: v4 :: .pointer (some ⟨bx, 0, none⟩) :: .int .i64 (i : Int) :: v7 :: .int .i64 (s : Int) :: v9 :: .int .i64 (t : Int) :: v11 :: v12 :: v13 :: v14 :: v15 :: v16 :: v17 :: v18 :: v19 :: v20 :: v21 :: v22 :: v23 :: v24 :: v25 :: v26 :: v27 :: v28 :: v29 :: v30 :: v31 :: v32 :: v33 :: v34 :: v35 :: v36 :: v37 :: v38 :: v39 :: v40 :: v41 :: v42 :: v43 :: v44 :: v45 :: v46 :: v47 :: v48 :: v49 :: v50 :: v51 :: v52 :: v53 :: v54 :: v55 :: v56 :: v57 :: v58 :: v59 :: v60 :: v61 :: v62 :: v63 :: v64 :: v65 :: v66 :: v67 :: v68 :: v69 :: v70 :: v71 :: v72 :: v73 :: v74 :: v75 :: v76 :: v77 :: v78 :: v79 :: u80 :: u81 :: u82 :: u83 :: u84 :: u85 :: u86 :: u87 :: u88 :: u89 :: u90 :: u91 :: u92 :: u93 :: u94 :: u95 :: v96 :: []), []⟩ (Z.setCell ⟨sb2, i * 2 + 1, none⟩ (.slice (some ⟨g, 0, none⟩) (em + 1) c'))) :
    Code.wp Tryz.prog rbR (OnEndJ K) ⟨List.toArray (v0 :: v1 :: v2 :: v3 :: v4 :: .pointer (some ⟨bx, 0, none⟩) :: .int .i64 (i : Int) :: v7 :: .int .i64 (s : Int) :: v9 :: .int .i64 (t : Int) :: v11 :: v12 :: v13 :: v14 :: v15 :: v16 :: v17 :: v18 :: v19 :: v20 :: v21 :: v22 :: v23 :: v24 :: v25 :: v26 :: v27 :: v28 :: v29 :: v30 :: v31 :: v32 :: v33 :: v34 :: v35 :: v36 :: v37 :: v38 :: v39 :: v40 :: v41 :: v42 :: v43 :: v44 :: v45 :: v46 :: v47 :: v48 :: v49 :: v50 :: v51 :: v52 :: v53 :: v54 :: v55 :: v56 :: v57 :: v58 :: v59 :: v60 :: v61 :: v62 :: v63 :: v64 :: v65 :: v66 :: v67 :: v68 :: v69 :: v70 :: v71 :: v72 :: v73 :: v74 :: v75 :: v76 :: v77 :: v78 :: v79 :: v80 :: v81 :: v82 :: v83 :: v84 :: v85 :: v86 :: v87 :: v88 :: v89 :: v90 :: v91 :: v92 :: v93 :: v94 :: v95 :: v96 :: []), []⟩ X2 := by
  obtain ⟨i3, hi3, hv0, hv1, hv2⟩ := info_parts infoEdge
  have HOW : Hid (∀ Y, X2.grownBy Y none → Y.ownsRow B 78 2 (.slice ea em ec) em xs) := hOW
  have HPS : Hid (∀ Y, X2.grownBy Y none → B ≤ Y.heap.size) := hBS
  have HFIN := show Hid _ from hfin
  have hi0 : (0 : Int) ≤ (i : Int) := by omega
  clear hOW hBS hfin
  conv => arg 2; whnf
  go_region_law (first
    | (refine step_append_liesW _ rfl (.tmp 88) (.tmp 92) 70 rfl B 78 i3 (.agg #[.int .i64 0, .int .i64 0]) 2 16 Tryz.underlying70 hi3 hv0 hv1 hv2 rfl (by decide) (.slice ea em ec) em xs (by simp [Act.eval]) (HOW.out _ (grown_trans (World.grownBy_alloc _ _ none) (grown_drewN _ 1))) ⟨X2.heap.size, 0, none⟩ 1 1 [.int .i64 (s : Int), .int .i64 (t : Int)] (by simp [Act.eval]) rfl (World.news_of_block (heap_alloc_last X2 _)) (by simp [Value.oneCell']) (by decide) (by unfold maxLen; omega) (by omega) (HPS.out _ (grown_trans (World.grownBy_alloc _ _ none) (grown_drewN _ 1))) ?_; intro g7 c7 wC hoC hgC hat; obtain ⟨q2, q3, q4, q1⟩ := HFIN.out _ wC g7 c7 (grown_trans (World.grownBy_alloc _ _ none) (grown_drewN _ 1)) hgC hoC hat; have HQ9 := show Hid _ from q1; clear q1 hoC hgC hat)
    | fail)
  all_goals exact HQ9.out _ _ _ _ _ _ _ _ _ _ _ _ _ _ _ _

theorem rb_edgeq {Q0 : Exit → Act → World → Prop} {X2 : World} {B bx sb2 N2 sc2 i s t em ec : Nat} {ea : Option Addr} {xs : List Value}
    {v0 v1 v2 v3 v4 v7 v9 v11 v12 v13 v14 v15 v16 v17 v18 v19 v20 v21 v22 v23 v24 v25 v26 v27 v28 v29 v30 v31 v32 v33 v34 v35 v36 v37 v38 v39 v40 v41 v42 v43 v44 v45 v46 v47 v48 v49 v50 v51 v52 v53 v54 v55 v56 v57 v58 v59 v60 v61 v62 v63 v64 v65 v66 v67 v68 v69 v70 v71 v72 v73 v74 v75 v76 v77 v78 v79 v80 v81 v82 v83 v84 v85 v86 v87 v88 v89 v90 v91 v92 v93 v94 v95 v96 : Value}
    (x1 : X2.cell? ⟨bx, 0, none⟩ = some (.slice (some ⟨sb2, 0, none⟩) N2 sc2)) (x2 : X2.cell? ⟨sb2, i * 2 + 1, none⟩ = some (.slice ea em ec))
    (x3 : ∀ o, (X2.alloc o).cell? ⟨bx, 0, none⟩ = some (.slice (some ⟨sb2, 0, none⟩) N2 sc2)) (x4 : ∀ o, (X2.alloc o).cell? ⟨sb2, i * 2 + 1, none⟩ = some (.slice ea em ec))
    (hiN : (i : Int) < (N2 : Int)) (hemb : em ≤ 130)
    (hOW : ∀ Y, X2.grownBy Y none → Y.ownsRow B 78 2 (.slice ea em ec) em xs) (hBS : ∀ Y, X2.grownBy Y none → B ≤ Y.heap.size)
    (hfin : ∀ (Y Z : World) (g c' : Nat), X2.grownBy Y none → Y.grownBy Z (Value.slice ea em ec).ownBlock → Z.ownsRow B 78 2 (.slice (some ⟨g, 0, none⟩) (em + 1) c') (em + 1) (xs ++ [.int .i64 (s : Int), .int .i64 (t : Int)]) → ((Value.slice ea em ec).ownBlock = some g ∨ g = Y.heap.size) → Z.cell? ⟨sb2, i * 2 + 1, none⟩ = some (.slice ea em ec) ∧ Z.frozen? ⟨sb2, i * 2 + 1, none⟩ = false ∧ Z.cell? ⟨bx, 0, none⟩ = some (.slice (some ⟨sb2, 0, none⟩) N2 sc2) ∧ ∀ u80 u81 u82 u83 u84 u85 u86 u87 u88 u89 u90 u91 u92 u93 u94 u95 : Value, Q0 .normal ⟨List.toArray (v0 :: v1 :: v2 :: v3 :: v4 :: .pointer (some ⟨bx, 0, none⟩) :: .int .i64 (i : Int) :: v7 :: .int .i64 (s : Int) :: v9 :: .int .i64 (t : Int) :: v11 :: v12 :: v13 :: v14 :: v15 :: v16 :: v17 :: v18 :: v19 :: v20 :: v21 :: v22 :: v23 :: v24 :: v25 :: v26 :: v27 :: v28 :: v29 :: v30 :: v31 :: v32 :: v33 :: v34 :: v35 :: v36 :: v37 :: v38 :: v39 :: v40 :: v41 :: v42 :: v43 :: v44 :: v45 :: v46 :: v47 :: v48 :: v49 :: v50 :: v51 :: v52 :: v53 :: v54 :: v55 :: v56 :: v57 :: v58 :: v59 :: v60 :: v61 :: v62 :: v63 :: v64 :: v65 :: v66 :: v67 :: v68 :: v69 :: v70 :: v71 :: v72 :: v73 :: v74 :: v75 :: v76 :: v77 :: v78 :: v79 :: u80 :: u81 :: u82 :: u83 :: u84 :: u85 :: u86 :: u87 :: u88 :: u89 :: u90 :: u91 :: u92 :: u93 :: u94 :: u95 :: v96 :: []), []⟩ (Z.setCell ⟨sb2, i * 2 + 1, none⟩ (.slice (some ⟨g, 0, none⟩) (em + 1) c'))) :
    Code.wp Tryz.prog rbR Q0 ⟨List.toArray (v0 :: v1 :: v2 :: v3 :: v4 :: .pointer (some ⟨bx, 0, none⟩) :: .int .i64 (i : Int) :: v7 :: .int .i64 (s : Int) :: v9 :: .int .i64 (t : Int) :: v11 :: v12 :: v13 :: v14 :: v15 :: v16 :: v17 :: v18 :: v19 :: v20 :: v21 :: v22 :: v23 :: v24 :: v25 :: v26 :: v27 :: v28 :: v29 :: v30 :: v31 :: v32 :: v33 :: v34 :: v35 :: v36 :: v37 :: v38 :: v39 :: v40 :: v41 :: v42 :: v43 :: v44 :: v45 :: v46 :: v47 :: v48 :: v49 :: v50 :: v51 :: v52 :: v53 :: v54 :: v55 :: v56 :: v57 :: v58 :: v59 :: v60 :: v61 :: v62 :: v63 :: v64 :: v65 :: v66 :: v67 :: v68 :: v69 :: v70 :: v71 :: v72 :: v73 :: v74 :: v75 :: v76 :: v77 :: v78 :: v79 :: v80 :: v81 :: v82 :: v83 :: v84 :: v85 :: v86 :: v87 :: v88 :: v89 :: v90 :: v91 :: v92 :: v93 :: v94 :: v95 :: v96 :: []), []⟩ X2 :=
  wp_mono (rb_edge (K := fun a w => Q0 .normal a w) x1 x2 x3 x4 hiN hemb hOW hBS hfin) fun e a w h => by
    cases e <;> first | exact h | exact h.elim

end Go.Proofs.YtfcholpleeiddaaGreat.J
