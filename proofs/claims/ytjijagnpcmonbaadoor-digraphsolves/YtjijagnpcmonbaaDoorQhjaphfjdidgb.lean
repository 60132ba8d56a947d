import Derived.Test.YtjijagnpcmonbaaDoorQboobcegjoggh
import Derived.Maps.Keyed
import Derived.Maps.Own
import Derived.Maps.OwnSet
import Derived.Maps.Views
import Derived.DeepKeys4
import Derived.Test.YtjijagnpcmonbaaDoorQdogogoehhlbo
import Derived.Deep.RegionLaw
import Derived.Deep.AppendLies
import Derived.Deep.RegionHeld3
import Derived.Test.YtjijagnpcmonbaaDoorQmacpjmjaffce
import Derived.Deep.LoopGhost
import Derived.Deep.RegionWith

/-
  lr0: a map whose keys are items.
-/
namespace Go.Proofs.YtjijagnpcmonbaaDoor.J
open Go.RowKit Go.Maps Go.Shelf

/-- An item as a value. -/
def aggI (x : It) : Value := .agg #[.int .i64 x.1, .int .i64 x.2]
theorem cellsInt : Tryd.prog.cellsOf 3 = 1 := by kernel_rfl
/-- Numbers that an int can be. -/
def I64 (x : It) : Prop := (Lit.int .i64 x.1).wf = true ∧ (Lit.int .i64 x.2).wf = true
def heldR (v : Value) : Option (DataW Value × List MemPlace) := some (.held v, [])
/-- F with v at x. -/
noncomputable def putI (F : It → Value) (x : It) (v : Value) : It → Value := fun y => if y = x then v else F y
end Go.Proofs.YtjijagnpcmonbaaDoor.J

/-
  lr0: newMaker.
-/
namespace Go.Proofs.YtjijagnpcmonbaaDoor.J
open Go.RowKit Go.Maps Go.Shelf

attribute [local go_sem] Oper.semAt_some

end Go.Proofs.YtjijagnpcmonbaaDoor.J

/-
  lr0: the maker in memory.
-/
namespace Go.Proofs.YtjijagnpcmonbaaDoor.J
open Go.RowKit Go.Maps Go.Shelf

/-- The states whose kernels begin with x. -/
def begI (ks : List (List It)) (x : It) : List Nat := (List.range ks.length).filter fun i => (ks.getD i []).head? == some x
def natV (l : List Nat) : List Value := l.map fun (i : Nat) => Value.int .i64 (i : Int)
theorem natV_append (l m : List Nat) : natV (l ++ m) = natV l ++ natV m := by unfold natV; rw [List.map_append]
theorem natV_len (l : List Nat) : (natV l).length = l.length := by unfold natV; rw [List.length_map]
theorem natV_at (l : List Nat) (i : Nat) (hi : i < l.length) : (natV l)[i]? = some (.int .i64 ((l.getD i 0 : Nat) : Int)) := by
  unfold natV
  rw [List.getElem?_map, List.getElem?_eq_getElem hi, List.getD_eq_getElem?_getD, List.getElem?_eq_getElem hi]; rfl
theorem natV_one (l : List Nat) : ∀ u ∈ natV l, u.oneCell' = true := by
  intro u h
  unfold natV at h
  obtain ⟨i, _, rfl⟩ := List.mem_map.1 h
  rfl

/-- States, as cells. -/
def stV (kv ev : Nat → Value) : Nat → List Value
  | 0 => []
  | N + 1 => stV kv ev N ++ [kv N, ev N]
section
variable {w X Y : World} {mb bm : Nat} {c0 c1 c2 c3 c4 bs : Value} {ba bi : Int} {rv : Value} {N : Nat} {kv ev : Nat → Value} {kl el : Nat → List It} {m : Nat} {mv fv : It → Value} {nl : It → List Nat} {E : Nat}
theorem box_row {B e e' s n b : Nat} {v : Value} {xs : List Value} {cs : Array Value} (h : X.heap[b]? = some (.cells cs e' (0, 0))) (ho : X.ownsRow B e s v n xs) (hne : e ≠ e') (hg : X.grownBy Y v.ownBlock) : Y.heap[b]? = some (.cells cs e' (0, 0)) := by
  refine (hg.block b (Array.getElem?_eq_some_iff.1 h).1 ?_).trans h
  intro e2
  rcases owns_nebox ho h hne with h2 | h2
  · rw [h2] at e2; cases e2
  · exact h2 e2.symm
theorem row_row {B B' e e' s s' n n' : Nat} {v v' : Value} {xs xs' : List Value} (h : X.ownsRow B' e' s' v' n' xs') (ho : X.ownsRow B e s v n xs) (hne : e ≠ e') (hg : X.grownBy Y v.ownBlock) : Y.ownsRow B' e' s' v' n' xs' := by
  refine ⟨h.1, ?_⟩
  rcases h.2 with hn | ⟨g, cap, cur, rfl, hb, hgg, rest⟩
  · exact .inl hn
  · exact .inr ⟨g, cap, cur, rfl, hb, box_row hgg ho hne hg, rest⟩
def updI {α : Type} (f : It → α) (s : It) (x : α) : It → α := fun i => if i = s then x else f i
end
end Go.Proofs.YtjijagnpcmonbaaDoor.J

/-
  digraph: a search in memory.
-/
namespace Go.Proofs.YtjijagnpcmonbaaDoor.J
open Go.RowKit Go.Maps Go.Shelf D

/-- Blocks below B stay, and all those of other things than a search's. -/
structure SKeep (B : Nat) (X Y : World) : Prop where
  os : Y.os = X.os
  tape : Y.tape = X.tape
  output : Y.output = X.output
  size : X.heap.size ≤ Y.heap.size
  block : ∀ k, k < X.heap.size → (k < B ∨ ∃ cs t fr, X.heap[k]? = some (.cells cs t fr) ∧ t ≠ 57 ∧ t ≠ 78 ∧ t ≠ 3) → Y.heap[k]? = X.heap[k]?
section
variable {B : Nat} {X Y Z : World}
theorem SKeep.none_ (h : X.grownBy Y none) : SKeep B X Y := ⟨h.os, h.tape, h.output, h.size, fun k hk _ => h.block k hk (by simp)⟩
theorem SKeep.refl (X : World) : SKeep B X X := .none_ (grown_refl _ _)
theorem SKeep.trans (h : SKeep B X Y) (k : SKeep B Y Z) : SKeep B X Z :=
  ⟨k.os.trans h.os, k.tape.trans h.tape, k.output.trans h.output, Nat.le_trans h.size k.size, fun i hi hc => by
    have e := h.block i hi hc
    refine (k.block i (Nat.lt_of_lt_of_le hi h.size) ?_).trans e
    rw [e]; exact hc⟩
theorem SKeep.one {b : Nat} {cs : Array Value} {t : TypeId} (h : X.grownBy Y (some b)) (hb : B ≤ b) (hx : X.heap[b]? = some (.cells cs t (0, 0))) (ht : t = 57 ∨ t = 78 ∨ t = 3) : SKeep B X Y :=
  ⟨h.os, h.tape, h.output, h.size, fun k hk hc => h.block k hk (by
    intro e
    have e2 : k = b := by simpa using e
    subst e2
    rcases hc with hc | ⟨cs', t', fr, h1, h2, h3, h4⟩
    · omega
    · rw [hx] at h1
      simp only [Option.some.injEq, Obj.cells.injEq] at h1
      rw [← h1.2.1] at h2 h3 h4
      rcases ht with h | h | h
      · exact h2 h
      · exact h3 h
      · exact h4 h)⟩
theorem SKeep.row {e s n : Nat} {v : Value} {xs : List Value} (ho : X.ownsRow B e s v n xs) (h : X.grownBy Y v.ownBlock) (ht : e = 57 ∨ e = 78 ∨ e = 3) : SKeep B X Y := by
  rcases ho.2 with ⟨rfl, _⟩ | ⟨g, cap, cur, rfl, hb, hh, _⟩
  · exact .none_ h
  · exact .one (b := g) h hb hh ht
/-- What was there below B is there. -/
theorem SKeep.grown {w : World} (hw : w.grownBy X none) (hB : w.heap.size ≤ B) (h : SKeep B X Y) : w.grownBy Y none :=
  ⟨h.os.trans hw.os, h.tape.trans hw.tape, h.output.trans hw.output, Nat.le_trans hw.size h.size, fun k hk _ => (h.block k (Nat.lt_of_lt_of_le hk hw.size) (.inl (by omega))).trans (hw.block k hk (by simp))⟩
end

/-- What a taker leaves as it is: a search's own blocks. -/
structure HKeep (B : Nat) (X Y : World) : Prop where
  size : X.heap.size ≤ Y.heap.size
  block : ∀ k cs t, X.heap[k]? = some (.cells cs t (0, 0)) → (t = 57 ∨ t = 78 ∨ (t = 3 ∧ B ≤ k)) → Y.heap[k]? = some (.cells cs t (0, 0))

/-- The visits, as cells. -/
def visV (W : List (Nat × Nat × Nat)) : List Value := W.flatMap fun v => [.int .i64 (v.1 : Int), .int .i64 (v.2.1 : Int), .int .i64 (v.2.2 : Int)]
theorem visV_append (W U : List (Nat × Nat × Nat)) : visV (W ++ U) = visV W ++ visV U := by unfold visV; rw [List.flatMap_append]
theorem visV_length (W : List (Nat × Nat × Nat)) : (visV W).length = W.length * 3 := by
  induction W with
  | nil => rfl
  | cons x l ih =>
    have e : visV (x :: l) = [.int .i64 (x.1 : Int), .int .i64 (x.2.1 : Int), .int .i64 (x.2.2 : Int)] ++ visV l := rfl
    rw [e, List.length_append, ih]
    simp; omega
/-- The way of a search. -/
def wayL : List Fr → List (Nat × Nat × Nat)
  | [] => []
  | f :: fs => wayL fs ++ [(f.node, (opens fs).length + 1, f.gone)]
theorem wayL_length : ∀ fs : List Fr, (wayL fs).length = fs.length
  | [] => rfl
  | f :: fs => by unfold wayL; rw [List.length_append, wayL_length fs]; rfl

/-- A search in memory. -/
structure SrAt (X : World) (B sb N : Nat) (ea : Option Addr) (ec lb : Nat) (W : List (Nat × Nat × Nat)) (O : List Nat) (low : Nat → Nat) (wa oa : Option Addr) (wc oc : Nat) : Prop where
  box : X.heap[sb]? = some (.cells #[.slice ea N ec, .slice wa W.length wc, .slice oa O.length oc, .slice (some ⟨lb, 0, none⟩) N N] 57 (0, 0))
  way : X.ownsRow B 78 3 (.slice wa W.length wc) W.length (visV W)
  opn : X.ownsRow B 3 1 (.slice oa O.length oc) O.length (natV O)
  val : ValAt X lb N 3 (fun i => .int .i64 (low i : Int))
  sep : (Value.slice oa O.length oc).ownBlock ≠ some lb
  lo : B ≤ sb ∧ B ≤ lb ∧ B ≤ X.heap.size

theorem set_ne {X : World} {k k2 x : Nat} {v : Value} {o : Obj} (h : X.heap[k]? = some o) (hne : k ≠ k2) : (X.setCell ⟨k2, x, none⟩ v).heap[k]? = some o := by
  have hg : X.grownBy (X.setCell ⟨k2, x, none⟩ v) (some k2) := grown_setCell _ _ _
  exact (hg.block k (Array.getElem?_eq_some_iff.1 h).1 (by simpa using hne)).trans h
theorem ne_type {X : World} {k k2 : Nat} {cs cs2 : Array Value} {t t2 : TypeId} (h : X.heap[k]? = some (.cells cs t (0, 0))) (h2 : X.heap[k2]? = some (.cells cs2 t2 (0, 0))) (hne : t ≠ t2) : k ≠ k2 := fun e => by
  rw [e, h2] at h
  simp only [Option.some.injEq, Obj.cells.injEq] at h
  exact hne h.2.1.symm
theorem owns_take {X : World} {B e s n m : Nat} {a : Option Addr} {c : Nat} {xs : List Value} (h : X.ownsRow B e s (.slice a n c) n xs) (hm : m ≤ n) (hnil : a = none → m = 0) : X.ownsRow B e s (.slice a m c) m (xs.take (m * s)) := by
  refine ⟨by rw [List.length_take, h.1, Nat.min_eq_left (Nat.mul_le_mul_right _ hm)], ?_⟩
  rcases h.2 with ⟨hv, h0⟩ | ⟨g, cap, cur, hv, hB, hh, hn, hmx, hs, ht⟩
  · simp only [Value.slice.injEq] at hv
    left
    have hm0 : m = 0 := by omega
    rw [hv.1, hv.2.2, hm0]
    exact ⟨rfl, rfl⟩
  · simp only [Value.slice.injEq] at hv
    obtain ⟨rfl, _, rfl⟩ := hv
    refine .inr ⟨g, c, cur, rfl, hB, hh, by omega, hmx, hs, ?_⟩
    rw [← ht, List.take_take, Nat.min_eq_left (Nat.mul_le_mul_right _ hm)]

section
variable {X Y : World} {B sb N : Nat} {ea : Option Addr} {ec lb : Nat} {W : List (Nat × Nat × Nat)} {O : List Nat} {low : Nat → Nat} {wa oa : Option Addr} {wc oc : Nat}
theorem SrAt.kept (h : SrAt X B sb N ea ec lb W O low wa oa wc oc) (hg : X.grownBy Y none) : SrAt Y B sb N ea ec lb W O low wa oa wc oc :=
  ⟨box_kept h.box hg, keep0 h.way hg, keep0 h.opn hg, h.val.kept hg, h.sep, h.lo.1, h.lo.2.1, Nat.le_trans h.lo.2.2 hg.size⟩
theorem owns_hk {e s n : Nat} {v : Value} {xs : List Value} (h : X.ownsRow B e s v n xs) (hk : HKeep B X Y) (he : e = 57 ∨ e = 78 ∨ e = 3) : Y.ownsRow B e s v n xs := by
  refine ⟨h.1, ?_⟩
  rcases h.2 with h | ⟨g, cap, cur, hv, hB, hh, hr⟩
  · exact .inl h
  · refine .inr ⟨g, cap, cur, hv, hB, hk.block g cur e hh ?_, hr⟩
    rcases he with h | h | h
    · exact .inl h
    · exact .inr (.inl h)
    · exact .inr (.inr ⟨h, hB⟩)
theorem SrAt.hand (h : SrAt X B sb N ea ec lb W O low wa oa wc oc) (hk : HKeep B X Y) : SrAt Y B sb N ea ec lb W O low wa oa wc oc :=
  ⟨hk.block _ _ _ h.box (.inl rfl), owns_hk h.way hk (.inr (.inl rfl)), owns_hk h.opn hk (.inr (.inr rfl)), hk.block _ _ _ h.val (.inr (.inr ⟨rfl, h.lo.2.1⟩)), h.sep, h.lo.1, h.lo.2.1, Nat.le_trans h.lo.2.2 hk.size⟩
theorem SrAt.cells (h : SrAt X B sb N ea ec lb W O low wa oa wc oc) : X.cell? ⟨sb, 0, none⟩ = some (.slice ea N ec) ∧ X.cell? ⟨sb, 1, none⟩ = some (.slice wa W.length wc) ∧ X.cell? ⟨sb, 2, none⟩ = some (.slice oa O.length oc) ∧ X.cell? ⟨sb, 3, none⟩ = some (.slice (some ⟨lb, 0, none⟩) N N) := by
  refine ⟨?_, ?_, ?_, ?_⟩ <;> rw [cell_of_row _ _ _ _ _ _ h.box] <;> rfl
theorem SrAt.free (h : SrAt X B sb N ea ec lb W O low wa oa wc oc) (i : Nat) : X.frozen? ⟨sb, i, none⟩ = false := frozen_of_row _ _ _ _ _ h.box

/-- The box's cells, one of them set. -/
theorem SrAt.box1 (h : X.heap[sb]? = some (.cells #[.slice ea N ec, .slice wa W.length wc, .slice oa O.length oc, .slice (some ⟨lb, 0, none⟩) N N] 57 (0, 0))) (v : Value) : (X.setCell ⟨sb, 1, none⟩ v).heap[sb]? = some (.cells #[.slice ea N ec, v, .slice oa O.length oc, .slice (some ⟨lb, 0, none⟩) N N] 57 (0, 0)) := by
  rw [heap_setCell_same _ _ _ _ _ _ h]; rfl
theorem SrAt.box2 (h : X.heap[sb]? = some (.cells #[.slice ea N ec, .slice wa W.length wc, .slice oa O.length oc, .slice (some ⟨lb, 0, none⟩) N N] 57 (0, 0))) (v : Value) : (X.setCell ⟨sb, 2, none⟩ v).heap[sb]? = some (.cells #[.slice ea N ec, .slice wa W.length wc, v, .slice (some ⟨lb, 0, none⟩) N N] 57 (0, 0)) := by
  rw [heap_setCell_same _ _ _ _ _ _ h]; rfl

/-- An open node more. -/
theorem SrAt.pushO {t : Nat} {a' : Option Addr} {c' : Nat} (h : SrAt X B sb N ea ec lb W O low wa oa wc oc) (hg : X.grownBy Y (Value.slice oa O.length oc).ownBlock) (ho : Y.ownsRow B 3 1 (.slice a' (O.length + 1) c') (O.length + 1) (natV O ++ [.int .i64 (t : Int)])) (hat : (Value.slice oa O.length oc).ownBlock = (Value.slice a' (O.length + 1) c').ownBlock ∨ ∀ g, (Value.slice a' (O.length + 1) c').ownBlock = some g → X.heap.size ≤ g) :
    (Y.cell? ⟨sb, 2, none⟩ = some (.slice oa O.length oc) ∧ Y.frozen? ⟨sb, 2, none⟩ = false) ∧ SrAt (Y.setCell ⟨sb, 2, none⟩ (.slice a' (O.length + 1) c')) B sb N ea ec lb W (O ++ [t]) low wa a' wc c' ∧ SKeep B X (Y.setCell ⟨sb, 2, none⟩ (.slice a' (O.length + 1) c')) := by
  have hb := box_row h.box h.opn (by decide) hg
  have hG : Y.grownBy (Y.setCell ⟨sb, 2, none⟩ (.slice a' (O.length + 1) c')) (some sb) := grown_setCell _ _ _
  have hv : ValAt Y lb N 3 (fun i => .int .i64 (low i : Int)) := (hg.block lb h.val.lt (fun e => h.sep e.symm)).trans h.val
  have hlen : (O ++ [t]).length = O.length + 1 := by simp
  refine ⟨⟨by rw [cell_of_row _ _ _ _ _ _ hb]; rfl, frozen_of_row _ _ _ _ _ hb⟩, ⟨?_, ?_, ?_, ?_, ?_, h.lo.1, h.lo.2.1, ?_⟩, (SKeep.row h.opn hg (.inr (.inr rfl))).trans (.one hG h.lo.1 hb (.inl rfl))⟩
  · rw [hlen]; exact SrAt.box2 hb _
  · exact (row_row h.way h.opn (by decide) hg).kept hG (owns_nebox (row_row h.way h.opn (by decide) hg) hb (by decide))
  · rw [hlen, natV_append]
    exact ho.kept hG (owns_nebox ho hb (by decide))
  · exact set_ne hv (ne_type hv hb (by decide))
  · rw [hlen]
    intro e
    rcases hat with h1 | h1
    · exact h.sep (h1.trans e)
    · have := h1 lb e
      have := h.val.lt
      omega
  · exact Nat.le_trans h.lo.2.2 (Nat.le_trans hg.size hG.size)
/-- A low is set. -/
theorem SrAt.setL {t v : Nat} (h : SrAt X B sb N ea ec lb W O low wa oa wc oc) : SrAt (X.setCell ⟨lb, t, none⟩ (.int .i64 (v : Int))) B sb N ea ec lb W O (upd low t v) wa oa wc oc ∧ SKeep B X (X.setCell ⟨lb, t, none⟩ (.int .i64 (v : Int))) := by
  have hG : X.grownBy (X.setCell ⟨lb, t, none⟩ (.int .i64 (v : Int))) (some lb) := grown_setCell _ _ _
  refine ⟨⟨set_ne h.box (ne_type h.box h.val (by decide)), h.way.kept hG (owns_nebox h.way h.val (by decide)), h.opn.kept hG (.inr h.sep), (h.val.set t _).ext fun i _ => ?_, h.sep, h.lo.1, h.lo.2.1, Nat.le_trans h.lo.2.2 hG.size⟩, .one hG h.lo.2.1 h.val (.inr (.inr rfl))⟩
  unfold put upd
  by_cases e : i = t
  · rw [if_pos e, if_pos e]
  · rw [if_neg e, if_neg e]
/-- A visit more. -/
theorem SrAt.pushW {v : Nat × Nat × Nat} {a' : Option Addr} {c' : Nat} (h : SrAt X B sb N ea ec lb W O low wa oa wc oc) (hg : X.grownBy Y (Value.slice wa W.length wc).ownBlock) (ho : Y.ownsRow B 78 3 (.slice a' (W.length + 1) c') (W.length + 1) (visV W ++ [.int .i64 (v.1 : Int), .int .i64 (v.2.1 : Int), .int .i64 (v.2.2 : Int)])) :
    (Y.cell? ⟨sb, 1, none⟩ = some (.slice wa W.length wc) ∧ Y.frozen? ⟨sb, 1, none⟩ = false) ∧ SrAt (Y.setCell ⟨sb, 1, none⟩ (.slice a' (W.length + 1) c')) B sb N ea ec lb (W ++ [v]) O low a' oa c' oc ∧ SKeep B X (Y.setCell ⟨sb, 1, none⟩ (.slice a' (W.length + 1) c')) := by
  have hb := box_row h.box h.way (by decide) hg
  have hG : Y.grownBy (Y.setCell ⟨sb, 1, none⟩ (.slice a' (W.length + 1) c')) (some sb) := grown_setCell _ _ _
  have hv : ValAt Y lb N 3 (fun i => .int .i64 (low i : Int)) := box_row h.val h.way (by decide) hg
  have hlen : (W ++ [v]).length = W.length + 1 := by simp
  refine ⟨⟨by rw [cell_of_row _ _ _ _ _ _ hb]; rfl, frozen_of_row _ _ _ _ _ hb⟩, ⟨?_, ?_, ?_, ?_, h.sep, h.lo.1, h.lo.2.1, ?_⟩, (SKeep.row h.way hg (.inr (.inl rfl))).trans (.one hG h.lo.1 hb (.inl rfl))⟩
  · rw [hlen]; exact SrAt.box1 hb _
  · rw [hlen, visV_append]
    exact ho.kept hG (owns_nebox ho hb (by decide))
  · exact (row_row h.opn h.way (by decide) hg).kept hG (owns_nebox (row_row h.opn h.way (by decide) hg) hb (by decide))
  · exact set_ne hv (ne_type hv hb (by decide))
  · exact Nat.le_trans h.lo.2.2 (Nat.le_trans hg.size hG.size)
/-- The last visit goes. -/
theorem SrAt.popW {v : Nat × Nat × Nat} (h : SrAt X B sb N ea ec lb (W ++ [v]) O low wa oa wc oc) : SrAt (X.setCell ⟨sb, 1, none⟩ (.slice wa W.length wc)) B sb N ea ec lb W O low wa oa wc oc ∧ SKeep B X (X.setCell ⟨sb, 1, none⟩ (.slice wa W.length wc)) := by
  have hG : X.grownBy (X.setCell ⟨sb, 1, none⟩ (.slice wa W.length wc)) (some sb) := grown_setCell _ _ _
  have hlen : (W ++ [v]).length = W.length + 1 := by simp
  have hw : X.ownsRow B 78 3 (.slice wa W.length wc) W.length (visV W) := by
    have h1 := owns_take (m := W.length) h.way (by omega) (fun e => by
      rcases h.way.2 with ⟨_, h2⟩ | ⟨g, _, _, hv, _⟩
      · omega
      · simp only [Value.slice.injEq] at hv; rw [e] at hv; cases hv.1)
    rw [visV_append, List.take_append_of_le_length (by rw [visV_length]; omega), List.take_of_length_le (by rw [visV_length]; omega)] at h1
    exact h1
  exact ⟨⟨SrAt.box1 h.box _, hw.kept hG (owns_nebox hw h.box (by decide)), h.opn.kept hG (owns_nebox h.opn h.box (by decide)), set_ne h.val (ne_type h.val h.box (by decide)), h.sep, h.lo.1, h.lo.2.1, Nat.le_trans h.lo.2.2 hG.size⟩, .one hG h.lo.1 h.box (.inl rfl)⟩
/-- Open nodes go. -/
theorem SrAt.cutO {p : Nat} (h : SrAt X B sb N ea ec lb W O low wa oa wc oc) (hp : p ≤ O.length) : SrAt (X.setCell ⟨sb, 2, none⟩ (.slice oa p oc)) B sb N ea ec lb W (O.take p) low wa oa wc oc ∧ SKeep B X (X.setCell ⟨sb, 2, none⟩ (.slice oa p oc)) := by
  have hG : X.grownBy (X.setCell ⟨sb, 2, none⟩ (.slice oa p oc)) (some sb) := grown_setCell _ _ _
  have hlen : (O.take p).length = p := by rw [List.length_take]; omega
  have hw : X.ownsRow B 3 1 (.slice oa p oc) p (natV (O.take p)) := by
    have h1 := owns_take (m := p) h.opn hp (fun e => by
      rcases h.opn.2 with ⟨_, h2⟩ | ⟨g, _, _, hv, _⟩
      · omega
      · simp only [Value.slice.injEq] at hv; rw [e] at hv; cases hv.1)
    rw [Nat.mul_one] at h1
    have e : natV (O.take p) = (natV O).take p := by unfold natV; rw [List.map_take]
    rw [e]; exact h1
  refine ⟨⟨?_, h.way.kept hG (owns_nebox h.way h.box (by decide)), ?_, set_ne h.val (ne_type h.val h.box (by decide)), ?_, h.lo.1, h.lo.2.1, Nat.le_trans h.lo.2.2 hG.size⟩, .one hG h.lo.1 h.box (.inl rfl)⟩
  · rw [hlen]; exact SrAt.box2 h.box _
  · rw [hlen]; exact hw.kept hG (owns_nebox hw h.box (by decide))
  · rw [hlen]
    intro e
    refine h.sep ?_
    rw [← e]
    cases oa <;> rfl
/-- The last visit, and its place in memory. -/
theorem SrAt.last {v : Nat × Nat × Nat} (h : SrAt X B sb N ea ec lb (W ++ [v]) O low wa oa wc oc) : W.length + 1 ≤ wc ∧ ∃ g, wa = some ⟨g, 0, none⟩ ∧ X.cell? ⟨g, W.length * 3, none⟩ = some (.int .i64 (v.1 : Int)) ∧ X.cell? ⟨g, W.length * 3 + 1, none⟩ = some (.int .i64 (v.2.1 : Int)) ∧ X.cell? ⟨g, W.length * 3 + 2, none⟩ = some (.int .i64 (v.2.2 : Int)) ∧ X.frozen? ⟨g, W.length * 3 + 2, none⟩ = false ∧ ∃ cur, X.heap[g]? = some (.cells cur 78 (0, 0)) := by
  have hlen : (W ++ [v]).length = W.length + 1 := by simp
  rcases h.way.2 with ⟨_, h2⟩ | ⟨g, cap, cur, hv, hB, hh, hn, hm, hs, ht⟩
  · omega
  · simp only [Value.slice.injEq] at hv
    obtain ⟨rfl, _, rfl⟩ := hv
    rw [hlen] at hn ht
    have key : ∀ k, k < 3 → cur[W.length * 3 + k]? = [Value.int .i64 (v.1 : Int), .int .i64 (v.2.1 : Int), .int .i64 (v.2.2 : Int)][k]? := fun k hk => by
      have h3 : (cur.toList.take ((W.length + 1) * 3))[W.length * 3 + k]? = [Value.int .i64 (v.1 : Int), .int .i64 (v.2.1 : Int), .int .i64 (v.2.2 : Int)][k]? := by
        rw [ht, visV_append, List.getElem?_append_right (by rw [visV_length]; omega), visV_length, show W.length * 3 + k - W.length * 3 = k by omega]
        rfl
      rw [List.getElem?_take, if_pos (by omega)] at h3
      simpa using h3
    refine ⟨hn, g, rfl, ?_, ?_, ?_, frozen_of_row _ _ _ _ _ hh, cur, hh⟩
    · rw [cell_of_row _ _ _ _ _ _ hh]; have := key 0 (by omega); simpa using this
    · rw [cell_of_row _ _ _ _ _ _ hh]; have := key 1 (by omega); simpa using this
    · rw [cell_of_row _ _ _ _ _ _ hh]; have := key 2 (by omega); simpa using this
/-- A step of the last visit is done with. -/
theorem SrAt.setG {v : Nat × Nat × Nat} {g k : Nat} (h : SrAt X B sb N ea ec lb (W ++ [v]) O low (some ⟨g, 0, none⟩) oa wc oc) : SrAt (X.setCell ⟨g, W.length * 3 + 2, none⟩ (.int .i64 (k : Int))) B sb N ea ec lb (W ++ [(v.1, v.2.1, k)]) O low (some ⟨g, 0, none⟩) oa wc oc ∧ SKeep B X (X.setCell ⟨g, W.length * 3 + 2, none⟩ (.int .i64 (k : Int))) := by
  have hG : X.grownBy (X.setCell ⟨g, W.length * 3 + 2, none⟩ (.int .i64 (k : Int))) (some g) := grown_setCell _ _ _
  have hlen : ∀ u : Nat × Nat × Nat, (W ++ [u]).length = W.length + 1 := fun u => by simp
  rcases h.way.2 with ⟨_, h2⟩ | ⟨g', cap, cur, hv, hB, hh, hn, hm, hs, ht⟩
  · have := hlen v; omega
  · simp only [Value.slice.injEq, Option.some.injEq, Addr.mk.injEq, and_true] at hv
    obtain ⟨rfl, _, rfl⟩ := hv
    refine ⟨⟨?_, ?_, h.opn.kept hG (owns_nebox h.opn hh (by decide)), set_ne h.val (ne_type h.val hh (by decide)), h.sep, h.lo.1, h.lo.2.1, Nat.le_trans h.lo.2.2 hG.size⟩, .one hG hB hh (.inr (.inl rfl))⟩
    · have h1 := set_ne (x := W.length * 3 + 2) (v := .int .i64 (k : Int)) h.box (ne_type h.box hh (by decide))
      rw [hlen] at h1 ⊢
      exact h1
    · rw [hlen] at hn ht ⊢
      refine ⟨by rw [visV_length, hlen], .inr ⟨g, wc, cur.setIfInBounds (W.length * 3 + 2) (.int .i64 (k : Int)), rfl, hB, heap_setCell_same _ _ _ _ _ _ hh, hn, hm, by simpa using hs, ?_⟩⟩
      rw [Array.toList_setIfInBounds, List.take_set, ht, visV_append, visV_append, List.set_append_right _ _ (by rw [visV_length]; omega), visV_length, show W.length * 3 + 2 - W.length * 3 = 2 by omega]
      rfl
end

end Go.Proofs.YtjijagnpcmonbaaDoor.J

/-
  lr0: the maker's ask, walked.
-/
namespace Go.Proofs.YtjijagnpcmonbaaDoor.J
open Go.RowKit Go.Maps Go.Shelf

attribute [local go_sem] Oper.semAt_some

theorem infoInt : (Tryd.prog.info? 3).map (fun i => (i.zero, i.size, i.bytes)) = some (some (.int .i64 0), 1, 8) := by kernel_rfl
theorem owns_cut {X : World} {B e s n : Nat} {v : Value} {xs : List Value} (h : X.ownsRow B e s v n xs) : ∃ a c, v = .slice a n c := by
  rcases h.2 with ⟨rfl, rfl⟩ | ⟨g, cap, cur, rfl, _⟩
  · exact ⟨_, _, rfl⟩
  · exact ⟨_, _, rfl⟩
theorem owns_at {X : World} {B e s n : Nat} {v : Value} {xs : List Value} (h : X.ownsRow B e s v n xs) (hn : 0 < n) : ∃ g c, v = .slice (some ⟨g, 0, none⟩) n c ∧ ∀ j u, xs[j]? = some u → X.cell? ⟨g, j, none⟩ = some u := by
  rcases h.2 with ⟨_, h2⟩ | ⟨g, cap, cur, rfl, hB, hh, _, _, hs, ht⟩
  · omega
  · refine ⟨g, cap, rfl, fun j u hu => ?_⟩
    rw [cell_of_row _ _ _ _ _ _ hh]
    rw [← ht, List.getElem?_take] at hu
    split at hu
    · simpa using hu
    · cases hu
end Go.Proofs.YtjijagnpcmonbaaDoor.J

/-
  digraph: enter.
-/
namespace Go.Proofs.YtjijagnpcmonbaaDoor.J
open Go.RowKit Go.Maps Go.Shelf D

attribute [local go_sem] Oper.semAt_some

theorem infoVisit : (Tryd.prog.info? 78).map (fun i => (i.zero, i.size, i.bytes)) = some (some (.agg #[.int .i64 0, .int .i64 0, .int .i64 0]), 3, 24) := by kernel_rfl

theorem wpList_append_liesW {P : Program} {w : World} {ops : Array Oper} {rest : List Oper} {o : Oper} {a : Act} {Q : Exit → Act → World → Prop} (hgd : o.guard = none) (s x : Operand) (t : TypeId)
    (ho : o.op = .call { callee := .builtin .append, args := #[s, x], argTypes := #[t, t] })
    (base : Nat) (e : TypeId) (i : TypeInfo) (z : Value) (size bytes : Nat) (ht : P.underlying t = some (.slice e)) (hi : P.info? e = some i) (hz : i.zero = some z)
    (hsize : i.size = size) (hby : i.bytes = bytes) (hzs : z.cells.size = size) (hsz : 0 < size)
    (v : Value) (n : Nat) (xs : List Value) (hs : a.eval s = v) (hown : w.ownsRow base e size v n xs)
    (ad : Addr) (m c : Nat) (news : List Value) (hx : a.eval x = .slice (some ad) m c) (hl : news.length = m * size) (hnews : ∀ j u, news[j]? = some u → w.cell? (ad.add j) = some u) (h1 : ∀ u ∈ news, u.oneCell' = true)
    (hm : 0 < m) (h63 : n + m ≤ maxLen) (hbytes : ((n + m) + (n + m) / 4 + 192) * bytes ≤ 281474976710656) (hbase : base ≤ w.heap.size)
    (h : ∀ g cap w', w'.ownsRow base e size (.slice (some ⟨g, 0, none⟩) (n + m) cap) (n + m) (xs ++ news) → w.grownBy w' v.ownBlock → (v.ownBlock = some g ∨ g = w.heap.size) → wpList P ops Q rest (a.put o.dst (.slice (some ⟨g, 0, none⟩) (n + m) cap)) w') : wpList P ops Q (o :: rest) a w := by
  refine wpList_plain hgd fun K hK => ?_
  exact wp_append_liesW w s x t ho base e i z size bytes ht hi hz hsize hby hzs hsz v n xs hs hown ad m c news hx hl hnews h1 hm h63 hbytes hbase fun g cap w' h1 h2 h3 => hK _ _ (h g cap w' h1 h2 h3)

/-- What enter tells. -/
def EntTold (B sb N : Nat) (ea : Option Addr) (ec lb : Nat) (W : List (Nat × Nat × Nat)) (O : List Nat) (low : Nat → Nat) (t : Nat) (X : World) (e : Ending) (y : World) : Prop := e = .returned (.tuple #[]) ∧ SKeep B X y ∧ ∃ wa oa wc oc, SrAt y B sb N ea ec lb (W ++ [(t, O.length + 1, 0)]) (O ++ [t]) (upd low t (O.length + 1)) wa oa wc oc

set_option maxRecDepth 100000 in
set_option maxHeartbeats 2000000 in
theorem enter_any (X : World) (B sb N : Nat) (ea : Option Addr) (ec lb : Nat) (W : List (Nat × Nat × Nat)) (O : List Nat) (low : Nat → Nat) (wa oa : Option Addr) (wc oc : Nat) (h : SrAt X B sb N ea ec lb W O low wa oa wc oc) (t : Nat) (ht : t < N) (hN : N ≤ 5864062014805) (hO : O.length ≤ N) (hW : W.length ≤ N) :
    Calls Tryd.prog 29 #[.pointer (some ⟨sb, 0, none⟩), .int .i64 (t : Int)] X fun e y => EntTold B sb N ea ec lb W O low t X e y := by
  obtain ⟨i0, hi0, hz0, hz1, hz2⟩ := info_parts infoInt
  obtain ⟨i1, hi1, hy0, hy1, hy2⟩ := info_parts infoVisit
  obtain ⟨Y0, hY0⟩ : ∃ Y, Y = X.alloc (.cells #[.int .i64 (t : Int)] 3) := ⟨_, rfl⟩
  have hg0 : X.grownBy Y0 none := by rw [hY0]; exact World.grownBy_alloc _ _ none
  have h0 := h.kept hg0
  obtain ⟨on, hon⟩ : ∃ x, x = O.length := ⟨_, rfl⟩
  obtain ⟨wn, hwn⟩ : ∃ x, x = W.length := ⟨_, rfl⟩
  have HON : Hid (on = O.length) := hon
  have HWN : Hid (wn = W.length) := hwn
  have HOW : Hid (Y0.ownsRow B 3 1 (.slice oa on oc) on (natV O)) := by rw [hon]; exact h0.opn
  have HBS : Hid (B ≤ Y0.heap.size) := h0.lo.2.2
  have HNX : Hid (∀ j z, [Value.int .i64 (t : Int)][j]? = some z → Y0.cell? ((⟨X.heap.size, 0, none⟩ : Addr).add j) = some z) := by rw [hY0]; exact news_new X _ _
  have HF0 : Hid (∀ (V : World) (g c' : Nat), Y0.grownBy V (Value.slice oa on oc).ownBlock → V.ownsRow B 3 1 (.slice (some ⟨g, 0, none⟩) (on + 1) c') (on + 1) (natV O ++ [.int .i64 (t : Int)]) → ((Value.slice oa on oc).ownBlock = some g ∨ g = Y0.heap.size) → (V.cell? ⟨sb, 2, none⟩ = some (.slice oa on oc) ∧ V.frozen? ⟨sb, 2, none⟩ = false) ∧ SrAt (V.setCell ⟨sb, 2, none⟩ (.slice (some ⟨g, 0, none⟩) (on + 1) c')) B sb N ea ec lb W (O ++ [t]) low wa (some ⟨g, 0, none⟩) wc c' ∧ SKeep B X (V.setCell ⟨sb, 2, none⟩ (.slice (some ⟨g, 0, none⟩) (on + 1) c'))) := fun V g c' hg ho hat => by
    rw [hon] at hg ho hat ⊢
    obtain ⟨p1, p2, p3⟩ := h0.pushO hg ho (by
      rcases hat with h1 | h1
      · exact .inl h1
      · refine .inr fun g' e => ?_
        have : g' = g := by simpa [Value.ownBlock] using e.symm
        omega)
    exact ⟨p1, p2, (SKeep.none_ hg0).trans p3⟩
  obtain ⟨x0, x1, x2, x3⟩ := h.cells
  obtain ⟨y0, y1, y2, y3⟩ := h0.cells
  rw [hY0] at HOW HBS HNX HF0 y0 y1 y2 y3
  rw [← hon] at x2 y2 hO
  rw [← hwn] at x1 y1 hW
  obtain ⟨xs, hxs⟩ : ∃ xs, xs = natV O := ⟨_, rfl⟩
  rw [← hxs] at HOW HF0
  clear h h0 hg0 hY0 hon hwn hxs
  go_enter Tryd.func29, Tryd.ntmps29
  go_wp2_with (at_builtin; refine wpList_append_liesW rfl (.tmp 8) (.tmp 10) 28 rfl B 3 i0 (.int .i64 0) 1 8 Tryd.underlying28 hi0 hz0 hz1 hz2 rfl (by decide) (.slice oa on oc) on xs rfl HOW.out ⟨X.heap.size, 0, none⟩ 1 1 [.int .i64 (t : Int)] rfl rfl HNX.out (by simp [Value.oneCell']) (by decide) (by unfold maxLen; omega) (by omega) HBS.out ?_; intro g6 c6 wB hoB hgB hat; obtain ⟨⟨q1, q2⟩, q3, q4⟩ := HF0.out wB g6 c6 hgB hoB hat; have HS1 := show Hid _ from q3; have HK1 := show Hid _ from q4; clear q3 q4 hoB hgB hat)
  obtain ⟨S1, hS1⟩ : ∃ S, S = wB.setCell ⟨sb, 2, none⟩ (.slice (some ⟨g6, 0, none⟩) (on + 1) c6) := ⟨_, rfl⟩
  rw [← hS1] at HS1 HK1 ⊢
  clear hS1 q1 q2 x0 x1 x2 x3 y0 y1 y2 y3 HOW HBS HNX HF0
  have hol : (O ++ [t]).length = on + 1 := by rw [List.length_append, List.length_singleton, HON.out]
  obtain ⟨z0, z1, z2, z3⟩ := HS1.out.cells
  rw [hol] at z2
  rw [← HWN.out] at z1
  have zl := HS1.out.val.cell t ht
  have zf := HS1.out.val.free t
  have ht0 : (0 : Int) ≤ (t : Int) := by omega
  have ht1 : (t : Int) < (N : Int) := by omega
  have hee : ((on + 1 : Nat) : Int) = (on : Int) + 1 := by omega
  obtain ⟨hL, hLK⟩ := HS1.out.setL (t := t) (v := on + 1)
  rw [hee] at hL hLK
  have HL := show Hid _ from hL
  have HLK := show Hid _ from HK1.out.trans hLK
  clear hL hLK
  have HS2 := show Hid _ from HL.out.kept (grown_drewN _ 1)
  have HK2 := show Hid _ from HLK.out.trans (.none_ (grown_drewN _ 1))
  obtain ⟨u0, u1, u2, u3⟩ := HS2.out.cells
  rw [hol] at u2
  rw [← HWN.out] at u1
  go_region_held3 (fun Y => Y.cell? ⟨sb, 2, none⟩ = some (.slice (some ⟨g6, 0, none⟩) (on + 1) c6) ∧ Y.cell? ⟨sb, 3, none⟩ = some (.slice (some ⟨lb, 0, none⟩) N N)) (first | exact ⟨z2, z3⟩ | exact ⟨u2, u3⟩) (fail)
  obtain ⟨S2, hS2⟩ : ∃ S, S = (S1.setCell ⟨lb, t, none⟩ (.int .i64 ((on : Int) + 1))).drew := ⟨_, rfl⟩
  have e1 : S2 = World.drewN (S1.setCell ⟨lb, t, none⟩ (.int .i64 ((on : Int) + 1))) 1 := hS2
  rw [← e1] at HS2 HK2 u1 u2
  rw [← hS2]
  clear hS2 e1 z0 z1 z2 z3 zl zf u0 u3 HS1 HK1 HL HLK
  have a1 : ∀ o, (S2.alloc o).cell? ⟨sb, 1, none⟩ = some (.slice wa wn wc) := fun o => (World.grownBy_alloc _ o none).cell u1 (by simp)
  have a2 : ∀ o, (S2.alloc o).cell? ⟨sb, 2, none⟩ = some (.slice (some ⟨g6, 0, none⟩) (on + 1) c6) := fun o => (World.grownBy_alloc _ o none).cell u2 (by simp)
  have HOW : Hid (∀ Y, S2.grownBy Y none → Y.ownsRow B 78 3 (.slice wa wn wc) wn (visV W)) := fun Y hY => by
    have := (HS2.out.kept hY).way
    rw [← HWN.out] at this
    exact this
  have HBS : Hid (∀ Y, S2.grownBy Y none → B ≤ Y.heap.size) := fun Y hY => (HS2.out.kept hY).lo.2.2
  have HFIN : Hid (∀ (Y V : World) (g c' : Nat), S2.grownBy Y none → Y.grownBy V (Value.slice wa wn wc).ownBlock → V.ownsRow B 78 3 (.slice (some ⟨g, 0, none⟩) (wn + 1) c') (wn + 1) (visV W ++ [.int .i64 (t : Int), .int .i64 ((on : Int) + 1), .int .i64 0]) → (V.cell? ⟨sb, 1, none⟩ = some (.slice wa wn wc) ∧ V.frozen? ⟨sb, 1, none⟩ = false) ∧ V.cell? ⟨sb, 2, none⟩ = some (.slice (some ⟨g6, 0, none⟩) (on + 1) c6) ∧ SrAt (V.setCell ⟨sb, 1, none⟩ (.slice (some ⟨g, 0, none⟩) (wn + 1) c')) B sb N ea ec lb (W ++ [(t, O.length + 1, 0)]) (O ++ [t]) (upd low t (O.length + 1)) (some ⟨g, 0, none⟩) (some ⟨g6, 0, none⟩) c' c6 ∧ SKeep B X (V.setCell ⟨sb, 1, none⟩ (.slice (some ⟨g, 0, none⟩) (wn + 1) c'))) := fun Y V g c' hY hg ho => by
    rw [HWN.out] at hg ho ⊢
    have hk := HS2.out.kept hY
    have hb := box_row hk.box hk.way (by decide) hg
    obtain ⟨p1, p2, p3⟩ := hk.pushW (v := (t, O.length + 1, 0)) hg (by
      have e : ((O.length + 1 : Nat) : Int) = (on : Int) + 1 := by rw [HON.out]; omega
      show V.ownsRow B _ 3 _ _ (visV W ++ [.int .i64 (t : Int), .int .i64 ((O.length + 1 : Nat) : Int), .int .i64 ((0 : Nat) : Int)])
      rw [e]; exact ho)
    refine ⟨p1, ?_, ?_, (HK2.out.trans (.none_ hY)).trans p3⟩
    · rw [cell_of_row _ _ _ _ _ _ hb, hol]; rfl
    · rw [← HON.out] at p2 ⊢; exact p2
  obtain ⟨xs2, hxs2⟩ : ∃ xs, xs = visV W := ⟨_, rfl⟩
  rw [← hxs2] at HOW HFIN
  clear hxs2 HS2 HK2 hol
  go_wp2_with fail
  go_region_law (first
    | (refine step_append_liesW _ rfl (.tmp 29) (.tmp 37) 55 rfl B 78 i1 (.agg #[.int .i64 0, .int .i64 0, .int .i64 0]) 3 24 Tryd.underlying55 hi1 hy0 hy1 hy2 rfl (by decide) (.slice wa wn wc) wn xs2 (by simp [Act.eval]) (HOW.out _ (grown_trans (World.grownBy_alloc _ _ none) (grown_drewN _ _))) ⟨S2.heap.size, 0, none⟩ 1 1 [.int .i64 (t : Int), .int .i64 ((on : Int) + 1), .int .i64 0] (by simp [Act.eval]) rfl (World.news_of_block (heap_alloc_last S2 _)) (by simp [Value.oneCell']) (by decide) (by unfold maxLen; omega) (by omega) (HBS.out _ (grown_trans (World.grownBy_alloc _ _ none) (grown_drewN _ _))) ?_; intro g9 c9 wB hoB hgB hat; obtain ⟨⟨q1, q2⟩, q5, q3, q4⟩ := HFIN.out _ wB g9 c9 (grown_trans (World.grownBy_alloc _ _ none) (grown_drewN _ _)) hgB hoB; have HQ3 := show Hid _ from q3; have HQ4 := show Hid _ from q4; clear q3 q4 hoB hgB hat)
    | fail)
  all_goals go_wp2_with fail
  all_goals refine bodyPost_end (v := .tuple #[]) (by simp [results, Tryd.results29]) rfl ?_
  all_goals exact ⟨rfl, HQ4.out, _, _, _, _, HQ3.out⟩

end Go.Proofs.YtjijagnpcmonbaaDoor.J

/-
  digraph: leave.
-/
namespace Go.Proofs.YtjijagnpcmonbaaDoor.J
open Go.RowKit Go.Maps Go.Shelf D

attribute [local go_sem] Oper.semAt_some

/-- A search between two steps, in memory. -/
structure SjAt (X : World) (B sb N : Nat) (ea : Option Addr) (ec lb : Nat) (E : Nat → List Nat) (fs : List Fr) (low : Nat → Nat) (C : Nat → Bool) : Prop where
  pure : TjP N E 9223372036854775807 fs low C
  mem : ∃ wa oa wc oc, SrAt X B sb N ea ec lb (wayL fs) (opens fs) low wa oa wc oc

/-- Numbers, as a row of whole numbers. -/
def intL (l : List Nat) : List Int := l.map fun x : Nat => (x : Int)
theorem intL_length (l : List Nat) : (intL l).length = l.length := by unfold intL; simp
theorem intL_at (l : List Nat) (i : Nat) : (intL l).getD i 0 = ((l.getD i 0 : Nat) : Int) := by
  unfold intL
  rw [List.getD_eq_getElem?_getD, List.getD_eq_getElem?_getD, List.getElem?_map]
  cases l[i]? <;> rfl

/-- The rest of a row of numbers. -/
theorem owns_rest {X : World} {B n p c : Nat} {oa : Option Addr} {O : List Nat} (h : X.ownsRow B 3 1 (.slice oa n c) n (natV O)) (hp : p < n) : ∃ g, oa = some ⟨g, 0, none⟩ ∧ B ≤ g ∧ n ≤ c ∧ (∃ cur, X.heap[g]? = some (.cells cur 3 (0, 0))) ∧ ∀ i, i < (O.drop p).length → X.cell? ⟨g, p + i, none⟩ = some (.int .i64 (((O.drop p).getD i 0 : Nat) : Int)) := by
  rcases h.2 with ⟨_, h2⟩ | ⟨g, cap, cur, hv, hB, hh, hn, hm, hs, ht⟩
  · omega
  · simp only [Value.slice.injEq] at hv
    obtain ⟨rfl, _, rfl⟩ := hv
    refine ⟨g, rfl, hB, hn, ⟨cur, hh⟩, fun i hi => ?_⟩
    rw [List.length_drop] at hi
    have hl := h.1
    rw [natV_len] at hl
    have h3 := natV_at O (p + i) (by omega)
    rw [← ht, List.getElem?_take, if_pos (by omega)] at h3
    rw [cell_of_row _ _ _ _ _ _ hh]
    have e : (O.drop p).getD i 0 = O.getD (p + i) 0 := by
      rw [List.getD_eq_getElem?_getD, List.getElem?_drop, ← List.getD_eq_getElem?_getD]
    rw [e]
    simpa using h3

/-- Lows of the first k of c are closed. -/
def lowK (low : Nat → Nat) (cl : Nat) (c : List Nat) : Nat → (Nat → Nat)
  | 0 => low
  | k + 1 => upd (lowK low cl c k) (c.getD k 0) cl
theorem lowK_all (low : Nat → Nat) (cl : Nat) (c : List Nat) : lowK low cl c c.length = lowC low cl c := by
  have key : ∀ k, k ≤ c.length → ∀ x, lowK low cl c k x = if x ∈ c.take k then cl else low x := by
    intro k
    induction k with
    | zero => intro _ x; simp [lowK]
    | succ k ih =>
      intro hk x
      have hk2 : k < c.length := by omega
      rw [List.take_succ_eq_append_getElem hk2]
      have e : c.getD k 0 = c[k] := by rw [List.getD_eq_getElem?_getD, List.getElem?_eq_getElem hk2]; rfl
      unfold lowK upd
      rw [e, ih (by omega)]
      by_cases e1 : x = c[k]
      · rw [if_pos e1, if_pos (List.mem_append_right _ (List.mem_singleton.2 e1))]
      · rw [if_neg e1]
        by_cases e2 : x ∈ c.take k
        · rw [if_pos e2, if_pos (List.mem_append_left _ e2)]
        · rw [if_neg e2, if_neg]
          intro h
          rcases List.mem_append.1 h with h | h
          · exact e2 h
          · exact e1 (List.mem_singleton.1 h)
  funext x
  rw [key _ (Nat.le_refl _), List.take_length]
  rfl

set_option maxRecDepth 100000 in
set_option maxHeartbeats 2000000 in
theorem leave_low (X : World) (B sb N : Nat) (ea : Option Addr) (ec lb : Nat) (W : List (Nat × Nat × Nat)) (O : List Nat) (low : Nat → Nat) (wa oa : Option Addr) (wc oc : Nat) (nd pl gn : Nat) (h : SrAt X B sb N ea ec lb (W ++ [(nd, pl, gn)]) O low wa oa wc oc) (hnd : nd < N) (hlo : low nd < pl) (hW : W.length ≤ 5864062014805) (hv : Value) :
    Calls Tryd.prog 41 #[.pointer (some ⟨sb, 0, none⟩), .agg #[.int .i64 (nd : Int), .int .i64 (pl : Int), .int .i64 (gn : Int)], hv] X fun e y => e = .returned (.tuple #[]) ∧ SKeep B X y ∧ SrAt y B sb N ea ec lb W O low wa oa wc oc := by
  obtain ⟨Y0, hY0⟩ : ∃ Y, Y = X.alloc (.cells #[.int .i64 (nd : Int), .int .i64 (pl : Int), .int .i64 (gn : Int)] 78) := ⟨_, rfl⟩
  have hg0 : X.grownBy Y0 none := by rw [hY0]; exact World.grownBy_alloc _ _ none
  have h0 := h.kept hg0
  have hbx : Y0.heap[X.heap.size]? = some (.cells #[.int .i64 (nd : Int), .int .i64 (pl : Int), .int .i64 (gn : Int)] 78 (0, 0)) := by rw [hY0]; exact heap_alloc_last X _
  obtain ⟨wn, hwn⟩ : ∃ x, x = W.length := ⟨_, rfl⟩
  have HWN : Hid (wn = W.length) := hwn
  have hwl : (W ++ [(nd, pl, gn)]).length = wn + 1 := by rw [List.length_append, List.length_singleton, hwn]
  obtain ⟨y0, y1, y2, y3⟩ := h0.cells
  rw [hwl] at y1
  obtain ⟨hcap, g, hwa, _⟩ := h.last
  subst hwa
  rw [← hwn] at hcap hW
  obtain ⟨h1, k1⟩ := h0.popW
  rw [← hwn] at h1 k1
  have hsb : sb ≠ X.heap.size := by have := (Array.getElem?_eq_some_iff.1 h.box).1; omega
  have hgd := grown_drewN (Y0.setCell ⟨sb, 1, none⟩ (.slice (some ⟨g, 0, none⟩) wn wc)) 1
  have hb1 := box_kept (set_ne (x := 1) (v := .slice (some ⟨g, 0, none⟩) wn wc) hbx (fun e => hsb e.symm)) hgd
  have HK1 := show Hid _ from ((SKeep.none_ hg0).trans k1).trans (.none_ hgd)
  have HS1 := show Hid _ from h1.kept hgd
  have HB1 := show Hid _ from hb1
  have y1f := h0.free 1
  have HY0 : Hid (Y0 = X.alloc (.cells #[.int .i64 (nd : Int), .int .i64 (pl : Int), .int .i64 (gn : Int)] 78)) := hY0
  rw [hY0] at y0 y1 y2 y3 y1f
  have hc0 : (wn : Int) ≤ (wc : Int) := by omega
  have hw1 : IntKind.i64.wrap ((wn : Int) + 1 - 1) = (wn : Int) := by rw [IntKind.wrap_i64]; omega
  have hw2 : IntKind.i64.wrap (wn : Int) = (wn : Int) := by rw [IntKind.wrap_i64]; omega
  have hw3 : (wn : Int) + 1 - 1 = (wn : Int) := by omega
  have hw0 : (0 : Int) ≤ (wn : Int) := by omega
  have hn0 : (0 : Int) ≤ (nd : Int) := by omega
  have hn1 : (nd : Int) < (N : Int) := by omega
  obtain ⟨ln, hln⟩ : ∃ x, x = low nd := ⟨_, rfl⟩
  have HLN : Hid (ln = low nd) := hln
  rw [← hln] at hlo
  have hld : decide (ln < pl) = true := decide_eq_true hlo
  have hld2 : decide ((ln : Int) < (pl : Int)) = true := decide_eq_true (by omega)
  clear hln
  clear h h0 hg0 hY0 hwn hwl h1 k1 hcap hbx hsb hgd hb1
  go_enter Tryd.func41, Tryd.ntmps41
  go_wp2_with fail
  go_region_law (fail)
  all_goals obtain ⟨S1, hS1⟩ : ∃ S, S = ((X.alloc (.cells #[.int .i64 (nd : Int), .int .i64 (pl : Int), .int .i64 (gn : Int)] 78)).setCell ⟨sb, 1, none⟩ (.slice (some ⟨g, 0, none⟩) wn wc)).drew := ⟨_, rfl⟩
  all_goals rw [← hS1]
  all_goals rw [← HY0.out] at hS1
  all_goals have e1 : S1 = World.drewN (Y0.setCell ⟨sb, 1, none⟩ (.slice (some ⟨g, 0, none⟩) wn wc)) 1 := hS1
  all_goals rw [← e1] at HS1 HK1 HB1
  all_goals clear hS1 e1 y0 y1 y2 y3 y1f
  all_goals obtain ⟨z0, z1, z2, z3⟩ := HS1.out.cells
  all_goals rw [← HWN.out] at z1
  all_goals have zl := HS1.out.val.cell nd hnd
  all_goals have v0 : S1.cell? ⟨X.heap.size, 0, none⟩ = some (.int .i64 (nd : Int)) := by rw [cell_of_row _ _ _ _ _ _ HB1.out]; rfl
  all_goals have v1 : S1.cell? ⟨X.heap.size, 1, none⟩ = some (.int .i64 (pl : Int)) := by rw [cell_of_row _ _ _ _ _ _ HB1.out]; rfl
  all_goals rw [← HLN.out] at zl
  all_goals go_wp2_with fail
  all_goals go_quiet (fail)
  all_goals go_wp2_with fail
  all_goals refine bodyPost_ret (v := .tuple #[]) (by simp [results, Tryd.results41]) rfl ?_
  all_goals exact ⟨rfl, HK1.out.trans (.none_ (grown_drewN _ _)), HS1.out.kept (grown_drewN _ _)⟩

/-- What is open stays, whatever the box is told. -/
theorem open_cell {V : World} {B sb N : Nat} {ea : Option Addr} {ec lb : Nat} {W : List (Nat × Nat × Nat)} {O : List Nat} {low : Nat → Nat} {wa : Option Addr} {wc oc og x : Nat} {v : Value} (h : SrAt V B sb N ea ec lb W O low wa (some ⟨og, 0, none⟩) wc oc) (u : Value) (hc : V.cell? ⟨og, x, none⟩ = some v) : (World.drewN (V.setCell ⟨sb, 2, none⟩ u) 1).cell? ⟨og, x, none⟩ = some v := by
  refine (grown_drewN (V.setCell ⟨sb, 2, none⟩ u) 1).cell ?_ (by simp)
  have hG : V.grownBy (V.setCell ⟨sb, 2, none⟩ u) (some sb) := grown_setCell _ _ _
  refine hG.cell hc ?_
  intro e
  have e2 : og = sb := by simpa using e
  rcases h.opn.2 with ⟨hx, _⟩ | ⟨g', cap, cur, hv, _, hh, _⟩
  · cases hx
  · simp only [Value.slice.injEq, Option.some.injEq, Addr.mk.injEq, and_true] at hv
    rw [← hv.1, e2, h.box] at hh
    simp at hh

/-- What is open lies in a row of numbers. -/
theorem open_block {V : World} {B sb N : Nat} {ea : Option Addr} {ec lb : Nat} {W : List (Nat × Nat × Nat)} {O : List Nat} {low : Nat → Nat} {wa : Option Addr} {wc oc og : Nat} (h : SrAt V B sb N ea ec lb W O low wa (some ⟨og, 0, none⟩) wc oc) : ∃ cs, V.heap[og]? = some (.cells cs 3 (0, 0)) := by
  rcases h.opn.2 with ⟨hx, _⟩ | ⟨g', cap, cur, hv, _, hh, _⟩
  · cases hx
  · simp only [Value.slice.injEq, Option.some.injEq, Addr.mk.injEq, and_true] at hv
    rw [hv.1]
    exact ⟨cur, hh⟩

end Go.Proofs.YtjijagnpcmonbaaDoor.J

/-
  digraph: what holds between two steps of a search, in memory.
-/
namespace Go.Proofs.YtjijagnpcmonbaaDoor.J
open Go.RowKit Go.Maps Go.Shelf D

/-- How many nodes were not met. -/
def unmet (N : Nat) (low : Nat → Nat) : Nat := unm N (fun x => decide (low x ≠ 0))
theorem unmet_upd {N t v : Nat} {low : Nat → Nat} (ht : t < N) (h0 : low t = 0) (hv : v ≠ 0) : unmet N (upd low t v) + 1 = unmet N low := by
  have e : (fun x => decide (upd low t v x ≠ 0)) = markT (fun x => decide (low x ≠ 0)) t := by
    funext x
    unfold markT
    by_cases e : x = t
    · subst e; rw [upd_same, if_pos rfl]; simp [hv]
    · rw [upd_other _ _ e, if_neg e]
  unfold unmet
  rw [e]
  exact unm_mark _ t (by simp [h0]) N ht
theorem unmet_same {N : Nat} {low low' : Nat → Nat} (h : ∀ x, low' x = 0 ↔ low x = 0) : unmet N low' = unmet N low := by
  unfold unmet
  congr 1
  funext x
  simp [h x]
theorem unm_anti : ∀ (n : Nat) (f g : Nat → Bool), (∀ x, f x = true → g x = true) → unm n g ≤ unm n f
  | 0, _, _, _ => Nat.le_refl _
  | n + 1, f, g, h => by
    have ih := unm_anti n f g h
    have := h n
    unfold unm
    cases hf : f n <;> cases hg : g n <;> simp_all <;> omega
theorem unmet_anti {N : Nat} {low low' : Nat → Nat} (h : ∀ x, low x ≠ 0 → low' x ≠ 0) : unmet N low' ≤ unmet N low := unm_anti _ _ _ fun x hx => by simpa using h x (by simpa using hx)

/-- Met nodes stay met. -/
def Met (low low' : Nat → Nat) : Prop := ∀ x, low x ≠ 0 → low' x ≠ 0
theorem Met.refl (low : Nat → Nat) : Met low low := fun _ h => h
theorem Met.trans {a b c : Nat → Nat} (h : Met a b) (k : Met b c) : Met a c := fun x hx => k x (h x hx)
theorem Met.upd {low : Nat → Nat} {t v : Nat} (hv : v ≠ 0) : Met low (upd low t v) := fun x hx => by
  by_cases e : x = t
  · rw [e, upd_same]; exact hv
  · rw [upd_other _ _ e]; exact hx
theorem Met.comp {low : Nat → Nat} {cl : Nat} {c : List Nat} (hv : cl ≠ 0) : Met low (lowC low cl c) := fun x hx => by
  unfold lowC
  split
  · exact hv
  · exact hx

/-- What a search tells in the end. -/
def FinTold (I : World → (Nat → Bool) → Prop) (B sb N : Nat) (ea : Option Addr) (ec lb : Nat) (E : Nat → List Nat) (low : Nat → Nat) (e : Ending) (y : World) : Prop := e = .returned (.tuple #[]) ∧ ∃ low' C', SjAt y B sb N ea ec lb E [] low' C' ∧ I y C' ∧ Met low low'

theorem way_le : ∀ fs : List Fr, fs.length ≤ (opens fs).length
  | [] => Nat.le_refl _
  | f :: fs => by
    have := way_le fs
    unfold opens
    simp only [List.length_append, List.length_cons]
    omega

end Go.Proofs.YtjijagnpcmonbaaDoor.J

/-
  digraph: leave, a component.
-/
namespace Go.Proofs.YtjijagnpcmonbaaDoor.J
open Go.RowKit Go.Maps Go.Shelf D

attribute [local go_sem] Oper.semAt_some

set_option maxRecDepth 100000 in
set_option maxHeartbeats 4000000 in
theorem leave_compS (X : World) (B sb N : Nat) (ea : Option Addr) (ec lb : Nat) (W : List (Nat × Nat × Nat)) (O : List Nat) (low : Nat → Nat) (wa oa : Option Addr) (wc oc : Nat) (nd pl gn : Nat) (h : SrAt X B sb N ea ec lb (W ++ [(nd, pl + 1, gn)]) O low wa oa wc oc) (hnd : nd < N) (hlo : pl + 1 ≤ low nd) (hW : W.length ≤ 5864062014805) (hO : pl < O.length) (hON : O.length ≤ 5864062014805) (hlt : ∀ x ∈ O, x < N) (p1 p2 p3 : Nat) (Q : World → Prop)
    (hh : ∀ Y a cap, SKeep B X Y → SrAt Y B sb N ea ec lb W (O.take pl) (lowC low 9223372036854775807 (O.drop pl)) wa oa wc oc → IntsAt Y a (intL (O.drop pl)) → (∀ rb ro, a = some ⟨rb, ro, none⟩ → B ≤ rb ∧ ∃ cs, Y.heap[rb]? = some (.cells cs 3 (0, 0))) → Calls Tryd.prog 20 #[.slice a (O.drop pl).length cap, .pointer (some ⟨p1, 0, none⟩), .pointer (some ⟨p2, 0, none⟩), .pointer (some ⟨p3, 0, none⟩)] Y fun e y => e = .returned (.tuple #[]) ∧ Q y) :
    Calls Tryd.prog 41 #[.pointer (some ⟨sb, 0, none⟩), .agg #[.int .i64 (nd : Int), .int .i64 ((pl : Int) + 1), .int .i64 (gn : Int)], .func (.func 20) #[] #[.pointer (some ⟨p1, 0, none⟩), .pointer (some ⟨p2, 0, none⟩), .pointer (some ⟨p3, 0, none⟩)]] X fun e y => e = .returned (.tuple #[]) ∧ Q y := by
  obtain ⟨Y0, hY0⟩ : ∃ Y, Y = X.alloc (.cells #[.int .i64 (nd : Int), .int .i64 ((pl : Int) + 1), .int .i64 (gn : Int)] 78) := ⟨_, rfl⟩
  have hg0 : X.grownBy Y0 none := by rw [hY0]; exact World.grownBy_alloc _ _ none
  have h0 := h.kept hg0
  have hbx : Y0.heap[X.heap.size]? = some (.cells #[.int .i64 (nd : Int), .int .i64 ((pl : Int) + 1), .int .i64 (gn : Int)] 78 (0, 0)) := by rw [hY0]; exact heap_alloc_last X _
  obtain ⟨wn, hwn⟩ : ∃ x, x = W.length := ⟨_, rfl⟩
  have HWN : Hid (wn = W.length) := hwn
  have hwl : (W ++ [(nd, pl + 1, gn)]).length = wn + 1 := by rw [List.length_append, List.length_singleton, hwn]
  obtain ⟨y0, y1, y2, y3⟩ := h0.cells
  rw [hwl] at y1
  obtain ⟨hcap, g, hwa, _⟩ := h.last
  subst hwa
  rw [← hwn] at hcap hW
  obtain ⟨h1, k1⟩ := h0.popW
  rw [← hwn] at h1 k1
  have hsb : sb ≠ X.heap.size := by have := (Array.getElem?_eq_some_iff.1 h.box).1; omega
  have hgd := grown_drewN (Y0.setCell ⟨sb, 1, none⟩ (.slice (some ⟨g, 0, none⟩) wn wc)) 1
  have hb1 := box_kept (set_ne (x := 1) (v := .slice (some ⟨g, 0, none⟩) wn wc) hbx (fun e => hsb e.symm)) hgd
  have HK1 := show Hid _ from ((SKeep.none_ hg0).trans k1).trans (.none_ hgd)
  have HS1 := show Hid _ from h1.kept hgd
  have HB1 := show Hid _ from hb1
  have y1f := h0.free 1
  have HY0 : Hid (Y0 = X.alloc (.cells #[.int .i64 (nd : Int), .int .i64 ((pl : Int) + 1), .int .i64 (gn : Int)] 78)) := hY0
  rw [hY0] at y0 y1 y2 y3 y1f
  have hc0 : (wn : Int) ≤ (wc : Int) := by omega
  have hw1 : IntKind.i64.wrap ((wn : Int) + 1 - 1) = (wn : Int) := by rw [IntKind.wrap_i64]; omega
  have hw2 : IntKind.i64.wrap (wn : Int) = (wn : Int) := by rw [IntKind.wrap_i64]; omega
  have hw3 : (wn : Int) + 1 - 1 = (wn : Int) := by omega
  have hw0 : (0 : Int) ≤ (wn : Int) := by omega
  have hn0 : (0 : Int) ≤ (nd : Int) := by omega
  have hn1 : (nd : Int) < (N : Int) := by omega
  obtain ⟨ln, hln⟩ : ∃ x, x = low nd := ⟨_, rfl⟩
  have HLN : Hid (ln = low nd) := hln
  rw [← hln] at hlo
  have hld : decide (ln < pl + 1) = false := decide_eq_false (by omega)
  have hld2 : decide ((ln : Int) < (pl : Int) + 1) = false := decide_eq_false (by omega)
  obtain ⟨on, hon⟩ : ∃ x, x = O.length := ⟨_, rfl⟩
  have HON : Hid (on = O.length) := hon
  rw [← hon] at hO hON
  have HH := show Hid _ from hh
  have HLT := show Hid _ from hlt
  have hp1 : IntKind.i64.wrap ((pl : Int) + 1 - 1) = (pl : Int) := by rw [IntKind.wrap_i64]; omega
  have hp2 : IntKind.i64.wrap (pl : Int) = (pl : Int) := by rw [IntKind.wrap_i64]; omega
  have hp3 : (pl : Int) + 1 - 1 = (pl : Int) := by omega
  have hp4 : (0 : Int) ≤ (pl : Int) := by omega
  have hp5 : (pl : Int) ≤ (on : Int) := by omega
  clear hln hon hh hlt
  clear h h0 hg0 hY0 hwn hwl h1 k1 hcap hbx hsb hgd hb1
  go_enter Tryd.func41, Tryd.ntmps41
  go_wp2_with fail
  go_region_law (fail)
  all_goals obtain ⟨S1, hS1⟩ : ∃ S, S = ((X.alloc (.cells #[.int .i64 (nd : Int), .int .i64 ((pl : Int) + 1), .int .i64 (gn : Int)] 78)).setCell ⟨sb, 1, none⟩ (.slice (some ⟨g, 0, none⟩) wn wc)).drew := ⟨_, rfl⟩
  all_goals rw [← hS1]
  all_goals rw [← HY0.out] at hS1
  all_goals have e1 : S1 = World.drewN (Y0.setCell ⟨sb, 1, none⟩ (.slice (some ⟨g, 0, none⟩) wn wc)) 1 := hS1
  all_goals rw [← e1] at HS1 HK1 HB1
  all_goals clear hS1 e1 y0 y1 y2 y3 y1f
  all_goals obtain ⟨z0, z1, z2, z3⟩ := HS1.out.cells
  all_goals rw [← HWN.out] at z1
  all_goals have zl := HS1.out.val.cell nd hnd
  all_goals have v0 : S1.cell? ⟨X.heap.size, 0, none⟩ = some (.int .i64 (nd : Int)) := by rw [cell_of_row _ _ _ _ _ _ HB1.out]; rfl
  all_goals have v1 : S1.cell? ⟨X.heap.size, 1, none⟩ = some (.int .i64 ((pl : Int) + 1)) := by rw [cell_of_row _ _ _ _ _ _ HB1.out]; rfl
  all_goals rw [← HLN.out] at zl
  all_goals rw [← HON.out] at z2
  all_goals obtain ⟨og, hoa, hob, hoc, ⟨ocur, hoh⟩, hocell⟩ := owns_rest (p := pl) (by have := HS1.out.opn; rw [← HON.out] at this; exact this) hO
  all_goals subst hoa
  all_goals have HOB : Hid (B ≤ og) := hob
  all_goals have hp6 : (pl : Int) ≤ (oc : Int) := by omega
  all_goals have hp7 : (on : Int) ≤ (oc : Int) := by omega
  all_goals have hp8 : ¬ pl = oc := by omega
  all_goals have hp9 : ¬ (pl : Int) = (oc : Int) := by omega
  all_goals have HOC := show Hid _ from hocell
  all_goals clear hob hoh hocell
  all_goals go_wp2_with fail
  all_goals go_quiet (fail)
  all_goals have hv1 := grown_drewN S1 nq
  all_goals generalize S1.drewN nq = V1 at hv1 ⊢
  all_goals have HV1 := show Hid _ from hv1
  all_goals replace z2 := hv1.cell z2 (by simp)
  all_goals replace v1 := hv1.cell v1 (by simp)
  all_goals clear hv1
  all_goals go_wp2_with fail
  all_goals go_quiet (fail)
  all_goals have hv2 := grown_drewN V1 nq
  all_goals generalize V1.drewN nq = V2 at hv2 ⊢
  all_goals have HV2 := show Hid _ from grown_trans HV1.out hv2
  all_goals replace z2 := hv2.cell z2 (by simp)
  all_goals replace v1 := hv2.cell v1 (by simp)
  all_goals have z2f := (HS1.out.kept HV2.out).free 2
  all_goals obtain ⟨m, hm⟩ : ∃ m, m = on - pl := ⟨_, rfl⟩
  all_goals have hml : m = (O.drop pl).length := by rw [List.length_drop, ← HON.out]; exact hm
  all_goals have HML : Hid (m = (O.drop pl).length) := hml
  all_goals rw [← hm]
  all_goals obtain ⟨hc1, hc2⟩ := (HS1.out.kept HV2.out).cutO (p := pl) (by rw [← HON.out]; omega)
  all_goals have hgd := grown_drewN (V2.setCell ⟨sb, 2, none⟩ (.slice (some ⟨og, 0, none⟩) pl oc)) 1
  all_goals have HS2 := show Hid _ from hc1.kept hgd
  all_goals have HK2 := show Hid _ from ((HK1.out.trans (.none_ HV2.out)).trans hc2).trans (.none_ hgd)
  all_goals have HOC2 : Hid (∀ i, i < m → (World.drewN (V2.setCell ⟨sb, 2, none⟩ (.slice (some ⟨og, 0, none⟩) pl oc)) 1).cell? ⟨og, pl + i, none⟩ = some (.int .i64 (((O.drop pl).getD i 0 : Nat) : Int))) := fun i hi => open_cell (HS1.out.kept HV2.out) _ (HV2.out.cell (HOC.out i (by rw [← hml]; exact hi)) (by simp))
  all_goals have hsep : og ≠ lb := fun e => HS1.out.sep (by rw [e]; rfl)
  all_goals clear hv2 hm hml hc1 hc2 hgd HOC HV1 HV2 HS1 HK1 HB1
  all_goals go_wp2_with fail
  all_goals go_region_law (fail)
  all_goals obtain ⟨S2, hS2⟩ : ∃ S, S = (V2.setCell ⟨sb, 2, none⟩ (.slice (some ⟨og, 0, none⟩) pl oc)).drew := ⟨_, rfl⟩
  all_goals rw [← hS2]
  all_goals have e2 : S2 = World.drewN (V2.setCell ⟨sb, 2, none⟩ (.slice (some ⟨og, 0, none⟩) pl oc)) 1 := hS2
  all_goals rw [← e2] at HS2 HK2 HOC2
  all_goals clear hS2 e2 z0 z1 z2 z3 zl v0 v1 z2f
  all_goals obtain ⟨c, hc⟩ : ∃ c, c = O.drop pl := ⟨_, rfl⟩
  all_goals have HCL : Hid (∀ x ∈ c, x < N) := fun x hx => HLT.out x (List.mem_of_mem_drop (by rw [← hc]; exact hx))
  all_goals rw [← hc] at HML HOC2 HH
  all_goals obtain ⟨O2, hO2⟩ : ∃ l, l = O.take pl := ⟨_, rfl⟩
  all_goals rw [← hO2] at HS2 HH
  all_goals have hmb : m ≤ 5864062014805 := by have := HML.out; rw [hc, List.length_drop, ← HON.out] at this; omega
  all_goals clear hc hO2 HLT HON
  all_goals go_wp2_with fail
  all_goals go_loopg [55] m (fun gk v55 wr => ∃ (k : Nat), k ≤ m ∧ gk = m - k ∧ v55 = .int .i64 k ∧ SKeep B X wr ∧ SrAt wr B sb N ea ec lb W O2 (lowK low 9223372036854775807 c k) (some ⟨g, 0, none⟩) (some ⟨og, 0, none⟩) wc oc ∧ ∀ i, i < m → wr.cell? ⟨og, pl + i, none⟩ = some (.int .i64 ((c.getD i 0 : Nat) : Int)))
  case atStart => exact ⟨0, Nat.zero_le _, rfl, rfl, HK2.out, HS2.out, HOC2.out⟩
  case atStart => exact ⟨0, Nat.zero_le _, rfl, rfl, HK2.out, HS2.out, HOC2.out⟩
  case atStart => exact ⟨0, Nat.zero_le _, rfl, rfl, HK2.out, HS2.out, HOC2.out⟩
  case atStart => exact ⟨0, Nat.zero_le _, rfl, rfl, HK2.out, HS2.out, HOC2.out⟩
  case round =>
    obtain ⟨k, hk, hgk, rfl, hK, hS, hC⟩ := hrel
    have HGK : Hid (gk = m - k) := hgk
    have HK := show Hid _ from hK
    have HS := show Hid _ from hS
    have HC := show Hid _ from hC
    clear hgk hK hS hC HK2 HS2 HOC2
    by_cases hkm : k < m
    · have hkd : decide (k < m) = true := decide_eq_true hkm
      have hk0 : (0 : Int) ≤ (k : Int) := by omega
      have hk1 : (k : Int) < (m : Int) := by omega
      have hkc : k < c.length := by rw [← HML.out]; exact hkm
      have c0 := HC.out k hkm
      have hcN : c.getD k 0 < N := HCL.out _ (by rw [List.getD_eq_getElem?_getD, List.getElem?_eq_getElem hkc]; exact List.getElem_mem hkc)
      obtain ⟨x, hx⟩ : ∃ x, x = c.getD k 0 := ⟨_, rfl⟩
      have HX : Hid (x = c.getD k 0) := hx
      rw [← hx] at c0 hcN
      have hx0 : (0 : Int) ≤ (x : Int) := by omega
      have hx1 : (x : Int) < (N : Int) := by omega
      obtain ⟨z0, z1, z2, z3⟩ := HS.out.cells
      have zl := HS.out.val.cell x hcN
      have zf := HS.out.val.free x
      obtain ⟨lx, hlx⟩ : ∃ y, y = lowK low 9223372036854775807 c k x := ⟨_, rfl⟩
      rw [← hlx] at zl
      obtain ⟨hL, hLK⟩ := HS.out.setL (t := x) (v := 9223372036854775807)
      have HL := show Hid _ from hL
      have HLK := show Hid _ from HK.out.trans hLK
      have HC2 : Hid (∀ i, i < m → (wr.setCell ⟨lb, x, none⟩ (.int .i64 9223372036854775807)).cell? ⟨og, pl + i, none⟩ = some (.int .i64 ((c.getD i 0 : Nat) : Int))) := fun i hi => by
        have hG : wr.grownBy (wr.setCell ⟨lb, x, none⟩ (.int .i64 9223372036854775807)) (some lb) := grown_setCell _ _ _
        exact hG.cell (HC.out i hi) (by simpa using hsep)
      clear hx hlx hL hLK z0 z1 z2 hkc
      go_wp2_with fail
      go_roundg (m - (k + 1))
      case measure => have := HGK.out; omega
      case rel => exact ⟨k + 1, by omega, rfl, by go_num, HLK.out, by unfold lowK; rw [← HX.out]; exact HL.out, HC2.out⟩
    · have hkm2 : m = k := by omega
      subst hkm2
      have hkd : decide (m < m) = false := decide_eq_false (by omega)
      have HLC : Hid (lowK low 9223372036854775807 c m = lowC low 9223372036854775807 c) := by show _ = _; rw [HML.out]; exact lowK_all _ _ _
      have HIA : Hid (IntsAt wr (some ⟨og, pl, none⟩) (intL c)) := .inr ⟨og, pl, rfl, fun i hi => by rw [intL_at]; exact HC.out i (by rw [intL_length, ← HML.out] at hi; exact hi)⟩
      have HHC : Hid (∀ cp, Calls Tryd.prog 20 #[.slice (some ⟨og, pl, none⟩) m cp, .pointer (some ⟨p1, 0, none⟩), .pointer (some ⟨p2, 0, none⟩), .pointer (some ⟨p3, 0, none⟩)] wr fun e y => e = .returned (.tuple #[]) ∧ Q y) := fun cp => by
        have h1 := HH.out wr (some ⟨og, pl, none⟩) cp HK.out (by rw [← HLC.out]; exact HS.out) HIA.out (fun rb ro e => by cases e; exact ⟨HOB.out, open_block HS.out⟩)
        rw [← HML.out] at h1
        exact h1
      go_wp2_with fail
      refine Calls.mono (HHC.out _) ?_
      rintro e w9 ⟨rfl, hq9⟩
      have HQ9 := show Hid _ from hq9
      clear hq9
      go_wp2_with fail
      refine bodyPost_end (v := .tuple #[]) (by simp [results, Tryd.results41]) rfl ?_
      exact ⟨rfl, HQ9.out⟩
  case round =>
    obtain ⟨k, hk, hgk, rfl, hK, hS, hC⟩ := hrel
    have HGK : Hid (gk = m - k) := hgk
    have HK := show Hid _ from hK
    have HS := show Hid _ from hS
    have HC := show Hid _ from hC
    clear hgk hK hS hC HK2 HS2 HOC2
    by_cases hkm : k < m
    · have hkd : decide (k < m) = true := decide_eq_true hkm
      have hk0 : (0 : Int) ≤ (k : Int) := by omega
      have hk1 : (k : Int) < (m : Int) := by omega
      have hkc : k < c.length := by rw [← HML.out]; exact hkm
      have c0 := HC.out k hkm
      have hcN : c.getD k 0 < N := HCL.out _ (by rw [List.getD_eq_getElem?_getD, List.getElem?_eq_getElem hkc]; exact List.getElem_mem hkc)
      obtain ⟨x, hx⟩ : ∃ x, x = c.getD k 0 := ⟨_, rfl⟩
      have HX : Hid (x = c.getD k 0) := hx
      rw [← hx] at c0 hcN
      have hx0 : (0 : Int) ≤ (x : Int) := by omega
      have hx1 : (x : Int) < (N : Int) := by omega
      obtain ⟨z0, z1, z2, z3⟩ := HS.out.cells
      have zl := HS.out.val.cell x hcN
      have zf := HS.out.val.free x
      obtain ⟨lx, hlx⟩ : ∃ y, y = lowK low 9223372036854775807 c k x := ⟨_, rfl⟩
      rw [← hlx] at zl
      obtain ⟨hL, hLK⟩ := HS.out.setL (t := x) (v := 9223372036854775807)
      have HL := show Hid _ from hL
      have HLK := show Hid _ from HK.out.trans hLK
      have HC2 : Hid (∀ i, i < m → (wr.setCell ⟨lb, x, none⟩ (.int .i64 9223372036854775807)).cell? ⟨og, pl + i, none⟩ = some (.int .i64 ((c.getD i 0 : Nat) : Int))) := fun i hi => by
        have hG : wr.grownBy (wr.setCell ⟨lb, x, none⟩ (.int .i64 9223372036854775807)) (some lb) := grown_setCell _ _ _
        exact hG.cell (HC.out i hi) (by simpa using hsep)
      clear hx hlx hL hLK z0 z1 z2 hkc
      go_wp2_with fail
      go_roundg (m - (k + 1))
      case measure => have := HGK.out; omega
      case rel => exact ⟨k + 1, by omega, rfl, by go_num, HLK.out, by unfold lowK; rw [← HX.out]; exact HL.out, HC2.out⟩
    · have hkm2 : m = k := by omega
      subst hkm2
      have hkd : decide (m < m) = false := decide_eq_false (by omega)
      have HLC : Hid (lowK low 9223372036854775807 c m = lowC low 9223372036854775807 c) := by show _ = _; rw [HML.out]; exact lowK_all _ _ _
      have HIA : Hid (IntsAt wr (some ⟨og, pl, none⟩) (intL c)) := .inr ⟨og, pl, rfl, fun i hi => by rw [intL_at]; exact HC.out i (by rw [intL_length, ← HML.out] at hi; exact hi)⟩
      have HHC : Hid (∀ cp, Calls Tryd.prog 20 #[.slice (some ⟨og, pl, none⟩) m cp, .pointer (some ⟨p1, 0, none⟩), .pointer (some ⟨p2, 0, none⟩), .pointer (some ⟨p3, 0, none⟩)] wr fun e y => e = .returned (.tuple #[]) ∧ Q y) := fun cp => by
        have h1 := HH.out wr (some ⟨og, pl, none⟩) cp HK.out (by rw [← HLC.out]; exact HS.out) HIA.out (fun rb ro e => by cases e; exact ⟨HOB.out, open_block HS.out⟩)
        rw [← HML.out] at h1
        exact h1
      go_wp2_with fail
      refine Calls.mono (HHC.out _) ?_
      rintro e w9 ⟨rfl, hq9⟩
      have HQ9 := show Hid _ from hq9
      clear hq9
      go_wp2_with fail
      refine bodyPost_end (v := .tuple #[]) (by simp [results, Tryd.results41]) rfl ?_
      exact ⟨rfl, HQ9.out⟩
  case round =>
    obtain ⟨k, hk, hgk, rfl, hK, hS, hC⟩ := hrel
    have HGK : Hid (gk = m - k) := hgk
    have HK := show Hid _ from hK
    have HS := show Hid _ from hS
    have HC := show Hid _ from hC
    clear hgk hK hS hC HK2 HS2 HOC2
    by_cases hkm : k < m
    · have hkd : decide (k < m) = true := decide_eq_true hkm
      have hk0 : (0 : Int) ≤ (k : Int) := by omega
      have hk1 : (k : Int) < (m : Int) := by omega
      have hkc : k < c.length := by rw [← HML.out]; exact hkm
      have c0 := HC.out k hkm
      have hcN : c.getD k 0 < N := HCL.out _ (by rw [List.getD_eq_getElem?_getD, List.getElem?_eq_getElem hkc]; exact List.getElem_mem hkc)
      obtain ⟨x, hx⟩ : ∃ x, x = c.getD k 0 := ⟨_, rfl⟩
      have HX : Hid (x = c.getD k 0) := hx
      rw [← hx] at c0 hcN
      have hx0 : (0 : Int) ≤ (x : Int) := by omega
      have hx1 : (x : Int) < (N : Int) := by omega
      obtain ⟨z0, z1, z2, z3⟩ := HS.out.cells
      have zl := HS.out.val.cell x hcN
      have zf := HS.out.val.free x
      obtain ⟨lx, hlx⟩ : ∃ y, y = lowK low 9223372036854775807 c k x := ⟨_, rfl⟩
      rw [← hlx] at zl
      obtain ⟨hL, hLK⟩ := HS.out.setL (t := x) (v := 9223372036854775807)
      have HL := show Hid _ from hL
      have HLK := show Hid _ from HK.out.trans hLK
      have HC2 : Hid (∀ i, i < m → (wr.setCell ⟨lb, x, none⟩ (.int .i64 9223372036854775807)).cell? ⟨og, pl + i, none⟩ = some (.int .i64 ((c.getD i 0 : Nat) : Int))) := fun i hi => by
        have hG : wr.grownBy (wr.setCell ⟨lb, x, none⟩ (.int .i64 9223372036854775807)) (some lb) := grown_setCell _ _ _
        exact hG.cell (HC.out i hi) (by simpa using hsep)
      clear hx hlx hL hLK z0 z1 z2 hkc
      go_wp2_with fail
      go_roundg (m - (k + 1))
      case measure => have := HGK.out; omega
      case rel => exact ⟨k + 1, by omega, rfl, by go_num, HLK.out, by unfold lowK; rw [← HX.out]; exact HL.out, HC2.out⟩
    · have hkm2 : m = k := by omega
      subst hkm2
      have hkd : decide (m < m) = false := decide_eq_false (by omega)
      have HLC : Hid (lowK low 9223372036854775807 c m = lowC low 9223372036854775807 c) := by show _ = _; rw [HML.out]; exact lowK_all _ _ _
      have HIA : Hid (IntsAt wr (some ⟨og, pl, none⟩) (intL c)) := .inr ⟨og, pl, rfl, fun i hi => by rw [intL_at]; exact HC.out i (by rw [intL_length, ← HML.out] at hi; exact hi)⟩
      have HHC : Hid (∀ cp, Calls Tryd.prog 20 #[.slice (some ⟨og, pl, none⟩) m cp, .pointer (some ⟨p1, 0, none⟩), .pointer (some ⟨p2, 0, none⟩), .pointer (some ⟨p3, 0, none⟩)] wr fun e y => e = .returned (.tuple #[]) ∧ Q y) := fun cp => by
        have h1 := HH.out wr (some ⟨og, pl, none⟩) cp HK.out (by rw [← HLC.out]; exact HS.out) HIA.out (fun rb ro e => by cases e; exact ⟨HOB.out, open_block HS.out⟩)
        rw [← HML.out] at h1
        exact h1
      go_wp2_with fail
      refine Calls.mono (HHC.out _) ?_
      rintro e w9 ⟨rfl, hq9⟩
      have HQ9 := show Hid _ from hq9
      clear hq9
      go_wp2_with fail
      refine bodyPost_end (v := .tuple #[]) (by simp [results, Tryd.results41]) rfl ?_
      exact ⟨rfl, HQ9.out⟩
  case round =>
    obtain ⟨k, hk, hgk, rfl, hK, hS, hC⟩ := hrel
    have HGK : Hid (gk = m - k) := hgk
    have HK := show Hid _ from hK
    have HS := show Hid _ from hS
    have HC := show Hid _ from hC
    clear hgk hK hS hC HK2 HS2 HOC2
    by_cases hkm : k < m
    · have hkd : decide (k < m) = true := decide_eq_true hkm
      have hk0 : (0 : Int) ≤ (k : Int) := by omega
      have hk1 : (k : Int) < (m : Int) := by omega
      have hkc : k < c.length := by rw [← HML.out]; exact hkm
      have c0 := HC.out k hkm
      have hcN : c.getD k 0 < N := HCL.out _ (by rw [List.getD_eq_getElem?_getD, List.getElem?_eq_getElem hkc]; exact List.getElem_mem hkc)
      obtain ⟨x, hx⟩ : ∃ x, x = c.getD k 0 := ⟨_, rfl⟩
      have HX : Hid (x = c.getD k 0) := hx
      rw [← hx] at c0 hcN
      have hx0 : (0 : Int) ≤ (x : Int) := by omega
      have hx1 : (x : Int) < (N : Int) := by omega
      obtain ⟨z0, z1, z2, z3⟩ := HS.out.cells
      have zl := HS.out.val.cell x hcN
      have zf := HS.out.val.free x
      obtain ⟨lx, hlx⟩ : ∃ y, y = lowK low 9223372036854775807 c k x := ⟨_, rfl⟩
      rw [← hlx] at zl
      obtain ⟨hL, hLK⟩ := HS.out.setL (t := x) (v := 9223372036854775807)
      have HL := show Hid _ from hL
      have HLK := show Hid _ from HK.out.trans hLK
      have HC2 : Hid (∀ i, i < m → (wr.setCell ⟨lb, x, none⟩ (.int .i64 9223372036854775807)).cell? ⟨og, pl + i, none⟩ = some (.int .i64 ((c.getD i 0 : Nat) : Int))) := fun i hi => by
        have hG : wr.grownBy (wr.setCell ⟨lb, x, none⟩ (.int .i64 9223372036854775807)) (some lb) := grown_setCell _ _ _
        exact hG.cell (HC.out i hi) (by simpa using hsep)
      clear hx hlx hL hLK z0 z1 z2 hkc
      go_wp2_with fail
      go_roundg (m - (k + 1))
      case measure => have := HGK.out; omega
      case rel => exact ⟨k + 1, by omega, rfl, by go_num, HLK.out, by unfold lowK; rw [← HX.out]; exact HL.out, HC2.out⟩
    · have hkm2 : m = k := by omega
      subst hkm2
      have hkd : decide (m < m) = false := decide_eq_false (by omega)
      have HLC : Hid (lowK low 9223372036854775807 c m = lowC low 9223372036854775807 c) := by show _ = _; rw [HML.out]; exact lowK_all _ _ _
      have HIA : Hid (IntsAt wr (some ⟨og, pl, none⟩) (intL c)) := .inr ⟨og, pl, rfl, fun i hi => by rw [intL_at]; exact HC.out i (by rw [intL_length, ← HML.out] at hi; exact hi)⟩
      have HHC : Hid (∀ cp, Calls Tryd.prog 20 #[.slice (some ⟨og, pl, none⟩) m cp, .pointer (some ⟨p1, 0, none⟩), .pointer (some ⟨p2, 0, none⟩), .pointer (some ⟨p3, 0, none⟩)] wr fun e y => e = .returned (.tuple #[]) ∧ Q y) := fun cp => by
        have h1 := HH.out wr (some ⟨og, pl, none⟩) cp HK.out (by rw [← HLC.out]; exact HS.out) HIA.out (fun rb ro e => by cases e; exact ⟨HOB.out, open_block HS.out⟩)
        rw [← HML.out] at h1
        exact h1
      go_wp2_with fail
      refine Calls.mono (HHC.out _) ?_
      rintro e w9 ⟨rfl, hq9⟩
      have HQ9 := show Hid _ from hq9
      clear hq9
      go_wp2_with fail
      refine bodyPost_end (v := .tuple #[]) (by simp [results, Tryd.results41]) rfl ?_
      exact ⟨rfl, HQ9.out⟩

end Go.Proofs.YtjijagnpcmonbaaDoor.J

/-
  digraph: finish.
-/
namespace Go.Proofs.YtjijagnpcmonbaaDoor.J
open Go.RowKit Go.Maps Go.Shelf D

attribute [local go_sem] Oper.semAt_some

set_option maxRecDepth 100000 in
set_option maxHeartbeats 4000000 in
theorem finish_anyS (I : World → (Nat → Bool) → Prop) (B sb N : Nat) (ea : Option Addr) (ec lb : Nat) (E : Nat → List Nat) (ua : Nat → Option Addr) (uc : Nat → Nat) (p1 p2 p3 : Nat) (hN : N ≤ 5864062014805) (hE : ∀ x, x < N → ∀ y ∈ E x, y < N) (hEl : ∀ x, x < N → (E x).length ≤ 17592186044416)
    (hst : ∀ X Y C, I X C → SKeep B X Y → I Y C) (hed : ∀ X C, I X C → LsAt X ea N (fun i => intL (E i)) ua uc)
    (hh : ∀ X C c a cap, I X C → CompP N E C c → IntsAt X a (intL c) → (∀ rb ro, a = some ⟨rb, ro, none⟩ → B ≤ rb ∧ ∃ cs, X.heap[rb]? = some (.cells cs 3 (0, 0))) → Calls Tryd.prog 20 #[.slice a c.length cap, .pointer (some ⟨p1, 0, none⟩), .pointer (some ⟨p2, 0, none⟩), .pointer (some ⟨p3, 0, none⟩)] X fun e y => e = .returned (.tuple #[]) ∧ I y (addC C c) ∧ HKeep B X y)
    (X : World) (fs : List Fr) (low : Nat → Nat) (C : Nat → Bool) (hS : SjAt X B sb N ea ec lb E fs low C) (hI : I X C) :
    Calls Tryd.prog 30 #[.pointer (some ⟨sb, 0, none⟩), .func (.func 20) #[] #[.pointer (some ⟨p1, 0, none⟩), .pointer (some ⟨p2, 0, none⟩), .pointer (some ⟨p3, 0, none⟩)]] X fun e y => FinTold I B sb N ea ec lb E low e y := by
  have HE := show Hid _ from hE
  have HEL := show Hid _ from hEl
  have HST := show Hid _ from hst
  have HED := show Hid _ from hed
  have HH := show Hid _ from hh
  have HS := show Hid _ from hS
  have HI := show Hid _ from hI
  clear hE hEl hst hed hh hS hI
  go_enter Tryd.func30, Tryd.ntmps30
  go_wp2_with fail
  go_step3
  go_wp2_with fail
  try go_step3
  go_wp2_with fail
  go_loopg [] (unmet N low * 2 + fs.length) (fun gk wr => ∃ (fs' : List Fr) (low' : Nat → Nat) (C' : Nat → Bool), gk = unmet N low' * 2 + fs'.length ∧ SjAt wr B sb N ea ec lb E fs' low' C' ∧ I wr C' ∧ Met low low')
  case atStart => exact ⟨fs, low, C, rfl, HS.out, HI.out, .refl _⟩
  case round =>
    clear HS HI
    obtain ⟨fs1, low1, C1, hgk, hS, hI, hM⟩ := hrel
    have HGK : Hid (gk = unmet N low1 * 2 + fs1.length) := hgk
    have HM : Hid (Met low low1) := hM
    have HI := show Hid _ from hI
    obtain ⟨hT, wa, oa, wc, oc, hR⟩ := hS
    have HT := show Hid _ from hT
    have HR := show Hid _ from hR
    clear hgk hI hM hT hR
    obtain ⟨z0, z1, z2, z3⟩ := HR.out.cells
    cases fs1 with
    | nil =>
      have HS0 : Hid (SjAt wr B sb N ea ec lb E [] low1 C1) := ⟨HT.out, wa, oa, wc, oc, HR.out⟩
      have e0 : (wayL []).length = 0 := rfl
      rw [e0] at z1
      clear HT HR e0
      go_wp2_with fail
      first | rw [Exit.noGoto_normal] | rw [Exit.noGoto] | skip
      refine bodyPost_end (v := .tuple #[]) (by simp [results, Tryd.results30]) rfl ?_
      exact ⟨rfl, low1, C1, HS0.out, HI.out, HM.out⟩
    | cons f fs2 =>
      obtain ⟨nd, hnd⟩ : ∃ x, x = f.node := ⟨_, rfl⟩
      obtain ⟨pl, hpl⟩ : ∃ x, x = (opens fs2).length := ⟨_, rfl⟩
      obtain ⟨wn, hwn⟩ : ∃ x, x = (wayL fs2).length := ⟨_, rfl⟩
      obtain ⟨el, hel⟩ : ∃ x, x = (E nd).length := ⟨_, rfl⟩
      have hR1 : SrAt wr B sb N ea ec lb (wayL fs2 ++ [(nd, pl + 1, f.gone)]) (opens (f :: fs2)) low1 wa oa wc oc := by rw [hnd, hpl]; exact HR.out
      obtain ⟨hcap, g, hwa, _⟩ := hR1.last
      subst hwa
      have HR1 := show Hid _ from hR1
      have HND : Hid (nd = f.node) := hnd
      have HPL : Hid (pl = (opens fs2).length) := hpl
      have HWN : Hid (wn = (wayL fs2).length) := hwn
      have HEL2 : Hid (el = (E nd).length) := hel
      have hzl : (wayL (f :: fs2)).length = wn + 1 := by rw [wayL_length, hwn, wayL_length]; rfl
      have hndN : nd < N := by rw [hnd]; exact (HT.out.ocl _ (node_open (List.mem_cons_self ..))).2
      have hwnb : wn ≤ 5864062014805 := by
        have h1 := way_le fs2
        have h2 := HT.out.len
        have h3 : (opens (f :: fs2)).length = (opens fs2).length + (f.node :: f.rest).length := by show (opens fs2 ++ (f.node :: f.rest)).length = _; rw [List.length_append]
        rw [hwn, wayL_length]
        omega
      have helb : el ≤ 17592186044416 := by rw [hel]; exact HEL.out nd hndN
      rw [hzl] at z1
      rw [← hwn] at hcap
      have hw0 : (0 : Int) ≤ (wn : Int) := by omega
      have hw1 : IntKind.i64.wrap ((wn : Int) + 1 - 1) = (wn : Int) := by rw [IntKind.wrap_i64]; omega
      have hw2 : IntKind.i64.wrap (wn : Int) = (wn : Int) := by rw [IntKind.wrap_i64]; omega
      have hw3 : (wn : Int) + 1 - 1 = (wn : Int) := by omega
      have hw4 : (wn : Int) < (wn : Int) + 1 := by omega
      have hw5 : decide ((0 : Int) < (wn : Int) + 1) = true := decide_eq_true (by omega)
      have hw6 : decide (0 < wn + 1) = true := decide_eq_true (by omega)
      have HT1 : Hid (TjP N E 9223372036854775807 (⟨f.node, f.gone, f.rest⟩ :: fs2) low1 C1) := HT.out
      have hgl := HT.out.loc.1
      rw [← hnd, ← hel] at hgl
      clear hnd hpl hwn hel hR1 HR hzl hcap
      go_wp2_with fail
      go_quiet (fail)
      have hv1 := grown_drewN wr nq
      generalize wr.drewN nq = V1 at hv1 ⊢
      have HR2 := show Hid _ from HR1.out.kept hv1
      have HI2 := show Hid _ from HST.out _ _ _ HI.out (.none_ hv1)
      obtain ⟨gn0, hgn0⟩ : ∃ x, x = f.gone := ⟨_, rfl⟩
      rw [← hgn0] at HR2 HT1 hgl
      clear hv1 z0 z1 z2 z3 HR1 HI HT hgn0
      go_wp2_with fail
      go_loopg [] (el - gn0) (fun gk wr => ∃ (gn : Nat) (low2 : Nat → Nat), gn ≤ el ∧ gk = el - gn ∧ TjP N E 9223372036854775807 (⟨f.node, gn, f.rest⟩ :: fs2) low2 C1 ∧ SrAt wr B sb N ea ec lb (wayL fs2 ++ [(nd, pl + 1, gn)]) (opens (f :: fs2)) low2 (some ⟨g, 0, none⟩) oa wc oc ∧ I wr C1 ∧ Met low low2 ∧ unmet N low2 = unmet N low1)
      case atStart => exact ⟨gn0, low1, hgl, rfl, HT1.out, HR2.out, HI2.out, HM.out, rfl⟩
      case round =>
        clear HT1 HR2 HI2 HM
        obtain ⟨gn, low2, hgn, hgk, hT, hR, hI, hM, hU⟩ := hrel
        have HGK2 : Hid (gk = el - gn) := hgk
        have HT := show Hid _ from hT
        have HR := show Hid _ from hR
        have HI := show Hid _ from hI
        have HM : Hid (Met low low2) := hM
        have HU := show Hid _ from hU
        clear hgk hT hR hI hM hU
        generalize wr = Y at *
        obtain ⟨z0, z1, z2, z3⟩ := HR.out.cells
        obtain ⟨_, g', hg', v0, v1, v2, vf, _⟩ := HR.out.last
        have e1 : g' = g := by simpa using hg'.symm
        subst e1
        rw [← HWN.out] at v0 v1 v2 vf
        obtain ⟨kb, hkb, hke, hkI⟩ : ∃ kb, ea = some ⟨kb, 0, none⟩ ∧ Y.cell? ⟨kb, nd, none⟩ = some (.slice (ua nd) el (uc nd)) ∧ IntsAt Y (ua nd) (intL (E nd)) := by
          obtain ⟨h1, h2⟩ := HED.out Y C1 HI.out
          rcases h1 with h1 | ⟨kb, e, h1⟩
          · omega
          · refine ⟨kb, e, ?_, h2 nd hndN⟩
            have h3 := h1 nd hndN
            rw [intL_length, ← HEL2.out] at h3
            exact h3
        subst hkb
        have hn0 : (0 : Int) ≤ (nd : Int) := by omega
        have hn1 : (nd : Int) < (N : Int) := by omega
        by_cases hgl2 : gn < el
        · have hgd : decide (gn < el) = true := decide_eq_true hgl2
          have hg0 : (0 : Int) ≤ (gn : Int) := by omega
          have hg1 : (gn : Int) < (el : Int) := by omega
          have hgE : gn < (E nd).length := by rw [← HEL2.out]; exact hgl2
          obtain ⟨t, ht⟩ : ∃ t, t = (E nd).getD gn 0 := ⟨_, rfl⟩
          have htE : (E nd)[gn]? = some t := by rw [List.getElem?_eq_getElem hgE, ht, List.getD_eq_getElem?_getD, List.getElem?_eq_getElem hgE]; rfl
          have htN : t < N := HE.out nd hndN t (List.mem_of_getElem? htE)
          have HTE : Hid ((E f.node)[gn]? = some t) := by rw [← HND.out]; exact htE
          obtain ⟨rb, ro, hrb, r0⟩ : ∃ rb ro, ua nd = some ⟨rb, ro, none⟩ ∧ Y.cell? ⟨rb, ro + gn, none⟩ = some (.int .i64 (t : Int)) := by
            rcases hkI with h | ⟨rb, ro, e, h⟩
            · have := intL_length (E nd); rw [h] at this; simp at this; omega
            · refine ⟨rb, ro, e, ?_⟩
              have h2 := h gn (by rw [intL_length]; exact hgE)
              rw [intL_at, ← ht] at h2
              exact h2
          obtain ⟨ucn, hucn⟩ : ∃ x, x = uc nd := ⟨_, rfl⟩
          rw [hrb, ← hucn] at hke
          have ht0 : (0 : Int) ≤ (t : Int) := by omega
          have ht1 : (t : Int) < (N : Int) := by omega
          have zl := HR.out.val.cell t htN
          clear ht htE hkI hrb hucn hgE z1 z2
          go_wp2_with fail
          go_quiet (fail)
          have hv1 := grown_drewN Y nq
          generalize Y.drewN nq = V2 at hv1 ⊢
          have HV2 : Hid (Y.grownBy V2 none) := hv1
          replace v0 := hv1.cell v0 (by simp)
          replace v2 := hv1.cell v2 (by simp)
          replace z0 := hv1.cell z0 (by simp)
          replace hke := hv1.cell hke (by simp)
          replace r0 := hv1.cell r0 (by simp)
          clear hv1
          go_wp2_with fail
          go_quiet (fail)
          have hv3 := grown_drewN V2 nq
          generalize V2.drewN nq = V3 at hv3 ⊢
          have HV3 : Hid (Y.grownBy V3 none) := grown_trans HV2.out hv3
          have HR3 := show Hid _ from HR.out.kept HV3.out
          have HI3 := show Hid _ from HST.out _ _ _ HI.out (.none_ HV3.out)
          replace v0 := hv3.cell v0 (by simp)
          replace v2 := hv3.cell v2 (by simp)
          replace z3 := HV3.out.cell z3 (by simp)
          replace zl := HV3.out.cell zl (by simp)
          clear hv3 HV2 HV3 HR HI hke r0 z0 v1
          obtain ⟨lt, hlt⟩ : ∃ x, x = low2 t := ⟨_, rfl⟩
          have HLT : Hid (lt = low2 t) := hlt
          rw [← hlt] at zl
          clear hlt
          by_cases hl0 : lt = 0
          · have hl1 : ((lt : Int) == 0) = true := by rw [hl0]; rfl
            have hl2 : (lt == 0) = true := by rw [hl0]; rfl
            have hlen := HT.out.len
            have h0 : low2 t = 0 := by rw [← HLT.out]; exact hl0
            have HTN : Hid (TjP N E 9223372036854775807 (⟨t, 0, []⟩ :: ⟨f.node, gn, f.rest⟩ :: fs2) (upd low2 t ((opens (f :: fs2)).length + 1)) C1) := HT.out.enter htN h0 HTE.out
            have HEC := show Hid _ from enter_any V3 B sb N _ ec lb (wayL fs2 ++ [(nd, pl + 1, gn)]) (opens (f :: fs2)) low2 _ oa wc oc HR3.out t htN hN hlen (by
              rw [List.length_append, List.length_singleton, wayL_length]
              have h1 := way_le (f :: fs2)
              have h2 : (f :: fs2).length = fs2.length + 1 := rfl
              have h3 : (opens (f :: fs2)).length ≤ N := hlen
              omega)
            have HUN : Hid (unmet N (upd low2 t ((opens (f :: fs2)).length + 1)) + 1 = unmet N low2) := unmet_upd htN h0 (by omega)
            have HMN : Hid (Met low (upd low2 t ((opens (f :: fs2)).length + 1))) := Met.trans HM.out (Met.upd (by omega))
            clear hl0 hlen h0
            go_wp2_with fail
            refine Calls.mono HEC.out ?_
            rintro e y ⟨rfl, hk, wa5, oa5, wc5, oc5, hr⟩
            have HK5 := show Hid _ from hk
            have HR5 := show Hid _ from hr
            clear hk hr HEC
            go_wp2_with fail
            go_roundg (unmet N (upd low2 t ((opens (f :: fs2)).length + 1)) * 2 + ((f :: fs2).length + 1))
            case measure =>
              have h1 := HGK.out
              have h2 := HU.out
              have h3 := HUN.out
              omega
            case rel =>
              refine ⟨⟨t, 0, []⟩ :: ⟨f.node, gn, f.rest⟩ :: fs2, _, C1, rfl, ⟨HTN.out, wa5, oa5, wc5, oc5, ?_⟩, HST.out _ _ _ HI3.out HK5.out, HMN.out⟩
              have h1 := HR5.out
              rw [HND.out, HPL.out] at h1
              exact h1
          · have hl1 : ((lt : Int) == 0) = false := beq_eq_false_iff_ne.2 (by omega)
            have hl2 : (lt == 0) = false := beq_eq_false_iff_ne.2 hl0
            have h0 : low2 t ≠ 0 := by rw [← HLT.out]; exact hl0
            obtain ⟨mn, hmn⟩ : ∃ x, x = min (low2 nd) lt := ⟨_, rfl⟩
            have HTN : Hid (TjP N E 9223372036854775807 (⟨f.node, gn + 1, f.rest⟩ :: fs2) (upd low2 nd mn) C1) := by
              have h1 := HT.out.go (by omega) htN h0 HTE.out
              rw [hmn, HLT.out, HND.out]
              exact h1
            obtain ⟨ln, hln⟩ : ∃ x, x = low2 nd := ⟨_, rfl⟩
            have hnz : low2 nd ≠ 0 := (HT.out.met nd hndN).2 (.inl (by rw [HND.out]; exact node_open (f := ⟨f.node, gn, f.rest⟩) (List.mem_cons_self ..)))
            have hmz : mn ≠ 0 := by rw [hmn, HLT.out]; omega
            have HMN : Hid (Met low (upd low2 nd mn)) := Met.trans HM.out (Met.upd hmz)
            have HUN : Hid (unmet N (upd low2 nd mn) = unmet N low1) := by
              rw [← HU.out]
              exact unmet_same fun x => by
                by_cases e : x = nd
                · subst e; rw [upd_same]; omega
                · rw [upd_other _ _ e]
            have hmi : min (ln : Int) (lt : Int) = (mn : Int) := by rw [hmn, hln]; omega
            have zn := HR3.out.val.cell nd hndN
            have zf := HR3.out.val.free nd
            rw [← hln] at zn
            obtain ⟨h6, k6⟩ := HR3.out.setL (t := nd) (v := mn)
            have HR6 := show Hid _ from h6
            have HK6 := show Hid _ from k6
            clear h6 k6 hl0 h0 hmn hln hnz hmz
            have y3 := fun s : WBox (fun x => V3.grownBy x none) => s.ok.cell z3 (by simp)
            have yv := fun s : WBox (fun x => V3.grownBy x none) => s.ok.cell v0 (by simp)
            have yn := fun s : WBox (fun x => V3.grownBy x none) => s.ok.cell zn (by simp)
            have yt := fun s : WBox (fun x => V3.grownBy x none) => s.ok.cell zl (by simp)
            haveI hne : Nonempty (WBox (fun x => V3.grownBy x none)) := ⟨⟨_, grown_refl _ _⟩⟩
            go_wp2_with fail
            refine wp_region_last (C := fun w' => ∃ s : WBox (fun x => V3.grownBy x none), w' = s.w) (by kernel_rfl) rfl (by kernel_rfl) ⟨⟨_, grown_drewN V3 1⟩, rfl⟩ ?_
            simp only [List.dropLast]
            repeat (go_big_quiet_step (fail))
            refine wpQuiet_nil ?_
            rintro _ ⟨s, rfl⟩
            have HR4 := show Hid _ from HR3.out.kept s.ok
            have HI4 := show Hid _ from HST.out _ _ _ HI3.out (.none_ s.ok)
            generalize s.w = V4 at HR4 HI4 ⊢
            clear y3 yv yn yt hne HR6 HK6 HR3 HI3 z3 v0 v2 zl zn zf
            have zn := HR4.out.val.cell nd hndN
            have zf := HR4.out.val.free nd
            obtain ⟨h6, k6⟩ := HR4.out.setL (t := nd) (v := mn)
            obtain ⟨_, g6, hg6, _, _, w2, wf, _⟩ := h6.last
            have e6 : g6 = g' := by simpa using hg6.symm
            subst e6
            rw [← HWN.out] at w2 wf
            obtain ⟨h7, k7⟩ := h6.setG (k := gn + 1)
            rw [← HWN.out] at h7 k7
            have e7 : ((gn + 1 : Nat) : Int) = (gn : Int) + 1 := by omega
            rw [e7] at h7 k7
            have HR7 := show Hid _ from h7
            have HI7 := show Hid _ from HST.out _ _ _ (HST.out _ _ _ HI4.out k6) k7
            have hgw : IntKind.i64.wrap ((gn : Int) + 1) = (gn : Int) + 1 := by rw [IntKind.wrap_i64]; omega
            obtain ⟨lz, hlz⟩ : ∃ x, x = low2 nd := ⟨_, rfl⟩
            rw [← hlz] at zn
            clear h6 k6 hg6 h7 k7 e7 hlz
            go_wp2_with fail
            go_roundg (el - (gn + 1))
            case measure => have := HGK2.out; omega
            case rel => exact ⟨gn + 1, _, by omega, rfl, HTN.out, HR7.out, HI7.out, HMN.out, HUN.out⟩
        · have hge : el = gn := by omega
          subst hge
          have hgd : decide (el < el) = false := decide_eq_false (by omega)
          clear z1 z2 z3
          go_wp2_with fail
          go_quiet (fail)
          have hv1 := grown_drewN Y nq
          generalize Y.drewN nq = V2 at hv1 ⊢
          replace v0 := hv1.cell v0 (by simp)
          replace v1 := hv1.cell v1 (by simp)
          replace v2 := hv1.cell v2 (by simp)
          have HR3 := show Hid _ from HR.out.kept hv1
          have HI3 := show Hid _ from HST.out _ _ _ HI.out (.none_ hv1)
          clear hv1 HR HI z0
          by_cases hlo : low2 nd < pl + 1
          · have HLC := show Hid _ from leave_low V2 B sb N _ ec lb (wayL fs2) (opens (f :: fs2)) low2 _ oa wc oc nd (pl + 1) el HR3.out hndN hlo (by rw [← HWN.out]; exact hwnb) (.func (.func 20) #[] #[.pointer (some ⟨p1, 0, none⟩), .pointer (some ⟨p2, 0, none⟩), .pointer (some ⟨p3, 0, none⟩)])
            have e5 : ((pl + 1 : Nat) : Int) = (pl : Int) + 1 := by omega
            rw [e5] at HLC
            clear e5
            go_wp2_with fail
            refine Calls.mono HLC.out ?_
            rintro e y ⟨rfl, hk, hr⟩
            have HK4 := show Hid _ from hk
            have HR4 := show Hid _ from hr
            clear hk hr HLC
            go_wp2_with fail
            cases fs2 with
            | nil =>
              exfalso
              obtain ⟨j, hj⟩ := List.mem_iff_getElem?.1 (node_open (fs := [⟨f.node, el, f.rest⟩]) (f := ⟨f.node, el, f.rest⟩) (List.mem_cons_self ..))
              have h1 := (HT.out.plc j _ hj).1
              have h2 := HPL.out
              rw [HND.out] at hlo
              have h3 : (opens []).length = 0 := rfl
              have h4 : 1 ≤ low2 f.node := h1
              omega
            | cons h hs =>
              go_roundg (unmet N low2 * 2 + (h :: hs).length)
              case measure =>
                have h1 := HGK.out
                have h2 := HU.out
                simp only [List.length_cons] at h1 ⊢
                omega
              case rel =>
                have hT4 := HT.out.leave (by show el = (E f.node).length; rw [← HND.out]; exact HEL2.out) (by show low2 f.node < _; rw [← HND.out, ← HPL.out]; exact hlo)
                have e1 : opens (⟨h.node, h.gone, h.rest ++ (f.node :: f.rest)⟩ :: hs) = opens (f :: h :: hs) := by
                  show opens hs ++ (h.node :: (h.rest ++ (f.node :: f.rest))) = (opens hs ++ (h.node :: h.rest)) ++ (f.node :: f.rest)
                  simp
                have hR6 := HR4.out
                rw [← e1] at hR6
                exact ⟨⟨h.node, h.gone, h.rest ++ (f.node :: f.rest)⟩ :: hs, low2, C1, rfl, ⟨hT4, _, _, _, _, hR6⟩, HST.out _ _ _ HI3.out HK4.out, HM.out⟩
          · have hO1 : opens (f :: fs2) = opens fs2 ++ (f.node :: f.rest) := rfl
            have hOd : (opens (f :: fs2)).drop pl = f.node :: f.rest := by rw [hO1, HPL.out, List.drop_left]
            have hOt : (opens (f :: fs2)).take pl = opens fs2 := by rw [hO1, HPL.out, List.take_left]
            obtain ⟨hCP, hTC⟩ := HT.out.comp (by omega) HE.out (by show el = (E f.node).length; rw [← HND.out]; exact HEL2.out) (by show _ ≤ low2 f.node; rw [← HND.out, ← HPL.out]; omega)
            have hlen := HT.out.len
            have HLC := show Hid _ from leave_compS V2 B sb N _ ec lb (wayL fs2) (opens (f :: fs2)) low2 _ oa wc oc nd pl el HR3.out hndN (by omega) (by rw [← HWN.out]; exact hwnb) (by rw [hO1, List.length_append, ← HPL.out]; simp) (Nat.le_trans hlen hN) (fun x hx => (HT.out.ocl x hx).2) p1 p2 p3 (fun y => I y (addC C1 (f.node :: f.rest)) ∧ SjAt y B sb N (some ⟨kb, 0, none⟩) ec lb E fs2 (lowC low2 9223372036854775807 (f.node :: f.rest)) (addC C1 (f.node :: f.rest))) (fun Y' a' cap' hk hr hi hab => by
              rw [hOd] at hr hi ⊢
              rw [hOt] at hr
              refine (HH.out Y' C1 (f.node :: f.rest) a' cap' (HST.out _ _ _ HI3.out hk) hCP hi hab).mono ?_
              rintro e y ⟨h1, h2, h3⟩
              exact ⟨h1, h2, hTC, _, _, _, _, hr.hand h3⟩)
            have HMC : Hid (Met low (lowC low2 9223372036854775807 (f.node :: f.rest))) := Met.trans HM.out (Met.comp (by decide))
            have HUC : Hid (unmet N (lowC low2 9223372036854775807 (f.node :: f.rest)) ≤ unmet N low2) := unmet_anti (Met.comp (by decide))
            clear hO1 hOd hOt hCP hTC hlen
            go_wp2_with fail
            refine Calls.mono HLC.out ?_
            rintro e y ⟨rfl, hi4, hs4⟩
            have HI4 := show Hid _ from hi4
            have HS4 := show Hid _ from hs4
            clear hi4 hs4 HLC
            go_wp2_with fail
            go_roundg (unmet N (lowC low2 9223372036854775807 (f.node :: f.rest)) * 2 + fs2.length)
            case measure =>
              have h1 := HGK.out
              have h2 := HU.out
              have h3 := HUC.out
              simp only [List.length_cons] at h1
              omega
            case rel => exact ⟨fs2, _, _, rfl, HS4.out, HI4.out, HMC.out⟩

end Go.Proofs.YtjijagnpcmonbaaDoor.J
