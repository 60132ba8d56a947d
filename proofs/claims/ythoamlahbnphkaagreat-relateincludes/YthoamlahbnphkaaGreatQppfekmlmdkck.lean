import Derived.Test.YthoamlahbnphkaaGreatQkgoafjahhiao
import Derived.Test.YthoamlahbnphkaaGreatQjebinlfibgnd
import Derived.Deep.RegionLaw
import Derived.Deep.AppendLies

/-
  lr0: the maker in memory.
-/
namespace Go.Proofs.YthoamlahbnphkaaGreat.J
open Go.RowKit Go.Maps Go.Shelf

/-- The states whose kernels begin with x. -/
def begI (ks : List (List It)) (x : It) : List Nat := (List.range ks.length).filter fun i => (ks.getD i []).head? == some x
theorem mem_begI {ks : List (List It)} {x : It} {i : Nat} : i ∈ begI ks x ↔ i < ks.length ∧ (ks.getD i []).head? = some x := by
  unfold begI
  rw [List.mem_filter, List.mem_range, beq_iff_eq]
theorem begI_nil (x : It) : begI [] x = [] := rfl
theorem begI_len (ks : List (List It)) (x : It) : (begI ks x).length ≤ ks.length := by
  unfold begI
  exact Nat.le_trans (List.length_filter_le _ _) (by rw [List.length_range]; exact Nat.le_refl _)
theorem begI_snoc (ks : List (List It)) (k : List It) (x : It) : begI (ks ++ [k]) x = begI ks x ++ (if k.head? = some x then [ks.length] else []) := by
  unfold begI
  rw [List.length_append, List.length_singleton, List.range_succ, List.filter_append]
  congr 1
  · refine List.filter_congr fun i hi => ?_
    rw [getD_snoc_old (List.mem_range.1 hi)]
  · by_cases h : k.head? = some x
    · rw [if_pos h, List.filter_cons, getD_snoc_new, h]; simp
    · rw [if_neg h, List.filter_cons, getD_snoc_new, if_neg (by rw [beq_iff_eq]; exact h)]; rfl

def natV (l : List Nat) : List Value := l.map fun (i : Nat) => Value.int .i64 (i : Int)
theorem natV_append (l m : List Nat) : natV (l ++ m) = natV l ++ natV m := by unfold natV; rw [List.map_append]
theorem natV_at (l : List Nat) (i : Nat) (hi : i < l.length) : (natV l)[i]? = some (.int .i64 ((l.getD i 0 : Nat) : Int)) := by
  unfold natV
  rw [List.getElem?_map, List.getElem?_eq_getElem hi, List.getD_eq_getElem?_getD, List.getElem?_eq_getElem hi]; rfl
/-- States, as cells. -/
def stV (kv ev : Nat → Value) : Nat → List Value
  | 0 => []
  | N + 1 => stV kv ev N ++ [kv N, ev N]
theorem stV_congr {kv ev kv' ev' : Nat → Value} : ∀ (N : Nat), (∀ i, i < N → kv i = kv' i ∧ ev i = ev' i) → stV kv ev N = stV kv' ev' N
  | 0, _ => rfl
  | N + 1, h => by
    unfold stV
    rw [stV_congr N (fun i hi => h i (by omega)), (h N (by omega)).1, (h N (by omega)).2]
theorem stV_len (kv ev : Nat → Value) : ∀ N, (stV kv ev N).length = N * 2
  | 0 => rfl
  | N + 1 => by unfold stV; rw [List.length_append, stV_len kv ev N]; simp; omega
theorem stV_at (kv ev : Nat → Value) : ∀ (N i : Nat), i < N → (stV kv ev N)[i * 2]? = some (kv i) ∧ (stV kv ev N)[i * 2 + 1]? = some (ev i)
  | 0, i, h => absurd h (Nat.not_lt_zero _)
  | N + 1, i, h => by
    unfold stV
    have hl := stV_len kv ev N
    by_cases e : i < N
    · rw [List.getElem?_append_left (by omega), List.getElem?_append_left (by omega)]
      exact stV_at kv ev N i e
    · have : i = N := by omega
      subst this
      rw [List.getElem?_append_right (by omega), List.getElem?_append_right (by omega), hl, Nat.sub_self, show i * 2 + 1 - i * 2 = 1 by omega]
      exact ⟨rfl, rfl⟩
theorem stV_set (kv ev : Nat → Value) (v : Value) : ∀ (N i : Nat), i < N → (stV kv ev N).set (i * 2 + 1) v = stV kv (updL ev i v) N
  | 0, i, h => absurd h (Nat.not_lt_zero _)
  | N + 1, i, h => by
    unfold stV
    have hl := stV_len kv ev N
    by_cases e : i < N
    · rw [List.set_append_left _ _ (by omega), stV_set kv ev v N i e, updL_other _ _ (by omega : N ≠ i)]
    · have : i = N := by omega
      subst this
      rw [List.set_append_right _ _ (by omega), hl, show i * 2 + 1 - i * 2 = 1 by omega, updL_same, stV_congr (kv' := kv) (ev' := updL ev i v) i (fun j hj => ⟨rfl, (updL_other _ _ (by omega)).symm⟩)]
      rfl

/-- Blocks of cells of other types than the maker's own stay. -/
structure KeepT (X Y : World) : Prop where
  os : Y.os = X.os
  tape : Y.tape = X.tape
  output : Y.output = X.output
  size : X.heap.size ≤ Y.heap.size
  block : ∀ (b : Nat) (cs : Array Value) (e : TypeId) (h : Nat × Nat), e ≠ 134 → e ≠ 67 → e ≠ 3 → X.heap[b]? = some (.cells cs e h) → Y.heap[b]? = some (.cells cs e h)
theorem KeepT.refl (X : World) : KeepT X X := ⟨rfl, rfl, rfl, Nat.le_refl _, fun _ _ _ _ _ _ _ h => h⟩
theorem KeepT.trans {X Y Z : World} (h : KeepT X Y) (k : KeepT Y Z) : KeepT X Z := ⟨k.os.trans h.os, k.tape.trans h.tape, k.output.trans h.output, Nat.le_trans h.size k.size, fun b cs e hh h1 h2 h3 h4 => k.block b cs e hh h1 h2 h3 (h.block b cs e hh h1 h2 h3 h4)⟩
theorem KeepT.none {X Y : World} (h : X.grownBy Y none) : KeepT X Y := ⟨h.os, h.tape, h.output, h.size, fun _ _ _ _ _ _ _ h4 => box_kept h4 h⟩
theorem KeepT.at {X Y : World} {r : Nat} (h : X.grownBy Y (some r)) (hr : ∀ (cs : Array Value) (e : TypeId) (hh : Nat × Nat), X.heap[r]? = some (.cells cs e hh) → e = 134 ∨ e = 67 ∨ e = 3) : KeepT X Y := ⟨h.os, h.tape, h.output, h.size, fun b cs e hh h1 h2 h3 h4 => by
  refine (h.block b (Array.getElem?_eq_some_iff.1 h4).1 ?_).trans h4
  intro e2
  have e3 : b = r := by simpa using e2
  subst e3
  rcases hr _ _ _ h4 with h5 | h5 | h5
  · exact h1 h5
  · exact h2 h5
  · exact h3 h5⟩
theorem KeepT.row {X Y : World} {B e s n : Nat} {v : Value} {xs : List Value} (h : X.grownBy Y v.ownBlock) (ho : X.ownsRow B e s v n xs) (he : e = 134 ∨ e = 67 ∨ e = 3) : KeepT X Y := by
  rcases ho.2 with ⟨rfl, _⟩ | ⟨g, cap, cur, rfl, hB, hh, _⟩
  · exact .none h
  · refine .at (r := g) h fun cs e2 hh2 h2 => ?_
    rw [hh] at h2
    simp only [Option.some.injEq, Obj.cells.injEq] at h2
    rw [← h2.2.1]; exact he
theorem KeepT.owns {X Y : World} {B e s n : Nat} {v : Value} {xs : List Value} (h : KeepT X Y) (ho : X.ownsRow B e s v n xs) (h1 : e ≠ 134) (h2 : e ≠ 67) (h3 : e ≠ 3) : Y.ownsRow B e s v n xs := by
  refine ⟨ho.1, ?_⟩
  rcases ho.2 with hn | ⟨g, cap, cur, rfl, hb, hgg, rest⟩
  · exact .inl hn
  · exact .inr ⟨g, cap, cur, rfl, hb, h.block _ _ _ _ h1 h2 h3 hgg, rest⟩
theorem KeepT.val {X Y : World} {k len : Nat} {t : TypeId} {c : Nat → Value} (h : KeepT X Y) (hv : ValAt X k len t c) (h1 : t ≠ 134) (h2 : t ≠ 67) (h3 : t ≠ 3) : ValAt Y k len t c := h.block _ _ _ _ h1 h2 h3 hv

/-- The maker under way: what its box says (bs, ba, bi), its states' row, its map and the map's rows. -/
structure MkP (w X : World) (mb bm : Nat) (c0 c1 c2 c3 c4 bs : Value) (ba bi : Int) (rv : Value) (N : Nat) (kv ev : Nat → Value) (kl el : Nat → List It) (m : Nat) (mv fv : It → Value) (nl : It → List Nat) (E : Nat) : Prop where
  grown : w.grownBy X none
  box : X.heap[mb]? = some (.cells #[c0, c1, c2, c3, c4, bs, .int .i64 ba, .int .i64 bi, .map (some bm)] 134 (0, 0))
  row : X.ownsRow w.heap.size 67 2 rv N (stV kv ev N)
  ker : ∀ i, i < N → X.ownsRow w.heap.size 69 2 (kv i) (kl i).length (itsV (kl i))
  edg : ∀ i, i < N → X.ownsRow w.heap.size 115 2 (ev i) (el i).length (itsV (el i))
  mp : MpAt X bm m mv
  num : ∀ x, X.ownsRow w.heap.size 3 1 (fv x) (nl x).length (natV (nl x))
  sep : ∀ x y, x ≠ y → (fv x).ownBlock = none ∨ (fv x).ownBlock ≠ (fv y).ownBlock
  lo : w.heap.size ≤ bm ∧ w.heap.size ≤ mb
  elo : ∀ i, i < N → ∀ b, (ev i).ownBlock = some b → b < E

theorem MpAt.obj {X : World} {b n : Nat} {F : It → Value} (h : MpAt X b n F) : ∃ es cl, X.heap[b]? = some (.map es cl) := by
  obtain ⟨D, ⟨es, cl, h1, _⟩, _⟩ := h
  exact ⟨es, cl, h1⟩
theorem owns_nemap {w : World} {B e s n r : Nat} {v : Value} {xs : List Value} {es : Array MapEntry} {cl : Nat} (h : w.ownsRow B e s v n xs) (hr : w.heap[r]? = some (.map es cl)) : v.ownBlock = none ∨ v.ownBlock ≠ some r := by
  rcases h.2 with ⟨rfl, _⟩ | ⟨g, cap, cur, rfl, hB, hh, _⟩
  · exact .inl rfl
  · right
    intro e
    have : g = r := by simpa [Value.ownBlock] using e
    subst this
    rw [hh] at hr
    cases hr

section
variable {w X Y : World} {mb bm : Nat} {c0 c1 c2 c3 c4 bs : Value} {ba bi : Int} {rv : Value} {N : Nat} {kv ev : Nat → Value} {kl el : Nat → List It} {m : Nat} {mv fv : It → Value} {nl : It → List Nat} {E : Nat}
theorem MkP.kept (h : MkP w X mb bm c0 c1 c2 c3 c4 bs ba bi rv N kv ev kl el m mv fv nl E) (hg : X.grownBy Y none) : MkP w Y mb bm c0 c1 c2 c3 c4 bs ba bi rv N kv ev kl el m mv fv nl E :=
  ⟨grown_trans h.grown hg, box_kept h.box hg, keep0 h.row hg, fun i hi => keep0 (h.ker i hi) hg, fun i hi => keep0 (h.edg i hi) hg, h.mp.kept hg (by simp), fun x => keep0 (h.num x) hg, h.sep, h.lo, h.elo⟩
theorem MkP.cells (h : MkP w X mb bm c0 c1 c2 c3 c4 bs ba bi rv N kv ev kl el m mv fv nl E) : X.cell? ⟨mb, 0, none⟩ = some c0 ∧ X.cell? ⟨mb, 1, none⟩ = some c1 ∧ X.cell? ⟨mb, 2, none⟩ = some c2 ∧ X.cell? ⟨mb, 3, none⟩ = some c3 ∧ X.cell? ⟨mb, 4, none⟩ = some c4 ∧ X.cell? ⟨mb, 5, none⟩ = some bs ∧ X.cell? ⟨mb, 6, none⟩ = some (.int .i64 ba) ∧ X.cell? ⟨mb, 7, none⟩ = some (.int .i64 bi) ∧ X.cell? ⟨mb, 8, none⟩ = some (.map (some bm)) := by
  refine ⟨?_, ?_, ?_, ?_, ?_, ?_, ?_, ?_, ?_⟩ <;> (rw [cell_of_row _ _ _ _ _ _ h.box]; rfl)
theorem MkP.free (h : MkP w X mb bm c0 c1 c2 c3 c4 bs ba bi rv N kv ev kl el m mv fv nl E) (o : Nat) : X.frozen? ⟨mb, o, none⟩ = false := frozen_of_row _ _ _ _ _ h.box
theorem MkP.ne (h : MkP w X mb bm c0 c1 c2 c3 c4 bs ba bi rv N kv ev kl el m mv fv nl E) : bm ≠ mb := by
  obtain ⟨es, cl, h1⟩ := h.mp.obj
  intro e
  rw [e, h.box] at h1
  cases h1

/-- The box alone is turned. -/
theorem MkP.boxed (h : MkP w X mb bm c0 c1 c2 c3 c4 bs ba bi rv N kv ev kl el m mv fv nl E) {bs' : Value} {ba' bi' : Int} (hg : X.grownBy Y (some mb)) (hb : Y.heap[mb]? = some (.cells #[c0, c1, c2, c3, c4, bs', .int .i64 ba', .int .i64 bi', .map (some bm)] 134 (0, 0))) : MkP w Y mb bm c0 c1 c2 c3 c4 bs' ba' bi' rv N kv ev kl el m mv fv nl E ∧ KeepT X Y := by
  refine ⟨⟨grown_new h.grown hg h.lo.2, hb, h.row.kept hg (owns_nebox h.row h.box (by decide)), fun i hi => (h.ker i hi).kept hg (owns_nebox (h.ker i hi) h.box (by decide)), fun i hi => (h.edg i hi).kept hg (owns_nebox (h.edg i hi) h.box (by decide)), h.mp.kept hg (by simp; exact h.ne), fun x => (h.num x).kept hg (owns_nebox (h.num x) h.box (by decide)), h.sep, h.lo, h.elo⟩, .at hg fun cs e hh h2 => ?_⟩
  rw [h.box] at h2
  simp only [Option.some.injEq, Obj.cells.injEq] at h2
  exact .inl h2.2.1.symm
theorem MkP.setS (h : MkP w X mb bm c0 c1 c2 c3 c4 bs ba bi rv N kv ev kl el m mv fv nl E) (v : Value) : MkP w (X.setCell ⟨mb, 5, none⟩ v) mb bm c0 c1 c2 c3 c4 v ba bi rv N kv ev kl el m mv fv nl E ∧ KeepT X (X.setCell ⟨mb, 5, none⟩ v) :=
  h.boxed (grown_setCell _ _ _) (heap_setCell_same _ _ _ _ _ _ h.box)
theorem MkP.setA (h : MkP w X mb bm c0 c1 c2 c3 c4 bs ba bi rv N kv ev kl el m mv fv nl E) (v : Int) : MkP w (X.setCell ⟨mb, 6, none⟩ (.int .i64 v)) mb bm c0 c1 c2 c3 c4 bs v bi rv N kv ev kl el m mv fv nl E ∧ KeepT X (X.setCell ⟨mb, 6, none⟩ (.int .i64 v)) :=
  h.boxed (grown_setCell _ _ _) (heap_setCell_same _ _ _ _ _ _ h.box)
theorem MkP.setI (h : MkP w X mb bm c0 c1 c2 c3 c4 bs ba bi rv N kv ev kl el m mv fv nl E) (v : Int) : MkP w (X.setCell ⟨mb, 7, none⟩ (.int .i64 v)) mb bm c0 c1 c2 c3 c4 bs ba v rv N kv ev kl el m mv fv nl E ∧ KeepT X (X.setCell ⟨mb, 7, none⟩ (.int .i64 v)) :=
  h.boxed (grown_setCell _ _ _) (heap_setCell_same _ _ _ _ _ _ h.box)

/-- A row of the maker's alone is turned: all else stays. -/
theorem grown_owned {B e s n : Nat} {v : Value} {xs : List Value} (h : w.grownBy X none) (ho : X.ownsRow B e s v n xs) (hB : w.heap.size ≤ B) (hg : X.grownBy Y v.ownBlock) : w.grownBy Y none := by
  rcases ho.2 with ⟨rfl, _⟩ | ⟨g, cap, cur, rfl, hb, hh, _⟩
  · exact grown_trans h hg
  · exact grown_new (b := g) h hg (Nat.le_trans hB hb)
theorem map_row {B e s n : Nat} {v : Value} {xs : List Value} (h : MpAt X bm m mv) (ho : X.ownsRow B e s v n xs) (hg : X.grownBy Y v.ownBlock) : MpAt Y bm m mv := by
  obtain ⟨es, cl, h1⟩ := h.obj
  refine h.kept hg ?_
  intro e
  rcases owns_nemap ho h1 with h2 | h2
  · rw [h2] at e; cases e
  · exact h2 e.symm
theorem box_row {B e e' s n b : Nat} {v : Value} {xs : List Value} {cs : Array Value} (h : X.heap[b]? = some (.cells cs e' (0, 0))) (ho : X.ownsRow B e s v n xs) (hne : e ≠ e') (hg : X.grownBy Y v.ownBlock) : Y.heap[b]? = some (.cells cs e' (0, 0)) := by
  refine (hg.block b (Array.getElem?_eq_some_iff.1 h).1 ?_).trans h
  intro e2
  rcases owns_nebox ho h hne with h2 | h2
  · rw [h2] at e2; cases e2
  · exact h2 e2.symm
theorem row_row {B B' e e' s s' n n' : Nat} {v v' : Value} {xs xs' : List Value} (h : X.ownsRow B' e' s' v' n' xs') (ho : X.ownsRow B e s v n xs) (hne : e ≠ e') (hg : X.grownBy Y v.ownBlock) : Y.ownsRow B' e' s' v' n' xs' := by
  refine ⟨h.1, ?_⟩
  rcases h.2 with hn | ⟨g, cap, cur, rfl, hb, hgg, rest⟩
  · exact .inl hn
  · exact .inr ⟨g, cap, cur, rfl, hb, box_row hgg ho hne hg, rest⟩
/-- A state more. -/
theorem MkP.pushS (h : MkP w X mb bm c0 c1 c2 c3 c4 bs ba bi rv N kv ev kl el m mv fv nl E) {rv' kv0 : Value} {k : List It} (hk : X.ownsRow w.heap.size 69 2 kv0 k.length (itsV k)) (hg : X.grownBy Y rv.ownBlock) (ho : Y.ownsRow w.heap.size 67 2 rv' (N + 1) (stV kv ev N ++ [kv0, .slice none 0 0])) : MkP w Y mb bm c0 c1 c2 c3 c4 bs ba bi rv' (N + 1) (updL kv N kv0) (updL ev N (.slice none 0 0)) (updL kl N k) (updL el N []) m mv fv nl E ∧ KeepT X Y := by
  refine ⟨⟨grown_owned h.grown h.row (Nat.le_refl _) hg, box_row h.box h.row (by decide) hg, ?_, fun i hi => ?_, fun i hi => ?_, map_row h.mp h.row hg, fun x => row_row (h.num x) h.row (by decide) hg, h.sep, h.lo, fun i hi => ?_⟩, .row hg h.row (.inr (.inl rfl))⟩
  · have e : stV (updL kv N kv0) (updL ev N (.slice none 0 0)) (N + 1) = stV kv ev N ++ [kv0, .slice none 0 0] := by
      show stV _ _ N ++ _ = _
      rw [updL_same, updL_same, stV_congr N (fun i hi => ⟨updL_other _ _ (by omega), updL_other _ _ (by omega)⟩)]
    rw [e]; exact ho
  · by_cases e : i = N
    · subst e
      rw [updL_same, updL_same]
      exact row_row hk h.row (by decide) hg
    · rw [updL_other _ _ e, updL_other _ _ e]
      exact row_row (h.ker i (by omega)) h.row (by decide) hg
  · by_cases e : i = N
    · subst e
      rw [updL_same, updL_same]
      exact World.ownsRow_nil _ _ _ _
    · rw [updL_other _ _ e, updL_other _ _ e]
      exact row_row (h.edg i (by omega)) h.row (by decide) hg
  · by_cases e : i = N
    · subst e
      rw [updL_same]
      intro b hb
      cases hb
    · rw [updL_other _ _ e]
      exact h.elo i (by omega)
def updI {α : Type} (f : It → α) (s : It) (x : α) : It → α := fun i => if i = s then x else f i
theorem updI_same {α : Type} (f : It → α) (s : It) (x : α) : updI f s x s = x := if_pos rfl
theorem updI_other {α : Type} (f : It → α) {s i : It} (x : α) (h : i ≠ s) : updI f s x i = f i := if_neg h
/-- A number more in the row of x. -/
theorem MkP.pushN (h : MkP w X mb bm c0 c1 c2 c3 c4 bs ba bi rv N kv ev kl el m mv fv nl E) (x : It) {g c t : Nat} (hg : X.grownBy Y (fv x).ownBlock) (ho : Y.ownsRow w.heap.size 3 1 (.slice (some ⟨g, 0, none⟩) ((nl x).length + 1) c) ((nl x).length + 1) (natV (nl x) ++ [.int .i64 (t : Int)])) (hat : (fv x).ownBlock = some g ∨ g = X.heap.size) : MkP w Y mb bm c0 c1 c2 c3 c4 bs ba bi rv N kv ev kl el m mv (updI fv x (.slice (some ⟨g, 0, none⟩) ((nl x).length + 1) c)) (updI nl x (nl x ++ [t])) E ∧ KeepT X Y := by
  refine ⟨⟨grown_owned h.grown (h.num x) (Nat.le_refl _) hg, box_row h.box (h.num x) (by decide) hg, row_row h.row (h.num x) (by decide) hg, fun i hi => row_row (h.ker i hi) (h.num x) (by decide) hg, fun i hi => row_row (h.edg i hi) (h.num x) (by decide) hg, map_row h.mp (h.num x) hg, fun y => ?_, fun y z hne => ?_, h.lo, h.elo⟩, .row hg (h.num x) (.inr (.inr rfl))⟩
  · by_cases e : y = x
    · subst e
      rw [updI_same, updI_same, natV_append, List.length_append, List.length_singleton]
      exact ho
    · rw [updI_other _ _ e, updI_other _ _ e]
      exact (h.num y).kept hg (h.sep y x e)
  · have key : ∀ y, y ≠ x → (fv y).ownBlock = none ∨ (fv y).ownBlock ≠ some g := fun y e => by
      rcases hat with h1 | h1
      · rw [← h1]; exact h.sep y x e
      · cases hb : (fv y).ownBlock with
        | none => exact .inl rfl
        | some k =>
          right
          intro h2
          have := ((h.num y).lt k hb).2
          have : k = g := by simpa using h2
          omega
    by_cases e : y = x
    · subst e
      have e2 : z ≠ y := fun h => hne h.symm
      rw [updI_same, updI_other _ _ e2]
      right
      rcases key z e2 with h1 | h1
      · rw [h1]; simp [Value.ownBlock]
      · exact fun h2 => h1 h2.symm
    · rw [updI_other _ _ e]
      by_cases e2 : z = x
      · subst e2
        rw [updI_same]
        exact key y e
      · rw [updI_other _ _ e2]
        exact h.sep y z hne
/-- The map is told. -/
theorem MkP.told (h : MkP w X mb bm c0 c1 c2 c3 c4 bs ba bi rv N kv ev kl el m mv fv nl E) {m' : Nat} {mv' : It → Value} (hg : X.grownBy Y (some bm)) (hm : MpAt Y bm m' mv') : MkP w Y mb bm c0 c1 c2 c3 c4 bs ba bi rv N kv ev kl el m' mv' fv nl E ∧ KeepT X Y := by
  obtain ⟨es, cl, h1⟩ := h.mp.obj
  refine ⟨⟨grown_new h.grown hg h.lo.1, (hg.block _ (Array.getElem?_eq_some_iff.1 h.box).1 (by simp; exact fun e => h.ne e.symm)).trans h.box, h.row.kept hg (owns_nemap h.row h1), fun i hi => (h.ker i hi).kept hg (owns_nemap (h.ker i hi) h1), fun i hi => (h.edg i hi).kept hg (owns_nemap (h.edg i hi) h1), hm, fun x => (h.num x).kept hg (owns_nemap (h.num x) h1), h.sep, h.lo, h.elo⟩, .at hg fun cs e hh h2 => ?_⟩
  rw [h1] at h2
  cases h2
/-- The edges of a state. -/
theorem MkP.setE (h : MkP w X mb bm c0 c1 c2 c3 c4 bs ba bi rv N kv ev kl el m mv fv nl E) {g cap i : Nat} {v : Value} {ed : List It} (hrv : rv = .slice (some ⟨g, 0, none⟩) N cap) (hi : i < N) (hv : X.ownsRow w.heap.size 115 2 v ed.length (itsV ed)) (hE : E ≤ X.heap.size) : MkP w (X.setCell ⟨g, i * 2 + 1, none⟩ v) mb bm c0 c1 c2 c3 c4 bs ba bi rv N kv (updL ev i v) kl (updL el i ed) m mv fv nl X.heap.size ∧ KeepT X (X.setCell ⟨g, i * 2 + 1, none⟩ v) := by
  have hg : X.grownBy (X.setCell ⟨g, i * 2 + 1, none⟩ v) rv.ownBlock := by rw [hrv]; exact grown_setCell _ _ _
  refine ⟨⟨grown_owned h.grown h.row (Nat.le_refl _) hg, box_row h.box h.row (by decide) hg, ?_, fun j hj => row_row (h.ker j hj) h.row (by decide) hg, fun j hj => ?_, map_row h.mp h.row hg, fun x => row_row (h.num x) h.row (by decide) hg, h.sep, h.lo, fun j hj b hb => ?_⟩, .row hg h.row (.inr (.inl rfl))⟩
  · have hr := h.row
    refine ⟨by rw [stV_len], ?_⟩
    rcases hr.2 with ⟨h1, h2⟩ | ⟨g2, cap2, cur, h1, hB, hh, h3, h4, h5, h6⟩
    · omega
    · rw [h1] at hrv
      simp only [Value.slice.injEq, Option.some.injEq, Addr.mk.injEq] at hrv
      obtain ⟨⟨rfl, _⟩, _, rfl⟩ := hrv
      refine .inr ⟨g2, cap2, cur.setIfInBounds (i * 2 + 1) v, h1, hB, heap_setCell_same _ _ _ _ _ _ hh, h3, h4, by rw [Array.size_setIfInBounds]; exact h5, ?_⟩
      rw [← stV_set kv ev v N i hi, ← h6, Array.toList_setIfInBounds, List.take_set]
  · by_cases e : j = i
    · subst e
      rw [updL_same, updL_same]
      exact row_row hv h.row (by decide) hg
    · rw [updL_other _ _ e, updL_other _ _ e]
      exact row_row (h.edg j hj) h.row (by decide) hg
  · by_cases e : j = i
    · subst e
      rw [updL_same] at hb
      exact (hv.lt b hb).2
    · rw [updL_other _ _ e] at hb
      exact Nat.lt_of_lt_of_le (h.elo j hj b hb) hE
/-- A row of edges that is no state's yet is turned. -/
theorem MkP.edged (h : MkP w X mb bm c0 c1 c2 c3 c4 bs ba bi rv N kv ev kl el m mv fv nl E) {B n : Nat} {v : Value} {xs : List Value} (ho : X.ownsRow B 115 2 v n xs) (hB : E ≤ B) (hw : w.heap.size ≤ B) (hg : X.grownBy Y v.ownBlock) : MkP w Y mb bm c0 c1 c2 c3 c4 bs ba bi rv N kv ev kl el m mv fv nl E := by
  refine ⟨grown_owned h.grown ho hw hg, box_row h.box ho (by decide) hg, row_row h.row ho (by decide) hg, fun i hi => row_row (h.ker i hi) ho (by decide) hg, fun i hi => (h.edg i hi).kept hg ?_, map_row h.mp ho hg, fun x => row_row (h.num x) ho (by decide) hg, h.sep, h.lo, h.elo⟩
  cases hb : (ev i).ownBlock with
  | none => exact .inl rfl
  | some b =>
    right
    intro e
    have h1 := h.elo i hi b hb
    have h2 := (ho.lt b e.symm).1
    omega
theorem MkP.up (h : MkP w X mb bm c0 c1 c2 c3 c4 bs ba bi rv N kv ev kl el m mv fv nl E) : MkP w X mb bm c0 c1 c2 c3 c4 bs ba bi rv N kv ev kl el m mv fv nl X.heap.size :=
  ⟨h.grown, h.box, h.row, h.ker, h.edg, h.mp, h.num, h.sep, h.lo, fun i hi b hb => ((h.edg i hi).lt b hb).2⟩
end
theorem KeepT.young {P X Y : World} {e s n : Nat} {v : Value} {xs : List Value} (h : KeepT P X) (ho : X.ownsRow P.heap.size e s v n xs) (hg : X.grownBy Y v.ownBlock) : KeepT P Y := by
  refine ⟨hg.os.trans h.os, hg.tape.trans h.tape, hg.output.trans h.output, Nat.le_trans h.size hg.size, fun b cs e2 hh h1 h2 h3 h4 => ?_⟩
  have h5 := (Array.getElem?_eq_some_iff.1 h4).1
  refine (hg.block b (Nat.lt_of_lt_of_le h5 h.size) ?_).trans (h.block b cs e2 hh h1 h2 h3 h4)
  intro e3
  have := (ho.lt b e3.symm).1
  omega

/-- The maker between two asks. -/
def MkAt (w X : World) (mb bm : Nat) (c0 c1 c2 c3 c4 : Value) (ks : List (List It)) (asked : Int) (el : Nat → List It) (E : Nat) : Prop := ∃ (sa : Option Addr) (sc : Nat) (kv ev : Nat → Value) (m : Nat) (fv : It → Value), MkP w X mb bm c0 c1 c2 c3 c4 (.slice sa ks.length sc) asked (ks.length : Int) (.slice sa ks.length sc) ks.length kv ev (fun i => ks.getD i []) el m fv fv (begI ks) E ∧ m ≤ ks.length
theorem MkAt.kept {w X Y : World} {mb bm : Nat} {c0 c1 c2 c3 c4 : Value} {ks : List (List It)} {asked : Int} {el : Nat → List It} {E : Nat} (h : MkAt w X mb bm c0 c1 c2 c3 c4 ks asked el E) (hg : X.grownBy Y none) : MkAt w Y mb bm c0 c1 c2 c3 c4 ks asked el E := by
  obtain ⟨sa, sc, kv, ev, m, fv, h1, h2⟩ := h
  exact ⟨sa, sc, kv, ev, m, fv, h1.kept hg, h2⟩
theorem mk_done {w X : World} {mb bm : Nat} {c0 c1 c2 c3 c4 : Value} {ks : List (List It)} {asked : Int} {el : Nat → List It} {E : Nat} {k : List It} {x : It} (hx : k.head? = some x) {N : Nat} (hN : N = ks.length) (hel : ∀ i, N ≤ i → el i = []) {sa : Option Addr} {sc : Nat} {kv ev : Nat → Value} {m : Nat} {fv : It → Value} {v : Value} {nl : It → List Nat} {kl : Nat → List It} (hnl : nl = begI ks) (hkl : kl = fun i => ks.getD i []) (hm : m ≤ N) (h : MkP w X mb bm c0 c1 c2 c3 c4 (.slice sa (N + 1) sc) asked ((N : Int) + 1) (.slice sa (N + 1) sc) (N + 1) kv ev (updL kl N k) (updL el N []) (m + 1) (putI fv x v) (updI fv x v) (updI nl x (nl x ++ [N])) E) : MkAt w X mb bm c0 c1 c2 c3 c4 (ks ++ [k]) asked el E := by
  subst hN hnl hkl
  have e1 : updL (fun i => ks.getD i []) ks.length k = fun i => (ks ++ [k]).getD i [] := funext fun i => by
    by_cases e : i = ks.length
    · subst e; rw [updL_same, getD_snoc_new]
    · rw [updL_other _ _ e]
      by_cases e2 : i < ks.length
      · rw [getD_snoc_old e2]
      · show ks.getD i [] = _
        rw [List.getD_eq_getElem?_getD, List.getD_eq_getElem?_getD, List.getElem?_eq_none (by omega), List.getElem?_eq_none (by rw [List.length_append, List.length_singleton]; omega)]
  have e2 : updL el ks.length [] = el := funext fun i => by
    by_cases e : i = ks.length
    · subst e; rw [updL_same, hel _ (Nat.le_refl _)]
    · rw [updL_other _ _ e]
  have e3 : updI (begI ks) x (begI ks x ++ [ks.length]) = begI (ks ++ [k]) := funext fun y => by
    rw [begI_snoc, hx]
    by_cases e : y = x
    · subst e; rw [updI_same, if_pos rfl]
    · rw [updI_other _ _ e, if_neg (by intro e2; cases e2; exact e rfl), List.append_nil]
  have e4 : putI fv x v = updI fv x v := funext fun y => by
    unfold putI updI
    rfl
  have e5 : (ks ++ [k]).length = ks.length + 1 := by rw [List.length_append, List.length_singleton]
  rw [e1, e2, e3, e4] at h
  refine ⟨sa, sc, kv, ev, m + 1, updI fv x v, ?_, by rw [e5]; omega⟩
  rw [e5]
  exact h

/-- What ask tells. -/
def AskTold (w X : World) (mb bm : Nat) (c0 c1 c2 c3 c4 : Value) (ks : List (List It)) (asked : Int) (el : Nat → List It) (E : Nat) (k : List It) (e : Ending) (y : World) : Prop :=
  (∃ (t : Nat) (ks' : List (List It)), askF ks k = some (t, ks') ∧ e = .returned (.tuple #[.int .i64 (t : Int), .bool true]) ∧ MkAt w y mb bm c0 c1 c2 c3 c4 ks' (asked + 1) el E ∧ KeepT X y)
  ∨ (askF ks k = none ∧ e = .returned (.tuple #[.int .i64 0, .bool false]) ∧ w.grownBy y none ∧ KeepT X y)
theorem AskTold.found {w X y : World} {mb bm : Nat} {c0 c1 c2 c3 c4 : Value} {ks : List (List It)} {asked : Int} {el : Nat → List It} {E : Nat} {k : List It} {t : Nat} (hnd : ks.Nodup) (ht : t < ks.length) (hk : ks.getD t [] = k) (h : MkAt w y mb bm c0 c1 c2 c3 c4 ks (asked + 1) el E) (hT : KeepT X y) : AskTold w X mb bm c0 c1 c2 c3 c4 ks asked el E k (.returned (.tuple #[.int .i64 (t : Int), .bool true])) y := by
  have e : ks.getD t [] = ks[t] := by rw [List.getD_eq_getElem?_getD, List.getElem?_eq_getElem ht]; rfl
  have hm : k ∈ ks := by rw [← hk, e]; exact List.getElem_mem ht
  refine .inl ⟨t, ks, ?_, rfl, h, hT⟩
  unfold askF
  rw [if_pos hm, ← hk, e, List.Nodup.idxOf_getElem hnd]
theorem not_mem_begI {ks : List (List It)} {k : List It} {x : It} (hx : k.head? = some x) (h : ∀ i, i < (begI ks x).length → ks.getD ((begI ks x).getD i 0) [] ≠ k) : k ∉ ks := by
  intro hm
  have h1 := List.idxOf_lt_length_iff.2 hm
  have h2 : ks.getD (ks.idxOf k) [] = k := by rw [List.getD_eq_getElem?_getD, List.getElem?_eq_getElem h1]; simp
  have h3 : ks.idxOf k ∈ begI ks x := mem_begI.2 ⟨h1, by rw [h2]; exact hx⟩
  obtain ⟨i, hi, e⟩ := List.getElem_of_mem h3
  refine h i hi ?_
  have e2 : (begI ks x).getD i 0 = ks.idxOf k := by rw [List.getD_eq_getElem?_getD, List.getElem?_eq_getElem hi]; exact e
  rw [e2]; exact h2

end Go.Proofs.YthoamlahbnphkaaGreat.J

/-
  lr0: the maker's ask, walked.
-/
namespace Go.Proofs.YthoamlahbnphkaaGreat.J
open Go.RowKit Go.Maps Go.Shelf

attribute [local go_sem] Oper.semAt_some

theorem infoState : (Tryz.prog.info? 67).map (fun i => (i.zero, i.size, i.bytes)) = some (some (.agg #[.slice none 0 0, .slice none 0 0]), 2, 48) := by kernel_rfl
theorem infoInt : (Tryz.prog.info? 3).map (fun i => (i.zero, i.size, i.bytes)) = some (some (.int .i64 0), 1, 8) := by kernel_rfl
theorem owns_cut {X : World} {B e s n : Nat} {v : Value} {xs : List Value} (h : X.ownsRow B e s v n xs) : ∃ a c, v = .slice a n c := by
  rcases h.2 with ⟨rfl, rfl⟩ | ⟨g, cap, cur, rfl, _⟩
  · exact ⟨_, _, rfl⟩
  · exact ⟨_, _, rfl⟩
theorem owns_at {X : World} {B e s n : Nat} {v : Value} {xs : List Value} (h : X.ownsRow B e s v n xs) (hn : 0 < n) : ∃ g c, v = .slice (some ⟨g, 0, none⟩) n c ∧ ∀ j u, xs[j]? = some u → X.cell? ⟨g, j, none⟩ = some u := by
  rcases h.2 with ⟨_, h2⟩ | ⟨g, cap, cur, rfl, hB, hh, _, _, hs, ht⟩
  · omega
  · refine ⟨g, cap, rfl, fun j u hu => ?_⟩
    rw [cell_of_row _ _ _ _ _ _ hh]
    rw [← ht, List.getElem?_take] at hu
    split at hu
    · simpa using hu
    · cases hu
theorem getD_mem {l : List Nat} {j : Nat} (h : j < l.length) : l.getD j 0 ∈ l := by
  rw [List.getD_eq_getElem?_getD, List.getElem?_eq_getElem h]; exact List.getElem_mem h

set_option maxRecDepth 100000 in
set_option maxHeartbeats 4000000 in
theorem ask_any (w X : World) (mb bm : Nat) (c0 c1 c2 c3 c4 : Value) (ks : List (List It)) (asked : Int) (el : Nat → List It) (E : Nat) (k : List It) (a : Option Addr) (c : Nat) (p d : Int) (hM : MkAt w X mb bm c0 c1 c2 c3 c4 ks asked el E) (hko : X.ownsRow w.heap.size 69 2 (.slice a k.length c) k.length (itsV k)) (hk : k.head? = some (p, d)) (hI : I64 (p, d)) (hks : ks.length ≤ 256) (hnd : ks.Nodup) (hb : ∀ i, i < ks.length → (ks.getD i []).length ≤ 1099511627776) (hkb : k.length ≤ 1099511627776) (ha0 : 0 ≤ asked) (ha1 : asked ≤ 1099511627776) (hel : ∀ i, ks.length ≤ i → el i = []) :
    Calls Tryz.prog 72 #[.pointer (some ⟨mb, 0, none⟩), .slice a k.length c] X fun e y => AskTold w X mb bm c0 c1 c2 c3 c4 ks asked el E k e y := by
  obtain ⟨sa, sc, kv, ev, m, fv, hP, hm⟩ := hM
  obtain ⟨N, hN⟩ : ∃ n, n = ks.length := ⟨_, rfl⟩
  obtain ⟨K, hK⟩ : ∃ n, n = k.length := ⟨_, rfl⟩
  have hK0 : 0 < K := by rw [hK]; cases k with
    | nil => cases hk
    | cons x l => exact Nat.succ_pos _
  have HN : Hid (N = ks.length) := hN
  have HK : Hid (K = k.length) := hK
  have HX : Hid (k.head? = some (p, d)) := hk
  have HI : Hid (I64 (p, d)) := hI
  have HND : Hid (ks.Nodup) := hnd
  have HEL : Hid (∀ i, N ≤ i → el i = []) := by rw [hN]; exact hel
  have HB : Hid (∀ i, i < N → (ks.getD i []).length ≤ 1099511627776) := by rw [hN]; exact hb
  have HM : Hid (m ≤ N) := by rw [hN]; exact hm
  have hwa : IntKind.i64.wrap (asked + 1) = asked + 1 := by rw [IntKind.wrap_i64]; omega
  obtain ⟨kb, kc, hka, hkcell⟩ := owns_at (n := K) (v := .slice a K c) (by rw [hK]; exact hko) hK0
  simp only [Value.slice.injEq] at hka
  obtain ⟨rfl, _, rfl⟩ := hka
  have hk01 : (itsV k)[0]? = some (.int .i64 p) ∧ (itsV k)[1]? = some (.int .i64 d) := by
    cases k with
    | nil => cases hk
    | cons x l => cases hk; exact ⟨rfl, rfl⟩
  rw [← hN] at hP hks
  rw [← hK] at hko hkb
  rw [← hK]
  obtain ⟨B, hBl⟩ : ∃ n, n = (begI ks (p, d)).length := ⟨_, rfl⟩
  have HBL : Hid (B = (begI ks (p, d)).length) := hBl
  have hB256 : B ≤ 256 := by have := begI_len ks (p, d); omega
  obtain ⟨fa, fc, hfv⟩ : ∃ fa fc, fv (p, d) = .slice fa B fc := by rw [hBl]; exact owns_cut (hP.num (p, d))
  obtain ⟨hP1, hT1⟩ := hP.setA (asked + 1)
  obtain ⟨y0, y1, y2, y3, y4, y5, y6, y7, y8⟩ := hP.cells
  have f6 := hP.free 6
  have hko1 : (X.setCell ⟨mb, 6, none⟩ (.int .i64 (asked + 1))).ownsRow w.heap.size 69 2 (.slice (some ⟨kb, 0, none⟩) K c) K (itsV k) := hT1.owns hko (by decide) (by decide) (by decide)
  clear hN hK hk hI hnd hel hb hm hBl hkcell y0 y1 y2 y3 y4 y5 y7 y8 hP hko
  go_enter Tryz.func72, Tryz.ntmps72
  go_wp2_with fail
  obtain ⟨X1, hX1⟩ : ∃ X1, X1 = X.setCell ⟨mb, 6, none⟩ (.int .i64 (asked + 1)) := ⟨_, rfl⟩
  rw [← hX1] at hP1 hT1 hko1
  rw [← hX1]
  clear hX1 f6 y6
  have HP1 : Hid (MkP w X1 mb bm c0 c1 c2 c3 c4 (.slice sa N sc) (asked + 1) (N : Int) (.slice sa N sc) N kv ev (fun i => ks.getD i []) el m fv fv (begI ks) E) := hP1
  have HT1 : Hid (KeepT X X1) := hT1
  have HK1 : Hid (X1.ownsRow w.heap.size 69 2 (.slice (some ⟨kb, 0, none⟩) K c) K (itsV k)) := hko1
  clear hP1 hT1 hko1
  have HKC : Hid (∀ Y, X1.grownBy Y none → Y.cell? ⟨kb, 0, none⟩ = some (.int .i64 p) ∧ Y.cell? ⟨kb, 1, none⟩ = some (.int .i64 d)) := fun Y hY => by
    obtain ⟨g, cc, e1, e2⟩ := owns_at (keep0 HK1.out hY) hK0
    simp only [Value.slice.injEq, Option.some.injEq, Addr.mk.injEq] at e1
    obtain ⟨⟨rfl, _⟩, _⟩ := e1
    exact ⟨e2 _ _ hk01.1, e2 _ _ hk01.2⟩
  obtain ⟨z0, z1⟩ := HKC.out X1 (grown_refl _ _)
  obtain ⟨_, _, _, _, _, y5, _, y7, y8⟩ := HP1.out.cells
  have hlk : ∀ q, (Instr.lookup 132 (.map (some bm)) (.agg #[.int .i64 p, .int .i64 d]) false).run Tryz.prog (X1.drewN q) = .ok (.slice fa B fc) (X1.drewN q) := fun q => by
    rw [← hfv]
    exact (HP1.out.kept (grown_drewN X1 q)).mp.look HI.out
  have hKi : (0 : Int) < (K : Int) := by omega
  go_quiet (fail)
  clear hlk z0 z1 y5 y7 y8 hKi
  go_wp2_with fail
  go_loopg [28] B (fun gk v28 wr => ∃ j : Nat, j ≤ B ∧ gk = B - j ∧ v28 = .int .i64 j ∧ X1.grownBy wr none ∧ ∀ i, i < j → ks.getD ((begI ks (p, d)).getD i 0) [] ≠ k)
  case atStart => exact ⟨0, Nat.zero_le _, rfl, rfl, grown_drewN _ _, fun i hi => absurd hi (Nat.not_lt_zero _)⟩
  case round =>
    obtain ⟨j, hj, hgj, rfl, hg, hno⟩ := hrel
    have HGJ : Hid (gk = B - j) := hgj
    have HG : Hid (X1.grownBy wr none) := hg
    have HNO : Hid (∀ i, i < j → ks.getD ((begI ks (p, d)).getD i 0) [] ≠ k) := hno
    have HPW : Hid (MkP w wr mb bm c0 c1 c2 c3 c4 (.slice sa N sc) (asked + 1) (N : Int) (.slice sa N sc) N kv ev (fun i => ks.getD i []) el m fv fv (begI ks) E) := HP1.out.kept hg
    have HKW : Hid (wr.ownsRow w.heap.size 69 2 (.slice (some ⟨kb, 0, none⟩) K c) K (itsV k)) := keep0 HK1.out hg
    have HTW : Hid (KeepT X wr) := HT1.out.trans (.none hg)
    clear hgj hg hno
    by_cases hlt : j < B
    · have hj0 : (0 : Int) ≤ (j : Int) := by omega
      have hj1 : (j : Int) < (B : Int) := by omega
      have hjd : decide (j < B) = true := decide_eq_true hlt
      have hjl : j < (begI ks (p, d)).length := by rw [← HBL.out]; exact hlt
      have hmem := mem_begI.1 (getD_mem hjl)
      have hfr := HPW.out.num (p, d)
      rw [hfv, ← HBL.out] at hfr
      obtain ⟨fb, fc2, hfe, hfcell⟩ := owns_at hfr (by omega)
      simp only [Value.slice.injEq] at hfe
      obtain ⟨rfl, _, rfl⟩ := hfe
      have r0 := hfcell _ _ (natV_at _ j hjl)
      obtain ⟨t, ht⟩ : ∃ t, t = (begI ks (p, d)).getD j 0 := ⟨_, rfl⟩
      have HT : Hid (t = (begI ks (p, d)).getD j 0) := ht
      rw [← ht] at r0 hmem
      have htN : t < N := by rw [HN.out]; exact hmem.1
      have ht0 : (0 : Int) ≤ (t : Int) := by omega
      have ht1 : (t : Int) < (N : Int) := by omega
      obtain ⟨sb, sc2, hse, hscell⟩ := owns_at HPW.out.row (by omega)
      simp only [Value.slice.injEq] at hse
      obtain ⟨rfl, _, rfl⟩ := hse
      have r1 := hscell _ _ (stV_at kv ev N t htN).1
      obtain ⟨ka, kc2, hkv⟩ := owns_cut (HPW.out.ker t htN)
      rw [hkv] at r1
      obtain ⟨bb, hbb⟩ := boolOf (ks.getD t [] = k)
      have HBB : Hid (bb = true ↔ ks.getD t [] = k) := hbb
      have hkt := HPW.out.ker t htN
      rw [hkv] at hkt
      have hIT : ItsAt wr (some ⟨kb, 0, none⟩) k := ItsAt.of (by rw [← HK.out]; exact HKW.out)
      have HC : Hid (Calls Tryz.prog 112 #[.slice ka (ks.getD t []).length kc2, .slice (some ⟨kb, 0, none⟩) K c] wr fun e y => e = .returned (.bool bb) ∧ wr.grownBy y none) := by
        rw [HK.out]
        exact equalItems_any ka (some ⟨kb, 0, none⟩) kc2 c _ k wr (ItsAt.of hkt) hIT (by have := HB.out t htN; omega) (by rw [← HK.out]; omega) bb hbb
      obtain ⟨q, hq⟩ : ∃ q, q = (ks.getD t []).length := ⟨_, rfl⟩
      simp only [← hq] at r1 HC
      obtain ⟨_, _, _, _, _, y5, _, _, _⟩ := HPW.out.cells
      clear hbb hq hkt hIT hkv hscell hfcell hfr hmem hjl ht
      go_wp2_with fail
      refine Calls.mono HC.out ?_
      rintro e w2 ⟨rfl, hg2⟩
      have HG2 : Hid (wr.grownBy w2 none) := hg2
      clear HC hg2 r0 r1 y5
      cases bb with
      | true =>
        have HEQ : Hid (ks.getD t [] = k) := HBB.out.1 rfl
        clear HBB
        go_wp2_with fail
        go_ret2
        refine AskTold.found HND.out (by rw [← HN.out]; exact htN) HEQ.out ⟨some ⟨sb, 0, none⟩, sc, kv, ev, m, fv, ?_, ?_⟩ (HTW.out.trans (.none HG2.out))
        · rw [← HN.out]; exact HPW.out.kept HG2.out
        · rw [← HN.out]; exact HM.out
      | false =>
        have HNE : Hid (ks.getD t [] ≠ k) := fun h3 => absurd (HBB.out.2 h3) (by decide)
        clear HBB
        go_wp2_with fail
        go_roundg (B - (j + 1))
        case measure => have := HGJ.out; omega
        case rel => exact ⟨j + 1, by omega, rfl, by go_num, grown_trans HG.out HG2.out, fun i hi => by
          by_cases e : i = j
          · rw [e, ← HT.out]; exact HNE.out
          · exact HNO.out i (by omega)⟩
    · have hin : B = j := by omega
      subst hin
      have hid : decide (B < B) = false := decide_eq_false (by omega)
      have HNM : Hid (k ∉ ks) := not_mem_begI HX.out (by rw [← HBL.out]; exact HNO.out)
      obtain ⟨_, _, _, _, _, y5, _, y7, _⟩ := HPW.out.cells
      by_cases h256 : N = 256
      · subst h256
        go_wp2_with fail
        go_ret2
        refine .inr ⟨?_, rfl, HPW.out.grown, HTW.out⟩
        unfold askF
        rw [if_neg HNM.out, if_neg (by rw [← HN.out]; decide)]
      · have hne : ((N : Int) == 256) = false := beq_eq_false_iff_ne.2 (by omega)
        have hne2 : (N == 256) = false := beq_eq_false_iff_ne.2 h256
        have hwn : IntKind.i64.wrap ((N : Int) + 1) = (N : Int) + 1 := by rw [IntKind.wrap_i64]; omega
        have f7 := HPW.out.free 7
        obtain ⟨hP3, hT3⟩ := HPW.out.setI ((N : Int) + 1)
        have HP3 : Hid (MkP w (wr.setCell ⟨mb, 7, none⟩ (.int .i64 ((N : Int) + 1))) mb bm c0 c1 c2 c3 c4 (.slice sa N sc) (asked + 1) ((N : Int) + 1) (.slice sa N sc) N kv ev (fun i => ks.getD i []) el m fv fv (begI ks) E) := hP3
        have HT3 : Hid (KeepT X (wr.setCell ⟨mb, 7, none⟩ (.int .i64 ((N : Int) + 1)))) := HTW.out.trans hT3
        have HK3 : Hid ((wr.setCell ⟨mb, 7, none⟩ (.int .i64 ((N : Int) + 1))).ownsRow w.heap.size 69 2 (.slice (some ⟨kb, 0, none⟩) K c) K (itsV k)) := hT3.owns HKW.out (by decide) (by decide) (by decide)
        have z5 : (wr.setCell ⟨mb, 7, none⟩ (.int .i64 ((N : Int) + 1))).cell? ⟨mb, 5, none⟩ = some (.slice sa N sc) := by obtain ⟨_, _, _, _, _, h5, _⟩ := hP3.cells; exact h5
        obtain ⟨i1, hi1, hu0, hu1, hu2⟩ := info_parts infoState
        have hsz : w.heap.size ≤ wr.heap.size := HPW.out.grown.size
        clear hP3 hT3
        go_wp2_with (at_builtin; refine wpList_append_lies _ rfl (.tmp 67) (.tmp 70) 57 rfl w.heap.size 67 i1 (.agg #[.slice none 0 0, .slice none 0 0]) 2 48 Tryz.underlying57 hi1 hu0 hu1 hu2 rfl (by decide) (.slice sa N sc) N (stV kv ev N) rfl (HP3.out.row.alloc _) ⟨wr.heap.size, 0, none⟩ 1 1 [.slice (some ⟨kb, 0, none⟩) K c, .slice none 0 0] rfl rfl (World.news_of_block (by simpa using heap_alloc_last (wr.setCell ⟨mb, 7, none⟩ (.int .i64 ((N : Int) + 1))) _)) (by simp [Value.oneCell']) (by decide) (by unfold maxLen; omega) (by omega) (by simp; omega) _ rfl ?_)
        intro g4 c4' Z hoZ hgZ _ _
        obtain ⟨hP4, hT4⟩ := (HP3.out.kept (World.grownBy_alloc _ _ none)).pushS (k := k) (by rw [← HK.out]; exact HK3.out.alloc _) hgZ hoZ
        have HK4 : Hid (Z.ownsRow w.heap.size 69 2 (.slice (some ⟨kb, 0, none⟩) K c) K (itsV k)) := hT4.owns (HK3.out.alloc _) (by decide) (by decide) (by decide)
        have HT4 : Hid (KeepT X Z) := HT3.out.trans (KeepT.trans (.none (World.grownBy_alloc _ _ none)) hT4)
        obtain ⟨hP5, hT5⟩ := hP4.setS (.slice (some ⟨g4, 0, none⟩) (N + 1) c4')
        obtain ⟨_, _, _, _, _, x5, _, _, _⟩ := hP4.cells
        have f5 := hP4.free 5
        clear hP4 hT4 hoZ hgZ HP3 HT3 HK3 z5 f7 y5 y7 hi1 hu0 hu1 hu2
        go_wp2_with fail
        obtain ⟨X5, hX5⟩ : ∃ X5, X5 = Z.setCell ⟨mb, 5, none⟩ (.slice (some ⟨g4, 0, none⟩) (N + 1) c4') := ⟨_, rfl⟩
        rw [← hX5] at hP5 hT5
        rw [← hX5]
        have HK5 : Hid (X5.ownsRow w.heap.size 69 2 (.slice (some ⟨kb, 0, none⟩) K c) K (itsV k)) := hT5.owns HK4.out (by decide) (by decide) (by decide)
        have HT5 : Hid (KeepT X X5) := HT4.out.trans hT5
        have HP5 : Hid (MkP w X5 mb bm c0 c1 c2 c3 c4 (.slice (some ⟨g4, 0, none⟩) (N + 1) c4') (asked + 1) ((N : Int) + 1) (.slice (some ⟨g4, 0, none⟩) (N + 1) c4') (N + 1) (updL kv N (.slice (some ⟨kb, 0, none⟩) K c)) (updL ev N (.slice none 0 0)) (updL (fun i => ks.getD i []) N k) (updL el N []) m fv fv (begI ks) E) := hP5
        clear hX5 hP5 hT5 HK4 HT4 x5 f5
        have HR : Hid (∀ Y, X5.grownBy Y none → Y.cell? ⟨mb, 8, none⟩ = some (.map (some bm)) ∧ Y.cell? ⟨kb, 0, none⟩ = some (.int .i64 p) ∧ Y.cell? ⟨kb, 1, none⟩ = some (.int .i64 d)) := fun Y hY => by
          obtain ⟨g, cc, e1, e2⟩ := owns_at (keep0 HK5.out hY) hK0
          simp only [Value.slice.injEq, Option.some.injEq, Addr.mk.injEq] at e1
          obtain ⟨⟨rfl, _⟩, _⟩ := e1
          obtain ⟨_, _, _, _, _, _, _, _, y8⟩ := (HP5.out.kept hY).cells
          exact ⟨y8, e2 _ _ hk01.1, e2 _ _ hk01.2⟩
        have HOW : Hid (∀ Y, X5.grownBy Y none → Y.ownsRow w.heap.size 3 1 (.slice fa B fc) B (natV (begI ks (p, d)))) := fun Y hY => by
          have h := (HP5.out.kept hY).num (p, d)
          rw [hfv, ← HBL.out] at h
          exact h
        have HPS : Hid (∀ Y, X5.grownBy Y none → w.heap.size ≤ Y.heap.size) := fun Y hY => (HP5.out.kept hY).grown.size
        have HFIN : Hid (∀ (Y W : World) (g c7 : Nat), X5.grownBy Y none → Y.grownBy W (Value.slice fa B fc).ownBlock → W.ownsRow w.heap.size 3 1 (.slice (some ⟨g, 0, none⟩) (B + 1) c7) (B + 1) (natV (begI ks (p, d)) ++ [.int .i64 (N : Int)]) → ((Value.slice fa B fc).ownBlock = some g ∨ g = Y.heap.size) →
            ∃ W', (Instr.mapUpdate 132 (.map (some bm)) (.agg #[.int .i64 p, .int .i64 d]) (.slice (some ⟨g, 0, none⟩) (B + 1) c7)).run Tryz.prog W = .ok () W' ∧ (MkAt w W' mb bm c0 c1 c2 c3 c4 (ks ++ [k]) (asked + 1) el E ∧ KeepT X W') ∧ W.cell? ⟨mb, 8, none⟩ = some (.map (some bm)) ∧ W.cell? ⟨kb, 0, none⟩ = some (.int .i64 p) ∧ W.cell? ⟨kb, 1, none⟩ = some (.int .i64 d)) := fun Y W g c7 hY hg ho hat => by
          rw [← hfv] at hg hat
          rw [HBL.out] at ho
          obtain ⟨hP6, hT6⟩ := (HP5.out.kept hY).pushN (p, d) (t := N) hg ho hat
          obtain ⟨W', hrun, hmp, hgr⟩ := hP6.mp.update (by have := HM.out; unfold maxLen; omega) HI.out (.slice (some ⟨g, 0, none⟩) ((begI ks (p, d)).length + 1) c7)
          obtain ⟨hP7, hT7⟩ := hP6.told hgr hmp
          have hk6 := hT6.owns (keep0 HK5.out hY) (by decide) (by decide) (by decide)
          obtain ⟨g9, cc, e1, e2⟩ := owns_at hk6 hK0
          simp only [Value.slice.injEq, Option.some.injEq, Addr.mk.injEq] at e1
          obtain ⟨⟨rfl, _⟩, _⟩ := e1
          obtain ⟨_, _, _, _, _, _, _, _, y8⟩ := hP6.cells
          refine ⟨W', ?_, ⟨mk_done HX.out HN.out HEL.out rfl rfl HM.out hP7, HT5.out.trans (KeepT.trans (.none hY) (hT6.trans hT7))⟩, y8, e2 _ _ hk01.1, e2 _ _ hk01.2⟩
          rw [HBL.out]
          exact hrun
        obtain ⟨r0, r1, r2⟩ := HR.out X5 (grown_refl _ _)
        have r3 : ∀ o, (X5.alloc o).cell? ⟨mb, 8, none⟩ = some (.map (some bm)) := fun o => (HR.out _ (World.grownBy_alloc _ o none)).1
        have r4 : ∀ o, (X5.alloc o).cell? ⟨kb, 0, none⟩ = some (.int .i64 p) := fun o => (HR.out _ (World.grownBy_alloc _ o none)).2.1
        have r5 : ∀ o, (X5.alloc o).cell? ⟨kb, 1, none⟩ = some (.int .i64 d) := fun o => (HR.out _ (World.grownBy_alloc _ o none)).2.2
        have hKi : (0 : Int) < (K : Int) := by omega
        obtain ⟨i2, hi2, hv0, hv1, hv2⟩ := info_parts infoInt
        obtain ⟨xs, hxs⟩ : ∃ xs, xs = natV (begI ks (p, d)) := ⟨_, rfl⟩
        rw [← hxs] at HOW HFIN
        clear hxs hk01 HP1 HT1 HK1 HKC HPW HKW HTW HGJ hid HNO HG
        go_region_law (first
          | (refine step_append_lies _ rfl (.tmp 82) (.tmp 84) 24 rfl w.heap.size 3 i2 (.int .i64 0) 1 8 Tryz.underlying24 hi2 hv0 hv1 hv2 rfl (by decide) (.slice fa B fc) B xs (by simp [Act.eval]) (HOW.out _ (grown_trans (World.grownBy_alloc _ _ none) (grown_drewN _ 1))) ⟨X5.heap.size, 0, none⟩ 1 1 [.int .i64 (N : Int)] (by simp [Act.eval]) rfl (World.news_of_block (heap_alloc_last X5 _)) (by simp [Value.oneCell']) (by decide) (by unfold maxLen; omega) (by omega) (HPS.out _ (grown_trans (World.grownBy_alloc _ _ none) (grown_drewN _ 1))) _ rfl ?_; intro g7 c7 wB hoB hgB hat _; obtain ⟨wC, hup, hq, q1, q2, q3⟩ := HFIN.out _ wB g7 c7 (grown_trans (World.grownBy_alloc _ _ none) (grown_drewN _ 1)) hgB hoB hat; have HQ := show Hid _ from hq; clear hq hoB hgB hat)
          | fail)
        all_goals go_wp2_with fail
        all_goals go_ret2
        all_goals
          refine .inl ⟨N, ks ++ [k], ?_, rfl, HQ.out.1, HQ.out.2⟩
          unfold askF
          rw [if_neg HNM.out, if_pos (by rw [← HN.out]; omega), ← HN.out]

end Go.Proofs.YthoamlahbnphkaaGreat.J
