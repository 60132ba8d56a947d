import Derived.Test.YtckgjolaoifgkaaGreatQjogafjjfaiba
import Derived.Maps.Keyed
import Derived.Maps.Own
import Derived.Maps.OwnSet
import Derived.Maps.Views
import Derived.DeepKeys4
import Derived.Deep.RegionLaw
import Derived.Deep.AppendLies
import Derived.Deep.RegionHeld3

/-
  lr0: a map whose keys are items.
-/
namespace Go.Proofs.YtckgjolaoifgkaaGreat.J
open Go.RowKit Go.Maps Go.Shelf

/-- An item as a value. -/
def aggI (x : It) : Value := .agg #[.int .i64 x.1, .int .i64 x.2]
theorem laidO : laidOutB Tryz.prog = true := by kernel_rfl
theorem rowItem : (68 : TypeId) < Tryz.prog.types.size := of_decide_eq_true (by kernel_rfl)
theorem wideItem : (match Tryz.prog.underlying 68 with | some (.array _ _) | some (.struct _) => true | _ => false) = true := by rw [Tryz.underlying68]
set_option maxRecDepth 100000 in
theorem lawItem : Keyed Tryz.prog 68 := Keyed.of_law (deep_law_laid laidO (m := 2) (by omega) rowItem (by kernel_rfl) wideItem)

theorem keyTItem : Tryz.prog.keyType 68 = true := by kernel_rfl
theorem cellsItem : Tryz.prog.cellsOf 68 = 2 := by kernel_rfl
theorem cellsInt : Tryz.prog.cellsOf 3 = 1 := by kernel_rfl
theorem size_of {n k : Nat} (h : k < n) : ∃ m, n = m + 1 := ⟨n - 1, by omega⟩
theorem sizeT : ∃ m, Tryz.prog.types.size = m + 1 := size_of rowItem
/-- Numbers that an int can be. -/
def I64 (x : It) : Prop := (Lit.int .i64 x.1).wf = true ∧ (Lit.int .i64 x.2).wf = true
theorem keyItem {x : It} (h : I64 x) : ∃ kl, keyOf Tryz.prog 68 (aggI x) = some kl := by
  obtain ⟨m, hm⟩ := sizeT
  refine ⟨.string (keyBytes [.int .i64 x.1, .int .i64 x.2]), ?_⟩
  unfold keyOf aggI
  simp only [Tryz.underlying68]
  rw [if_pos (by simp [keyTItem, Value.formed, Tryz.underlying68, cellsItem]), hm]
  unfold Program.keyLits
  simp only [Tryz.underlying68, Value.cells]
  rw [if_pos (by rw [cellsItem]; exact ⟨rfl, by kernel_rfl⟩)]
  simp [List.mapM_cons, List.mapM_nil, cellsInt, Program.keyLits, Tryz.underlying3, h.1, h.2]

def heldR (v : Value) : Option (DataW Value × List MemPlace) := some (.held v, [])
theorem aggI_inj {x y : It} (h : aggI x = aggI y) : x = y := by
  unfold aggI at h
  simp at h
  exact Prod.ext h.1 h.2

/-- A map in block b: what stands at each item. -/
def MpAt (w : World) (b n : Nat) (F : It → Value) : Prop := ∃ D : DataW Value, w.ownsMap Tryz.prog 68 heldR b n D ∧ ∀ x kl, keyOf Tryz.prog 68 (aggI x) = some kl → D.atKey kl (.held (.slice none 0 0)) = .held (F x)

theorem MpAt.made (w : World) : MpAt (w.alloc (.map #[] 0)) w.heap.size 0 (fun _ => .slice none 0 0) := ⟨_, World.ownsMap_made w _ _ _, fun x kl _ => by simp [DataW.atKey]⟩
theorem MpAt.kept {w w' : World} {row : Option Nat} {b n : Nat} {F : It → Value} (h : MpAt w b n F) (hg : w.grownBy w' row) (hne : some b ≠ row) : MpAt w' b n F := by
  obtain ⟨D, h1, h2⟩ := h
  exact ⟨D, h1.kept hg hne, h2⟩
theorem MpAt.set {w : World} {b n : Nat} {F : It → Value} (h : MpAt w b n F) {a : Addr} (ha : b ≠ a.block) (u : Value) : MpAt (w.setCell a u) b n F := by
  obtain ⟨D, h1, h2⟩ := h
  exact ⟨D, h1.setCell ha u, h2⟩
theorem MpAt.look {w : World} {b n : Nat} {F : It → Value} (h : MpAt w b n F) {x : It} (hx : I64 x) : (Instr.lookup 95 (.map (some b)) (aggI x) false).run Tryz.prog w = .ok (F x) w := by
  obtain ⟨D, h1, h2⟩ := h
  obtain ⟨kl, hk⟩ := keyItem hx
  obtain ⟨v, ps, hrun, hv⟩ := h1.lookup lawItem Tryz.underlying95 (z := .slice none 0 0) (by kernel_rfl) (zd := .held (.slice none 0 0)) (zp := []) rfl hk
  rw [h2 x kl hk] at hv
  simp only [heldR, Option.some.injEq, Prod.mk.injEq, DataW.held.injEq] at hv
  rw [hrun, hv.1]
/-- F with v at x. -/
noncomputable def putI (F : It → Value) (x : It) (v : Value) : It → Value := fun y => if y = x then v else F y
theorem MpAt.update {w : World} {b n : Nat} {F : It → Value} (h : MpAt w b n F) (hn : n < maxLen) {x : It} (hx : I64 x) (v : Value) : ∃ w', (Instr.mapUpdate 95 (.map (some b)) (aggI x) v).run Tryz.prog w = .ok () w' ∧ MpAt w' b (n + 1) (putI F x v) ∧ w.grownBy w' (some b) := by
  obtain ⟨D, h1, h2⟩ := h
  obtain ⟨kl, hk⟩ := keyItem hx
  obtain ⟨w', hrun, h3, h4⟩ := h1.update lawItem Tryz.underlying95 hn hk (val := v) (d := .held v) (ps := []) rfl
  refine ⟨w', hrun, ⟨_, h3, fun y ky hy => ?_⟩, h4⟩
  unfold putI
  by_cases e : y = x
  · subst e
    rw [hk] at hy
    cases hy
    rw [if_pos rfl, atKey_put_same h1.isMap (lawItem.key hk)]
  · rw [if_neg e, atKey_put_other (fun e2 => e (aggI_inj (lawItem.inj hy (by rw [e2]; exact hk)))), h2 y ky hy]

end Go.Proofs.YtckgjolaoifgkaaGreat.J

/-
  lr0: newMaker.
-/
namespace Go.Proofs.YtckgjolaoifgkaaGreat.J
open Go.RowKit Go.Maps Go.Shelf

attribute [local go_sem] Oper.semAt_some

theorem mk_laid (w : World) (o1 o3 : Obj) : (((w.alloc o1).alloc (.map #[] 0)).alloc o3).heap[w.heap.size + 1 + 1]? = some o3 ∧ MpAt (((w.alloc o1).alloc (.map #[] 0)).alloc o3) (w.heap.size + 1) 0 (fun _ => .slice none 0 0) := by
  have e1 : ∀ (X : World) (o : Obj), (X.alloc o).heap.size = X.heap.size + 1 := fun X o => by simp
  constructor
  · rw [← e1 w o1, ← e1 (w.alloc o1) (.map #[] 0)]
    exact heap_alloc_last _ _
  · rw [← e1 w o1]
    exact (MpAt.made _).kept (World.grownBy_alloc _ _ none) (by simp)

set_option maxRecDepth 100000 in
theorem newMaker_any (ta na la pa : Option Addr) (tc nc lc pc : Nat) (n : Nat) (st : Int) (w : World) (tn nn ln : Nat) :
    Calls Tryz.prog 41 #[.agg #[.slice ta tn tc, .slice na nn nc, .slice la ln lc, .int .i64 st, .slice pa n pc]] w fun e y => ∃ mb bm : Nat, e = .returned (.pointer (some ⟨mb, 0, none⟩)) ∧ y.heap[mb]? = some (.cells #[.slice ta tn tc, .slice na nn nc, .slice la ln lc, .int .i64 st, .slice pa n pc, .slice none 0 0, .int .i64 0, .int .i64 0, .map (some bm)] 97 (0, 0)) ∧ MpAt y bm 0 (fun _ => .slice none 0 0) ∧ w.heap.size ≤ bm ∧ bm < mb ∧ w.grownBy y none := by
  have HG0 : Hid (w.grownBy (w.alloc (.cells #[.slice ta tn tc, .slice na nn nc, .slice la ln lc, .int .i64 st, .slice pa n pc] 27)) none) := World.grownBy_alloc _ _ none
  have hmm := @run_makeMap Tryz.prog
  go_enter Tryz.func41, Tryz.ntmps41
  go_wp2_with fail
  go_ret
  exact ⟨w.heap.size + 1 + 1, w.heap.size + 1, rfl, (mk_laid w _ _).1, (mk_laid w _ _).2, by omega, by omega, grown_trans HG0.out (grown_trans (World.grownBy_alloc _ _ none) (World.grownBy_alloc _ _ none))⟩

end Go.Proofs.YtckgjolaoifgkaaGreat.J

/-
  lr0: the maker in memory.
-/
namespace Go.Proofs.YtckgjolaoifgkaaGreat.J
open Go.RowKit Go.Maps Go.Shelf

/-- The states whose kernels begin with x. -/
def begI (ks : List (List It)) (x : It) : List Nat := (List.range ks.length).filter fun i => (ks.getD i []).head? == some x
theorem mem_begI {ks : List (List It)} {x : It} {i : Nat} : i ∈ begI ks x ↔ i < ks.length ∧ (ks.getD i []).head? = some x := by
  unfold begI
  rw [List.mem_filter, List.mem_range, beq_iff_eq]
theorem begI_nil (x : It) : begI [] x = [] := rfl
theorem begI_len (ks : List (List It)) (x : It) : (begI ks x).length ≤ ks.length := by
  unfold begI
  exact Nat.le_trans (List.length_filter_le _ _) (by rw [List.length_range]; exact Nat.le_refl _)
theorem begI_snoc (ks : List (List It)) (k : List It) (x : It) : begI (ks ++ [k]) x = begI ks x ++ (if k.head? = some x then [ks.length] else []) := by
  unfold begI
  rw [List.length_append, List.length_singleton, List.range_succ, List.filter_append]
  congr 1
  · refine List.filter_congr fun i hi => ?_
    rw [getD_snoc_old (List.mem_range.1 hi)]
  · by_cases h : k.head? = some x
    · rw [if_pos h, List.filter_cons, getD_snoc_new, h]; simp
    · rw [if_neg h, List.filter_cons, getD_snoc_new, if_neg (by rw [beq_iff_eq]; exact h)]; rfl

def natV (l : List Nat) : List Value := l.map fun (i : Nat) => Value.int .i64 (i : Int)
theorem natV_append (l m : List Nat) : natV (l ++ m) = natV l ++ natV m := by unfold natV; rw [List.map_append]
theorem natV_at (l : List Nat) (i : Nat) (hi : i < l.length) : (natV l)[i]? = some (.int .i64 ((l.getD i 0 : Nat) : Int)) := by
  unfold natV
  rw [List.getElem?_map, List.getElem?_eq_getElem hi, List.getD_eq_getElem?_getD, List.getElem?_eq_getElem hi]; rfl
/-- States, as cells. -/
def stV (kv ev : Nat → Value) : Nat → List Value
  | 0 => []
  | N + 1 => stV kv ev N ++ [kv N, ev N]
theorem stV_congr {kv ev kv' ev' : Nat → Value} : ∀ (N : Nat), (∀ i, i < N → kv i = kv' i ∧ ev i = ev' i) → stV kv ev N = stV kv' ev' N
  | 0, _ => rfl
  | N + 1, h => by
    unfold stV
    rw [stV_congr N (fun i hi => h i (by omega)), (h N (by omega)).1, (h N (by omega)).2]
theorem stV_len (kv ev : Nat → Value) : ∀ N, (stV kv ev N).length = N * 2
  | 0 => rfl
  | N + 1 => by unfold stV; rw [List.length_append, stV_len kv ev N]; simp; omega
theorem stV_at (kv ev : Nat → Value) : ∀ (N i : Nat), i < N → (stV kv ev N)[i * 2]? = some (kv i) ∧ (stV kv ev N)[i * 2 + 1]? = some (ev i)
  | 0, i, h => absurd h (Nat.not_lt_zero _)
  | N + 1, i, h => by
    unfold stV
    have hl := stV_len kv ev N
    by_cases e : i < N
    · rw [List.getElem?_append_left (by omega), List.getElem?_append_left (by omega)]
      exact stV_at kv ev N i e
    · have : i = N := by omega
      subst this
      rw [List.getElem?_append_right (by omega), List.getElem?_append_right (by omega), hl, Nat.sub_self, show i * 2 + 1 - i * 2 = 1 by omega]
      exact ⟨rfl, rfl⟩
theorem stV_set (kv ev : Nat → Value) (v : Value) : ∀ (N i : Nat), i < N → (stV kv ev N).set (i * 2 + 1) v = stV kv (updL ev i v) N
  | 0, i, h => absurd h (Nat.not_lt_zero _)
  | N + 1, i, h => by
    unfold stV
    have hl := stV_len kv ev N
    by_cases e : i < N
    · rw [List.set_append_left _ _ (by omega), stV_set kv ev v N i e, updL_other _ _ (by omega : N ≠ i)]
    · have : i = N := by omega
      subst this
      rw [List.set_append_right _ _ (by omega), hl, show i * 2 + 1 - i * 2 = 1 by omega, updL_same, stV_congr (kv' := kv) (ev' := updL ev i v) i (fun j hj => ⟨rfl, (updL_other _ _ (by omega)).symm⟩)]
      rfl

/-- Blocks of cells of other types than the maker's own stay. -/
structure KeepT (X Y : World) : Prop where
  os : Y.os = X.os
  tape : Y.tape = X.tape
  output : Y.output = X.output
  size : X.heap.size ≤ Y.heap.size
  block : ∀ (b : Nat) (cs : Array Value) (e : TypeId) (h : Nat × Nat), e ≠ 97 → e ≠ 72 → e ≠ 3 → X.heap[b]? = some (.cells cs e h) → Y.heap[b]? = some (.cells cs e h)
theorem KeepT.refl (X : World) : KeepT X X := ⟨rfl, rfl, rfl, Nat.le_refl _, fun _ _ _ _ _ _ _ h => h⟩
theorem KeepT.trans {X Y Z : World} (h : KeepT X Y) (k : KeepT Y Z) : KeepT X Z := ⟨k.os.trans h.os, k.tape.trans h.tape, k.output.trans h.output, Nat.le_trans h.size k.size, fun b cs e hh h1 h2 h3 h4 => k.block b cs e hh h1 h2 h3 (h.block b cs e hh h1 h2 h3 h4)⟩
theorem KeepT.none {X Y : World} (h : X.grownBy Y none) : KeepT X Y := ⟨h.os, h.tape, h.output, h.size, fun _ _ _ _ _ _ _ h4 => box_kept h4 h⟩
theorem KeepT.at {X Y : World} {r : Nat} (h : X.grownBy Y (some r)) (hr : ∀ (cs : Array Value) (e : TypeId) (hh : Nat × Nat), X.heap[r]? = some (.cells cs e hh) → e = 97 ∨ e = 72 ∨ e = 3) : KeepT X Y := ⟨h.os, h.tape, h.output, h.size, fun b cs e hh h1 h2 h3 h4 => by
  refine (h.block b (Array.getElem?_eq_some_iff.1 h4).1 ?_).trans h4
  intro e2
  have e3 : b = r := by simpa using e2
  subst e3
  rcases hr _ _ _ h4 with h5 | h5 | h5
  · exact h1 h5
  · exact h2 h5
  · exact h3 h5⟩
theorem KeepT.row {X Y : World} {B e s n : Nat} {v : Value} {xs : List Value} (h : X.grownBy Y v.ownBlock) (ho : X.ownsRow B e s v n xs) (he : e = 97 ∨ e = 72 ∨ e = 3) : KeepT X Y := by
  rcases ho.2 with ⟨rfl, _⟩ | ⟨g, cap, cur, rfl, hB, hh, _⟩
  · exact .none h
  · refine .at (r := g) h fun cs e2 hh2 h2 => ?_
    rw [hh] at h2
    simp only [Option.some.injEq, Obj.cells.injEq] at h2
    rw [← h2.2.1]; exact he
theorem KeepT.owns {X Y : World} {B e s n : Nat} {v : Value} {xs : List Value} (h : KeepT X Y) (ho : X.ownsRow B e s v n xs) (h1 : e ≠ 97) (h2 : e ≠ 72) (h3 : e ≠ 3) : Y.ownsRow B e s v n xs := by
  refine ⟨ho.1, ?_⟩
  rcases ho.2 with hn | ⟨g, cap, cur, rfl, hb, hgg, rest⟩
  · exact .inl hn
  · exact .inr ⟨g, cap, cur, rfl, hb, h.block _ _ _ _ h1 h2 h3 hgg, rest⟩
theorem KeepT.val {X Y : World} {k len : Nat} {t : TypeId} {c : Nat → Value} (h : KeepT X Y) (hv : ValAt X k len t c) (h1 : t ≠ 97) (h2 : t ≠ 72) (h3 : t ≠ 3) : ValAt Y k len t c := h.block _ _ _ _ h1 h2 h3 hv

/-- The maker under way: what its box says (bs, ba, bi), its states' row, its map and the map's rows. -/
structure MkP (w X : World) (mb bm : Nat) (c0 c1 c2 c3 c4 bs : Value) (ba bi : Int) (rv : Value) (N : Nat) (kv ev : Nat → Value) (kl el : Nat → List It) (m : Nat) (mv fv : It → Value) (nl : It → List Nat) (E : Nat) : Prop where
  grown : w.grownBy X none
  box : X.heap[mb]? = some (.cells #[c0, c1, c2, c3, c4, bs, .int .i64 ba, .int .i64 bi, .map (some bm)] 97 (0, 0))
  row : X.ownsRow w.heap.size 72 2 rv N (stV kv ev N)
  ker : ∀ i, i < N → X.ownsRow w.heap.size 68 2 (kv i) (kl i).length (itsV (kl i))
  edg : ∀ i, i < N → X.ownsRow w.heap.size 78 2 (ev i) (el i).length (itsV (el i))
  mp : MpAt X bm m mv
  num : ∀ x, X.ownsRow w.heap.size 3 1 (fv x) (nl x).length (natV (nl x))
  sep : ∀ x y, x ≠ y → (fv x).ownBlock = none ∨ (fv x).ownBlock ≠ (fv y).ownBlock
  lo : w.heap.size ≤ bm ∧ w.heap.size ≤ mb
  elo : ∀ i, i < N → ∀ b, (ev i).ownBlock = some b → b < E

theorem MpAt.obj {X : World} {b n : Nat} {F : It → Value} (h : MpAt X b n F) : ∃ es cl, X.heap[b]? = some (.map es cl) := by
  obtain ⟨D, ⟨es, cl, h1, _⟩, _⟩ := h
  exact ⟨es, cl, h1⟩
theorem owns_nemap {w : World} {B e s n r : Nat} {v : Value} {xs : List Value} {es : Array MapEntry} {cl : Nat} (h : w.ownsRow B e s v n xs) (hr : w.heap[r]? = some (.map es cl)) : v.ownBlock = none ∨ v.ownBlock ≠ some r := by
  rcases h.2 with ⟨rfl, _⟩ | ⟨g, cap, cur, rfl, hB, hh, _⟩
  · exact .inl rfl
  · right
    intro e
    have : g = r := by simpa [Value.ownBlock] using e
    subst this
    rw [hh] at hr
    cases hr

section
variable {w X Y : World} {mb bm : Nat} {c0 c1 c2 c3 c4 bs : Value} {ba bi : Int} {rv : Value} {N : Nat} {kv ev : Nat → Value} {kl el : Nat → List It} {m : Nat} {mv fv : It → Value} {nl : It → List Nat} {E : Nat}
theorem MkP.kept (h : MkP w X mb bm c0 c1 c2 c3 c4 bs ba bi rv N kv ev kl el m mv fv nl E) (hg : X.grownBy Y none) : MkP w Y mb bm c0 c1 c2 c3 c4 bs ba bi rv N kv ev kl el m mv fv nl E :=
  ⟨grown_trans h.grown hg, box_kept h.box hg, keep0 h.row hg, fun i hi => keep0 (h.ker i hi) hg, fun i hi => keep0 (h.edg i hi) hg, h.mp.kept hg (by simp), fun x => keep0 (h.num x) hg, h.sep, h.lo, h.elo⟩
theorem MkP.cells (h : MkP w X mb bm c0 c1 c2 c3 c4 bs ba bi rv N kv ev kl el m mv fv nl E) : X.cell? ⟨mb, 0, none⟩ = some c0 ∧ X.cell? ⟨mb, 1, none⟩ = some c1 ∧ X.cell? ⟨mb, 2, none⟩ = some c2 ∧ X.cell? ⟨mb, 3, none⟩ = some c3 ∧ X.cell? ⟨mb, 4, none⟩ = some c4 ∧ X.cell? ⟨mb, 5, none⟩ = some bs ∧ X.cell? ⟨mb, 6, none⟩ = some (.int .i64 ba) ∧ X.cell? ⟨mb, 7, none⟩ = some (.int .i64 bi) ∧ X.cell? ⟨mb, 8, none⟩ = some (.map (some bm)) := by
  refine ⟨?_, ?_, ?_, ?_, ?_, ?_, ?_, ?_, ?_⟩ <;> (rw [cell_of_row _ _ _ _ _ _ h.box]; rfl)
theorem MkP.free (h : MkP w X mb bm c0 c1 c2 c3 c4 bs ba bi rv N kv ev kl el m mv fv nl E) (o : Nat) : X.frozen? ⟨mb, o, none⟩ = false := frozen_of_row _ _ _ _ _ h.box
theorem MkP.ne (h : MkP w X mb bm c0 c1 c2 c3 c4 bs ba bi rv N kv ev kl el m mv fv nl E) : bm ≠ mb := by
  obtain ⟨es, cl, h1⟩ := h.mp.obj
  intro e
  rw [e, h.box] at h1
  cases h1

/-- The box alone is turned. -/
theorem MkP.boxed (h : MkP w X mb bm c0 c1 c2 c3 c4 bs ba bi rv N kv ev kl el m mv fv nl E) {bs' : Value} {ba' bi' : Int} (hg : X.grownBy Y (some mb)) (hb : Y.heap[mb]? = some (.cells #[c0, c1, c2, c3, c4, bs', .int .i64 ba', .int .i64 bi', .map (some bm)] 97 (0, 0))) : MkP w Y mb bm c0 c1 c2 c3 c4 bs' ba' bi' rv N kv ev kl el m mv fv nl E ∧ KeepT X Y := by
  refine ⟨⟨grown_new h.grown hg h.lo.2, hb, h.row.kept hg (owns_nebox h.row h.box (by decide)), fun i hi => (h.ker i hi).kept hg (owns_nebox (h.ker i hi) h.box (by decide)), fun i hi => (h.edg i hi).kept hg (owns_nebox (h.edg i hi) h.box (by decide)), h.mp.kept hg (by simp; exact h.ne), fun x => (h.num x).kept hg (owns_nebox (h.num x) h.box (by decide)), h.sep, h.lo, h.elo⟩, .at hg fun cs e hh h2 => ?_⟩
  rw [h.box] at h2
  simp only [Option.some.injEq, Obj.cells.injEq] at h2
  exact .inl h2.2.1.symm
theorem MkP.setS (h : MkP w X mb bm c0 c1 c2 c3 c4 bs ba bi rv N kv ev kl el m mv fv nl E) (v : Value) : MkP w (X.setCell ⟨mb, 5, none⟩ v) mb bm c0 c1 c2 c3 c4 v ba bi rv N kv ev kl el m mv fv nl E ∧ KeepT X (X.setCell ⟨mb, 5, none⟩ v) :=
  h.boxed (grown_setCell _ _ _) (heap_setCell_same _ _ _ _ _ _ h.box)
theorem MkP.setA (h : MkP w X mb bm c0 c1 c2 c3 c4 bs ba bi rv N kv ev kl el m mv fv nl E) (v : Int) : MkP w (X.setCell ⟨mb, 6, none⟩ (.int .i64 v)) mb bm c0 c1 c2 c3 c4 bs v bi rv N kv ev kl el m mv fv nl E ∧ KeepT X (X.setCell ⟨mb, 6, none⟩ (.int .i64 v)) :=
  h.boxed (grown_setCell _ _ _) (heap_setCell_same _ _ _ _ _ _ h.box)
theorem MkP.setI (h : MkP w X mb bm c0 c1 c2 c3 c4 bs ba bi rv N kv ev kl el m mv fv nl E) (v : Int) : MkP w (X.setCell ⟨mb, 7, none⟩ (.int .i64 v)) mb bm c0 c1 c2 c3 c4 bs ba v rv N kv ev kl el m mv fv nl E ∧ KeepT X (X.setCell ⟨mb, 7, none⟩ (.int .i64 v)) :=
  h.boxed (grown_setCell _ _ _) (heap_setCell_same _ _ _ _ _ _ h.box)

/-- A row of the maker's alone is turned: all else stays. -/
theorem grown_owned {B e s n : Nat} {v : Value} {xs : List Value} (h : w.grownBy X none) (ho : X.ownsRow B e s v n xs) (hB : w.heap.size ≤ B) (hg : X.grownBy Y v.ownBlock) : w.grownBy Y none := by
  rcases ho.2 with ⟨rfl, _⟩ | ⟨g, cap, cur, rfl, hb, hh, _⟩
  · exact grown_trans h hg
  · exact grown_new (b := g) h hg (Nat.le_trans hB hb)
theorem map_row {B e s n : Nat} {v : Value} {xs : List Value} (h : MpAt X bm m mv) (ho : X.ownsRow B e s v n xs) (hg : X.grownBy Y v.ownBlock) : MpAt Y bm m mv := by
  obtain ⟨es, cl, h1⟩ := h.obj
  refine h.kept hg ?_
  intro e
  rcases owns_nemap ho h1 with h2 | h2
  · rw [h2] at e; cases e
  · exact h2 e.symm
theorem box_row {B e e' s n b : Nat} {v : Value} {xs : List Value} {cs : Array Value} (h : X.heap[b]? = some (.cells cs e' (0, 0))) (ho : X.ownsRow B e s v n xs) (hne : e ≠ e') (hg : X.grownBy Y v.ownBlock) : Y.heap[b]? = some (.cells cs e' (0, 0)) := by
  refine (hg.block b (Array.getElem?_eq_some_iff.1 h).1 ?_).trans h
  intro e2
  rcases owns_nebox ho h hne with h2 | h2
  · rw [h2] at e2; cases e2
  · exact h2 e2.symm
theorem row_row {B B' e e' s s' n n' : Nat} {v v' : Value} {xs xs' : List Value} (h : X.ownsRow B' e' s' v' n' xs') (ho : X.ownsRow B e s v n xs) (hne : e ≠ e') (hg : X.grownBy Y v.ownBlock) : Y.ownsRow B' e' s' v' n' xs' := by
  refine ⟨h.1, ?_⟩
  rcases h.2 with hn | ⟨g, cap, cur, rfl, hb, hgg, rest⟩
  · exact .inl hn
  · exact .inr ⟨g, cap, cur, rfl, hb, box_row hgg ho hne hg, rest⟩
/-- A state more. -/
theorem MkP.pushS (h : MkP w X mb bm c0 c1 c2 c3 c4 bs ba bi rv N kv ev kl el m mv fv nl E) {rv' kv0 : Value} {k : List It} (hk : X.ownsRow w.heap.size 68 2 kv0 k.length (itsV k)) (hg : X.grownBy Y rv.ownBlock) (ho : Y.ownsRow w.heap.size 72 2 rv' (N + 1) (stV kv ev N ++ [kv0, .slice none 0 0])) : MkP w Y mb bm c0 c1 c2 c3 c4 bs ba bi rv' (N + 1) (updL kv N kv0) (updL ev N (.slice none 0 0)) (updL kl N k) (updL el N []) m mv fv nl E ∧ KeepT X Y := by
  refine ⟨⟨grown_owned h.grown h.row (Nat.le_refl _) hg, box_row h.box h.row (by decide) hg, ?_, fun i hi => ?_, fun i hi => ?_, map_row h.mp h.row hg, fun x => row_row (h.num x) h.row (by decide) hg, h.sep, h.lo, fun i hi => ?_⟩, .row hg h.row (.inr (.inl rfl))⟩
  · have e : stV (updL kv N kv0) (updL ev N (.slice none 0 0)) (N + 1) = stV kv ev N ++ [kv0, .slice none 0 0] := by
      show stV _ _ N ++ _ = _
      rw [updL_same, updL_same, stV_congr N (fun i hi => ⟨updL_other _ _ (by omega), updL_other _ _ (by omega)⟩)]
    rw [e]; exact ho
  · by_cases e : i = N
    · subst e
      rw [updL_same, updL_same]
      exact row_row hk h.row (by decide) hg
    · rw [updL_other _ _ e, updL_other _ _ e]
      exact row_row (h.ker i (by omega)) h.row (by decide) hg
  · by_cases e : i = N
    · subst e
      rw [updL_same, updL_same]
      exact World.ownsRow_nil _ _ _ _
    · rw [updL_other _ _ e, updL_other _ _ e]
      exact row_row (h.edg i (by omega)) h.row (by decide) hg
  · by_cases e : i = N
    · subst e
      rw [updL_same]
      intro b hb
      cases hb
    · rw [updL_other _ _ e]
      exact h.elo i (by omega)
def updI {α : Type} (f : It → α) (s : It) (x : α) : It → α := fun i => if i = s then x else f i
theorem updI_same {α : Type} (f : It → α) (s : It) (x : α) : updI f s x s = x := if_pos rfl
theorem updI_other {α : Type} (f : It → α) {s i : It} (x : α) (h : i ≠ s) : updI f s x i = f i := if_neg h
/-- A number more in the row of x. -/
theorem MkP.pushN (h : MkP w X mb bm c0 c1 c2 c3 c4 bs ba bi rv N kv ev kl el m mv fv nl E) (x : It) {g c t : Nat} (hg : X.grownBy Y (fv x).ownBlock) (ho : Y.ownsRow w.heap.size 3 1 (.slice (some ⟨g, 0, none⟩) ((nl x).length + 1) c) ((nl x).length + 1) (natV (nl x) ++ [.int .i64 (t : Int)])) (hat : (fv x).ownBlock = some g ∨ g = X.heap.size) : MkP w Y mb bm c0 c1 c2 c3 c4 bs ba bi rv N kv ev kl el m mv (updI fv x (.slice (some ⟨g, 0, none⟩) ((nl x).length + 1) c)) (updI nl x (nl x ++ [t])) E ∧ KeepT X Y := by
  refine ⟨⟨grown_owned h.grown (h.num x) (Nat.le_refl _) hg, box_row h.box (h.num x) (by decide) hg, row_row h.row (h.num x) (by decide) hg, fun i hi => row_row (h.ker i hi) (h.num x) (by decide) hg, fun i hi => row_row (h.edg i hi) (h.num x) (by decide) hg, map_row h.mp (h.num x) hg, fun y => ?_, fun y z hne => ?_, h.lo, h.elo⟩, .row hg (h.num x) (.inr (.inr rfl))⟩
  · by_cases e : y = x
    · subst e
      rw [updI_same, updI_same, natV_append, List.length_append, List.length_singleton]
      exact ho
    · rw [updI_other _ _ e, updI_other _ _ e]
      exact (h.num y).kept hg (h.sep y x e)
  · have key : ∀ y, y ≠ x → (fv y).ownBlock = none ∨ (fv y).ownBlock ≠ some g := fun y e => by
      rcases hat with h1 | h1
      · rw [← h1]; exact h.sep y x e
      · cases hb : (fv y).ownBlock with
        | none => exact .inl rfl
        | some k =>
          right
          intro h2
          have := ((h.num y).lt k hb).2
          have : k = g := by simpa using h2
          omega
    by_cases e : y = x
    · subst e
      have e2 : z ≠ y := fun h => hne h.symm
      rw [updI_same, updI_other _ _ e2]
      right
      rcases key z e2 with h1 | h1
      · rw [h1]; simp [Value.ownBlock]
      · exact fun h2 => h1 h2.symm
    · rw [updI_other _ _ e]
      by_cases e2 : z = x
      · subst e2
        rw [updI_same]
        exact key y e
      · rw [updI_other _ _ e2]
        exact h.sep y z hne
/-- The map is told. -/
theorem MkP.told (h : MkP w X mb bm c0 c1 c2 c3 c4 bs ba bi rv N kv ev kl el m mv fv nl E) {m' : Nat} {mv' : It → Value} (hg : X.grownBy Y (some bm)) (hm : MpAt Y bm m' mv') : MkP w Y mb bm c0 c1 c2 c3 c4 bs ba bi rv N kv ev kl el m' mv' fv nl E ∧ KeepT X Y := by
  obtain ⟨es, cl, h1⟩ := h.mp.obj
  refine ⟨⟨grown_new h.grown hg h.lo.1, (hg.block _ (Array.getElem?_eq_some_iff.1 h.box).1 (by simp; exact fun e => h.ne e.symm)).trans h.box, h.row.kept hg (owns_nemap h.row h1), fun i hi => (h.ker i hi).kept hg (owns_nemap (h.ker i hi) h1), fun i hi => (h.edg i hi).kept hg (owns_nemap (h.edg i hi) h1), hm, fun x => (h.num x).kept hg (owns_nemap (h.num x) h1), h.sep, h.lo, h.elo⟩, .at hg fun cs e hh h2 => ?_⟩
  rw [h1] at h2
  cases h2
/-- The edges of a state. -/
theorem MkP.setE (h : MkP w X mb bm c0 c1 c2 c3 c4 bs ba bi rv N kv ev kl el m mv fv nl E) {g cap i : Nat} {v : Value} {ed : List It} (hrv : rv = .slice (some ⟨g, 0, none⟩) N cap) (hi : i < N) (hv : X.ownsRow w.heap.size 78 2 v ed.length (itsV ed)) (hE : E ≤ X.heap.size) : MkP w (X.setCell ⟨g, i * 2 + 1, none⟩ v) mb bm c0 c1 c2 c3 c4 bs ba bi rv N kv (updL ev i v) kl (updL el i ed) m mv fv nl X.heap.size ∧ KeepT X (X.setCell ⟨g, i * 2 + 1, none⟩ v) := by
  have hg : X.grownBy (X.setCell ⟨g, i * 2 + 1, none⟩ v) rv.ownBlock := by rw [hrv]; exact grown_setCell _ _ _
  refine ⟨⟨grown_owned h.grown h.row (Nat.le_refl _) hg, box_row h.box h.row (by decide) hg, ?_, fun j hj => row_row (h.ker j hj) h.row (by decide) hg, fun j hj => ?_, map_row h.mp h.row hg, fun x => row_row (h.num x) h.row (by decide) hg, h.sep, h.lo, fun j hj b hb => ?_⟩, .row hg h.row (.inr (.inl rfl))⟩
  · have hr := h.row
    refine ⟨by rw [stV_len], ?_⟩
    rcases hr.2 with ⟨h1, h2⟩ | ⟨g2, cap2, cur, h1, hB, hh, h3, h4, h5, h6⟩
    · omega
    · rw [h1] at hrv
      simp only [Value.slice.injEq, Option.some.injEq, Addr.mk.injEq] at hrv
      obtain ⟨⟨rfl, _⟩, _, rfl⟩ := hrv
      refine .inr ⟨g2, cap2, cur.setIfInBounds (i * 2 + 1) v, h1, hB, heap_setCell_same _ _ _ _ _ _ hh, h3, h4, by rw [Array.size_setIfInBounds]; exact h5, ?_⟩
      rw [← stV_set kv ev v N i hi, ← h6, Array.toList_setIfInBounds, List.take_set]
  · by_cases e : j = i
    · subst e
      rw [updL_same, updL_same]
      exact row_row hv h.row (by decide) hg
    · rw [updL_other _ _ e, updL_other _ _ e]
      exact row_row (h.edg j hj) h.row (by decide) hg
  · by_cases e : j = i
    · subst e
      rw [updL_same] at hb
      exact (hv.lt b hb).2
    · rw [updL_other _ _ e] at hb
      exact Nat.lt_of_lt_of_le (h.elo j hj b hb) hE
/-- A row of edges that is no state's yet is turned. -/
theorem MkP.edged (h : MkP w X mb bm c0 c1 c2 c3 c4 bs ba bi rv N kv ev kl el m mv fv nl E) {B n : Nat} {v : Value} {xs : List Value} (ho : X.ownsRow B 78 2 v n xs) (hB : E ≤ B) (hw : w.heap.size ≤ B) (hg : X.grownBy Y v.ownBlock) : MkP w Y mb bm c0 c1 c2 c3 c4 bs ba bi rv N kv ev kl el m mv fv nl E := by
  refine ⟨grown_owned h.grown ho hw hg, box_row h.box ho (by decide) hg, row_row h.row ho (by decide) hg, fun i hi => row_row (h.ker i hi) ho (by decide) hg, fun i hi => (h.edg i hi).kept hg ?_, map_row h.mp ho hg, fun x => row_row (h.num x) ho (by decide) hg, h.sep, h.lo, h.elo⟩
  cases hb : (ev i).ownBlock with
  | none => exact .inl rfl
  | some b =>
    right
    intro e
    have h1 := h.elo i hi b hb
    have h2 := (ho.lt b e.symm).1
    omega
theorem MkP.up (h : MkP w X mb bm c0 c1 c2 c3 c4 bs ba bi rv N kv ev kl el m mv fv nl E) : MkP w X mb bm c0 c1 c2 c3 c4 bs ba bi rv N kv ev kl el m mv fv nl X.heap.size :=
  ⟨h.grown, h.box, h.row, h.ker, h.edg, h.mp, h.num, h.sep, h.lo, fun i hi b hb => ((h.edg i hi).lt b hb).2⟩
end
theorem KeepT.young {P X Y : World} {e s n : Nat} {v : Value} {xs : List Value} (h : KeepT P X) (ho : X.ownsRow P.heap.size e s v n xs) (hg : X.grownBy Y v.ownBlock) : KeepT P Y := by
  refine ⟨hg.os.trans h.os, hg.tape.trans h.tape, hg.output.trans h.output, Nat.le_trans h.size hg.size, fun b cs e2 hh h1 h2 h3 h4 => ?_⟩
  have h5 := (Array.getElem?_eq_some_iff.1 h4).1
  refine (hg.block b (Nat.lt_of_lt_of_le h5 h.size) ?_).trans (h.block b cs e2 hh h1 h2 h3 h4)
  intro e3
  have := (ho.lt b e3.symm).1
  omega

/-- The maker between two asks. -/
def MkAt (w X : World) (mb bm : Nat) (c0 c1 c2 c3 c4 : Value) (ks : List (List It)) (asked : Int) (el : Nat → List It) (E : Nat) : Prop := ∃ (sa : Option Addr) (sc : Nat) (kv ev : Nat → Value) (m : Nat) (fv : It → Value), MkP w X mb bm c0 c1 c2 c3 c4 (.slice sa ks.length sc) asked (ks.length : Int) (.slice sa ks.length sc) ks.length kv ev (fun i => ks.getD i []) el m fv fv (begI ks) E ∧ m ≤ ks.length
theorem MkAt.kept {w X Y : World} {mb bm : Nat} {c0 c1 c2 c3 c4 : Value} {ks : List (List It)} {asked : Int} {el : Nat → List It} {E : Nat} (h : MkAt w X mb bm c0 c1 c2 c3 c4 ks asked el E) (hg : X.grownBy Y none) : MkAt w Y mb bm c0 c1 c2 c3 c4 ks asked el E := by
  obtain ⟨sa, sc, kv, ev, m, fv, h1, h2⟩ := h
  exact ⟨sa, sc, kv, ev, m, fv, h1.kept hg, h2⟩
theorem mk_done {w X : World} {mb bm : Nat} {c0 c1 c2 c3 c4 : Value} {ks : List (List It)} {asked : Int} {el : Nat → List It} {E : Nat} {k : List It} {x : It} (hx : k.head? = some x) {N : Nat} (hN : N = ks.length) (hel : ∀ i, N ≤ i → el i = []) {sa : Option Addr} {sc : Nat} {kv ev : Nat → Value} {m : Nat} {fv : It → Value} {v : Value} {nl : It → List Nat} {kl : Nat → List It} (hnl : nl = begI ks) (hkl : kl = fun i => ks.getD i []) (hm : m ≤ N) (h : MkP w X mb bm c0 c1 c2 c3 c4 (.slice sa (N + 1) sc) asked ((N : Int) + 1) (.slice sa (N + 1) sc) (N + 1) kv ev (updL kl N k) (updL el N []) (m + 1) (putI fv x v) (updI fv x v) (updI nl x (nl x ++ [N])) E) : MkAt w X mb bm c0 c1 c2 c3 c4 (ks ++ [k]) asked el E := by
  subst hN hnl hkl
  have e1 : updL (fun i => ks.getD i []) ks.length k = fun i => (ks ++ [k]).getD i [] := funext fun i => by
    by_cases e : i = ks.length
    · subst e; rw [updL_same, getD_snoc_new]
    · rw [updL_other _ _ e]
      by_cases e2 : i < ks.length
      · rw [getD_snoc_old e2]
      · show ks.getD i [] = _
        rw [List.getD_eq_getElem?_getD, List.getD_eq_getElem?_getD, List.getElem?_eq_none (by omega), List.getElem?_eq_none (by rw [List.length_append, List.length_singleton]; omega)]
  have e2 : updL el ks.length [] = el := funext fun i => by
    by_cases e : i = ks.length
    · subst e; rw [updL_same, hel _ (Nat.le_refl _)]
    · rw [updL_other _ _ e]
  have e3 : updI (begI ks) x (begI ks x ++ [ks.length]) = begI (ks ++ [k]) := funext fun y => by
    rw [begI_snoc, hx]
    by_cases e : y = x
    · subst e; rw [updI_same, if_pos rfl]
    · rw [updI_other _ _ e, if_neg (by intro e2; cases e2; exact e rfl), List.append_nil]
  have e4 : putI fv x v = updI fv x v := funext fun y => by
    unfold putI updI
    rfl
  have e5 : (ks ++ [k]).length = ks.length + 1 := by rw [List.length_append, List.length_singleton]
  rw [e1, e2, e3, e4] at h
  refine ⟨sa, sc, kv, ev, m + 1, updI fv x v, ?_, by rw [e5]; omega⟩
  rw [e5]
  exact h

/-- What ask tells. -/
def AskTold (w X : World) (mb bm : Nat) (c0 c1 c2 c3 c4 : Value) (ks : List (List It)) (asked : Int) (el : Nat → List It) (E : Nat) (k : List It) (e : Ending) (y : World) : Prop :=
  (∃ (t : Nat) (ks' : List (List It)), askF ks k = some (t, ks') ∧ e = .returned (.tuple #[.int .i64 (t : Int), .bool true]) ∧ MkAt w y mb bm c0 c1 c2 c3 c4 ks' (asked + 1) el E ∧ KeepT X y)
  ∨ (askF ks k = none ∧ e = .returned (.tuple #[.int .i64 0, .bool false]) ∧ w.grownBy y none ∧ KeepT X y)
theorem AskTold.found {w X y : World} {mb bm : Nat} {c0 c1 c2 c3 c4 : Value} {ks : List (List It)} {asked : Int} {el : Nat → List It} {E : Nat} {k : List It} {t : Nat} (hnd : ks.Nodup) (ht : t < ks.length) (hk : ks.getD t [] = k) (h : MkAt w y mb bm c0 c1 c2 c3 c4 ks (asked + 1) el E) (hT : KeepT X y) : AskTold w X mb bm c0 c1 c2 c3 c4 ks asked el E k (.returned (.tuple #[.int .i64 (t : Int), .bool true])) y := by
  have e : ks.getD t [] = ks[t] := by rw [List.getD_eq_getElem?_getD, List.getElem?_eq_getElem ht]; rfl
  have hm : k ∈ ks := by rw [← hk, e]; exact List.getElem_mem ht
  refine .inl ⟨t, ks, ?_, rfl, h, hT⟩
  unfold askF
  rw [if_pos hm, ← hk, e, List.Nodup.idxOf_getElem hnd]
theorem not_mem_begI {ks : List (List It)} {k : List It} {x : It} (hx : k.head? = some x) (h : ∀ i, i < (begI ks x).length → ks.getD ((begI ks x).getD i 0) [] ≠ k) : k ∉ ks := by
  intro hm
  have h1 := List.idxOf_lt_length_iff.2 hm
  have h2 : ks.getD (ks.idxOf k) [] = k := by rw [List.getD_eq_getElem?_getD, List.getElem?_eq_getElem h1]; simp
  have h3 : ks.idxOf k ∈ begI ks x := mem_begI.2 ⟨h1, by rw [h2]; exact hx⟩
  obtain ⟨i, hi, e⟩ := List.getElem_of_mem h3
  refine h i hi ?_
  have e2 : (begI ks x).getD i 0 = ks.idxOf k := by rw [List.getD_eq_getElem?_getD, List.getElem?_eq_getElem hi]; exact e
  rw [e2]; exact h2

end Go.Proofs.YtckgjolaoifgkaaGreat.J

/-
  lr0: the maker's ask, walked.
-/
namespace Go.Proofs.YtckgjolaoifgkaaGreat.J
open Go.RowKit Go.Maps Go.Shelf

attribute [local go_sem] Oper.semAt_some

theorem infoState : (Tryz.prog.info? 72).map (fun i => (i.zero, i.size, i.bytes)) = some (some (.agg #[.slice none 0 0, .slice none 0 0]), 2, 48) := by kernel_rfl
theorem infoInt : (Tryz.prog.info? 3).map (fun i => (i.zero, i.size, i.bytes)) = some (some (.int .i64 0), 1, 8) := by kernel_rfl
theorem owns_cut {X : World} {B e s n : Nat} {v : Value} {xs : List Value} (h : X.ownsRow B e s v n xs) : ∃ a c, v = .slice a n c := by
  rcases h.2 with ⟨rfl, rfl⟩ | ⟨g, cap, cur, rfl, _⟩
  · exact ⟨_, _, rfl⟩
  · exact ⟨_, _, rfl⟩
theorem owns_at {X : World} {B e s n : Nat} {v : Value} {xs : List Value} (h : X.ownsRow B e s v n xs) (hn : 0 < n) : ∃ g c, v = .slice (some ⟨g, 0, none⟩) n c ∧ ∀ j u, xs[j]? = some u → X.cell? ⟨g, j, none⟩ = some u := by
  rcases h.2 with ⟨_, h2⟩ | ⟨g, cap, cur, rfl, hB, hh, _, _, hs, ht⟩
  · omega
  · refine ⟨g, cap, rfl, fun j u hu => ?_⟩
    rw [cell_of_row _ _ _ _ _ _ hh]
    rw [← ht, List.getElem?_take] at hu
    split at hu
    · simpa using hu
    · cases hu
theorem getD_mem {l : List Nat} {j : Nat} (h : j < l.length) : l.getD j 0 ∈ l := by
  rw [List.getD_eq_getElem?_getD, List.getElem?_eq_getElem h]; exact List.getElem_mem h

set_option maxRecDepth 100000 in
set_option maxHeartbeats 4000000 in
theorem ask_any (w X : World) (mb bm : Nat) (c0 c1 c2 c3 c4 : Value) (ks : List (List It)) (asked : Int) (el : Nat → List It) (E : Nat) (k : List It) (a : Option Addr) (c : Nat) (p d : Int) (hM : MkAt w X mb bm c0 c1 c2 c3 c4 ks asked el E) (hko : X.ownsRow w.heap.size 68 2 (.slice a k.length c) k.length (itsV k)) (hk : k.head? = some (p, d)) (hI : I64 (p, d)) (hks : ks.length ≤ 256) (hnd : ks.Nodup) (hb : ∀ i, i < ks.length → (ks.getD i []).length ≤ 1099511627776) (hkb : k.length ≤ 1099511627776) (ha0 : 0 ≤ asked) (ha1 : asked ≤ 1099511627776) (hel : ∀ i, ks.length ≤ i → el i = []) :
    Calls Tryz.prog 50 #[.pointer (some ⟨mb, 0, none⟩), .slice a k.length c] X fun e y => AskTold w X mb bm c0 c1 c2 c3 c4 ks asked el E k e y := by
  obtain ⟨sa, sc, kv, ev, m, fv, hP, hm⟩ := hM
  obtain ⟨N, hN⟩ : ∃ n, n = ks.length := ⟨_, rfl⟩
  obtain ⟨K, hK⟩ : ∃ n, n = k.length := ⟨_, rfl⟩
  have hK0 : 0 < K := by rw [hK]; cases k with
    | nil => cases hk
    | cons x l => exact Nat.succ_pos _
  have HN : Hid (N = ks.length) := hN
  have HK : Hid (K = k.length) := hK
  have HX : Hid (k.head? = some (p, d)) := hk
  have HI : Hid (I64 (p, d)) := hI
  have HND : Hid (ks.Nodup) := hnd
  have HEL : Hid (∀ i, N ≤ i → el i = []) := by rw [hN]; exact hel
  have HB : Hid (∀ i, i < N → (ks.getD i []).length ≤ 1099511627776) := by rw [hN]; exact hb
  have HM : Hid (m ≤ N) := by rw [hN]; exact hm
  have hwa : IntKind.i64.wrap (asked + 1) = asked + 1 := by rw [IntKind.wrap_i64]; omega
  obtain ⟨kb, kc, hka, hkcell⟩ := owns_at (n := K) (v := .slice a K c) (by rw [hK]; exact hko) hK0
  simp only [Value.slice.injEq] at hka
  obtain ⟨rfl, _, rfl⟩ := hka
  have hk01 : (itsV k)[0]? = some (.int .i64 p) ∧ (itsV k)[1]? = some (.int .i64 d) := by
    cases k with
    | nil => cases hk
    | cons x l => cases hk; exact ⟨rfl, rfl⟩
  rw [← hN] at hP hks
  rw [← hK] at hko hkb
  rw [← hK]
  obtain ⟨B, hBl⟩ : ∃ n, n = (begI ks (p, d)).length := ⟨_, rfl⟩
  have HBL : Hid (B = (begI ks (p, d)).length) := hBl
  have hB256 : B ≤ 256 := by have := begI_len ks (p, d); omega
  obtain ⟨fa, fc, hfv⟩ : ∃ fa fc, fv (p, d) = .slice fa B fc := by rw [hBl]; exact owns_cut (hP.num (p, d))
  obtain ⟨hP1, hT1⟩ := hP.setA (asked + 1)
  obtain ⟨y0, y1, y2, y3, y4, y5, y6, y7, y8⟩ := hP.cells
  have f6 := hP.free 6
  have hko1 : (X.setCell ⟨mb, 6, none⟩ (.int .i64 (asked + 1))).ownsRow w.heap.size 68 2 (.slice (some ⟨kb, 0, none⟩) K c) K (itsV k) := hT1.owns hko (by decide) (by decide) (by decide)
  clear hN hK hk hI hnd hel hb hm hBl hkcell y0 y1 y2 y3 y4 y5 y7 y8 hP hko
  go_enter Tryz.func50, Tryz.ntmps50
  go_wp2_with fail
  obtain ⟨X1, hX1⟩ : ∃ X1, X1 = X.setCell ⟨mb, 6, none⟩ (.int .i64 (asked + 1)) := ⟨_, rfl⟩
  rw [← hX1] at hP1 hT1 hko1
  rw [← hX1]
  clear hX1 f6 y6
  have HP1 : Hid (MkP w X1 mb bm c0 c1 c2 c3 c4 (.slice sa N sc) (asked + 1) (N : Int) (.slice sa N sc) N kv ev (fun i => ks.getD i []) el m fv fv (begI ks) E) := hP1
  have HT1 : Hid (KeepT X X1) := hT1
  have HK1 : Hid (X1.ownsRow w.heap.size 68 2 (.slice (some ⟨kb, 0, none⟩) K c) K (itsV k)) := hko1
  clear hP1 hT1 hko1
  have HKC : Hid (∀ Y, X1.grownBy Y none → Y.cell? ⟨kb, 0, none⟩ = some (.int .i64 p) ∧ Y.cell? ⟨kb, 1, none⟩ = some (.int .i64 d)) := fun Y hY => by
    obtain ⟨g, cc, e1, e2⟩ := owns_at (keep0 HK1.out hY) hK0
    simp only [Value.slice.injEq, Option.some.injEq, Addr.mk.injEq] at e1
    obtain ⟨⟨rfl, _⟩, _⟩ := e1
    exact ⟨e2 _ _ hk01.1, e2 _ _ hk01.2⟩
  obtain ⟨z0, z1⟩ := HKC.out X1 (grown_refl _ _)
  obtain ⟨_, _, _, _, _, y5, _, y7, y8⟩ := HP1.out.cells
  have hlk : ∀ q, (Instr.lookup 95 (.map (some bm)) (.agg #[.int .i64 p, .int .i64 d]) false).run Tryz.prog (X1.drewN q) = .ok (.slice fa B fc) (X1.drewN q) := fun q => by
    rw [← hfv]
    exact (HP1.out.kept (grown_drewN X1 q)).mp.look HI.out
  have hKi : (0 : Int) < (K : Int) := by omega
  go_quiet (fail)
  clear hlk z0 z1 y5 y7 y8 hKi
  go_wp2_with fail
  go_loopg [28] B (fun gk v28 wr => ∃ j : Nat, j ≤ B ∧ gk = B - j ∧ v28 = .int .i64 j ∧ X1.grownBy wr none ∧ ∀ i, i < j → ks.getD ((begI ks (p, d)).getD i 0) [] ≠ k)
  case atStart => exact ⟨0, Nat.zero_le _, rfl, rfl, grown_drewN _ _, fun i hi => absurd hi (Nat.not_lt_zero _)⟩
  case round =>
    obtain ⟨j, hj, hgj, rfl, hg, hno⟩ := hrel
    have HGJ : Hid (gk = B - j) := hgj
    have HG : Hid (X1.grownBy wr none) := hg
    have HNO : Hid (∀ i, i < j → ks.getD ((begI ks (p, d)).getD i 0) [] ≠ k) := hno
    have HPW : Hid (MkP w wr mb bm c0 c1 c2 c3 c4 (.slice sa N sc) (asked + 1) (N : Int) (.slice sa N sc) N kv ev (fun i => ks.getD i []) el m fv fv (begI ks) E) := HP1.out.kept hg
    have HKW : Hid (wr.ownsRow w.heap.size 68 2 (.slice (some ⟨kb, 0, none⟩) K c) K (itsV k)) := keep0 HK1.out hg
    have HTW : Hid (KeepT X wr) := HT1.out.trans (.none hg)
    clear hgj hg hno
    by_cases hlt : j < B
    · have hj0 : (0 : Int) ≤ (j : Int) := by omega
      have hj1 : (j : Int) < (B : Int) := by omega
      have hjd : decide (j < B) = true := decide_eq_true hlt
      have hjl : j < (begI ks (p, d)).length := by rw [← HBL.out]; exact hlt
      have hmem := mem_begI.1 (getD_mem hjl)
      have hfr := HPW.out.num (p, d)
      rw [hfv, ← HBL.out] at hfr
      obtain ⟨fb, fc2, hfe, hfcell⟩ := owns_at hfr (by omega)
      simp only [Value.slice.injEq] at hfe
      obtain ⟨rfl, _, rfl⟩ := hfe
      have r0 := hfcell _ _ (natV_at _ j hjl)
      obtain ⟨t, ht⟩ : ∃ t, t = (begI ks (p, d)).getD j 0 := ⟨_, rfl⟩
      have HT : Hid (t = (begI ks (p, d)).getD j 0) := ht
      rw [← ht] at r0 hmem
      have htN : t < N := by rw [HN.out]; exact hmem.1
      have ht0 : (0 : Int) ≤ (t : Int) := by omega
      have ht1 : (t : Int) < (N : Int) := by omega
      obtain ⟨sb, sc2, hse, hscell⟩ := owns_at HPW.out.row (by omega)
      simp only [Value.slice.injEq] at hse
      obtain ⟨rfl, _, rfl⟩ := hse
      have r1 := hscell _ _ (stV_at kv ev N t htN).1
      obtain ⟨ka, kc2, hkv⟩ := owns_cut (HPW.out.ker t htN)
      rw [hkv] at r1
      obtain ⟨bb, hbb⟩ := boolOf (ks.getD t [] = k)
      have HBB : Hid (bb = true ↔ ks.getD t [] = k) := hbb
      have hkt := HPW.out.ker t htN
      rw [hkv] at hkt
      have hIT : ItsAt wr (some ⟨kb, 0, none⟩) k := ItsAt.of (by rw [← HK.out]; exact HKW.out)
      have HC : Hid (Calls Tryz.prog 61 #[.slice ka (ks.getD t []).length kc2, .slice (some ⟨kb, 0, none⟩) K c] wr fun e y => e = .returned (.bool bb) ∧ wr.grownBy y none) := by
        rw [HK.out]
        exact equalItems_any ka (some ⟨kb, 0, none⟩) kc2 c _ k wr (ItsAt.of hkt) hIT (by have := HB.out t htN; omega) (by rw [← HK.out]; omega) bb hbb
      obtain ⟨q, hq⟩ : ∃ q, q = (ks.getD t []).length := ⟨_, rfl⟩
      simp only [← hq] at r1 HC
      obtain ⟨_, _, _, _, _, y5, _, _, _⟩ := HPW.out.cells
      clear hbb hq hkt hIT hkv hscell hfcell hfr hmem hjl ht
      go_wp2_with fail
      refine Calls.mono HC.out ?_
      rintro e w2 ⟨rfl, hg2⟩
      have HG2 : Hid (wr.grownBy w2 none) := hg2
      clear HC hg2 r0 r1 y5
      cases bb with
      | true =>
        have HEQ : Hid (ks.getD t [] = k) := HBB.out.1 rfl
        clear HBB
        go_wp2_with fail
        go_ret2
        refine AskTold.found HND.out (by rw [← HN.out]; exact htN) HEQ.out ⟨some ⟨sb, 0, none⟩, sc, kv, ev, m, fv, ?_, ?_⟩ (HTW.out.trans (.none HG2.out))
        · rw [← HN.out]; exact HPW.out.kept HG2.out
        · rw [← HN.out]; exact HM.out
      | false =>
        have HNE : Hid (ks.getD t [] ≠ k) := fun h3 => absurd (HBB.out.2 h3) (by decide)
        clear HBB
        go_wp2_with fail
        go_roundg (B - (j + 1))
        case measure => have := HGJ.out; omega
        case rel => exact ⟨j + 1, by omega, rfl, by go_num, grown_trans HG.out HG2.out, fun i hi => by
          by_cases e : i = j
          · rw [e, ← HT.out]; exact HNE.out
          · exact HNO.out i (by omega)⟩
    · have hin : B = j := by omega
      subst hin
      have hid : decide (B < B) = false := decide_eq_false (by omega)
      have HNM : Hid (k ∉ ks) := not_mem_begI HX.out (by rw [← HBL.out]; exact HNO.out)
      obtain ⟨_, _, _, _, _, y5, _, y7, _⟩ := HPW.out.cells
      by_cases h256 : N = 256
      · subst h256
        go_wp2_with fail
        go_ret2
        refine .inr ⟨?_, rfl, HPW.out.grown, HTW.out⟩
        unfold askF
        rw [if_neg HNM.out, if_neg (by rw [← HN.out]; decide)]
      · have hne : ((N : Int) == 256) = false := beq_eq_false_iff_ne.2 (by omega)
        have hne2 : (N == 256) = false := beq_eq_false_iff_ne.2 h256
        have hwn : IntKind.i64.wrap ((N : Int) + 1) = (N : Int) + 1 := by rw [IntKind.wrap_i64]; omega
        have f7 := HPW.out.free 7
        obtain ⟨hP3, hT3⟩ := HPW.out.setI ((N : Int) + 1)
        have HP3 : Hid (MkP w (wr.setCell ⟨mb, 7, none⟩ (.int .i64 ((N : Int) + 1))) mb bm c0 c1 c2 c3 c4 (.slice sa N sc) (asked + 1) ((N : Int) + 1) (.slice sa N sc) N kv ev (fun i => ks.getD i []) el m fv fv (begI ks) E) := hP3
        have HT3 : Hid (KeepT X (wr.setCell ⟨mb, 7, none⟩ (.int .i64 ((N : Int) + 1)))) := HTW.out.trans hT3
        have HK3 : Hid ((wr.setCell ⟨mb, 7, none⟩ (.int .i64 ((N : Int) + 1))).ownsRow w.heap.size 68 2 (.slice (some ⟨kb, 0, none⟩) K c) K (itsV k)) := hT3.owns HKW.out (by decide) (by decide) (by decide)
        have z5 : (wr.setCell ⟨mb, 7, none⟩ (.int .i64 ((N : Int) + 1))).cell? ⟨mb, 5, none⟩ = some (.slice sa N sc) := by obtain ⟨_, _, _, _, _, h5, _⟩ := hP3.cells; exact h5
        obtain ⟨i1, hi1, hu0, hu1, hu2⟩ := info_parts infoState
        have hsz : w.heap.size ≤ wr.heap.size := HPW.out.grown.size
        clear hP3 hT3
        go_wp2_with (at_builtin; refine wpList_append_lies _ rfl (.tmp 67) (.tmp 70) 47 rfl w.heap.size 72 i1 (.agg #[.slice none 0 0, .slice none 0 0]) 2 48 Tryz.underlying47 hi1 hu0 hu1 hu2 rfl (by decide) (.slice sa N sc) N (stV kv ev N) rfl (HP3.out.row.alloc _) ⟨wr.heap.size, 0, none⟩ 1 1 [.slice (some ⟨kb, 0, none⟩) K c, .slice none 0 0] rfl rfl (World.news_of_block (by simpa using heap_alloc_last (wr.setCell ⟨mb, 7, none⟩ (.int .i64 ((N : Int) + 1))) _)) (by simp [Value.oneCell']) (by decide) (by unfold maxLen; omega) (by omega) (by simp; omega) _ rfl ?_)
        intro g4 c4' Z hoZ hgZ _ _
        obtain ⟨hP4, hT4⟩ := (HP3.out.kept (World.grownBy_alloc _ _ none)).pushS (k := k) (by rw [← HK.out]; exact HK3.out.alloc _) hgZ hoZ
        have HK4 : Hid (Z.ownsRow w.heap.size 68 2 (.slice (some ⟨kb, 0, none⟩) K c) K (itsV k)) := hT4.owns (HK3.out.alloc _) (by decide) (by decide) (by decide)
        have HT4 : Hid (KeepT X Z) := HT3.out.trans (KeepT.trans (.none (World.grownBy_alloc _ _ none)) hT4)
        obtain ⟨hP5, hT5⟩ := hP4.setS (.slice (some ⟨g4, 0, none⟩) (N + 1) c4')
        obtain ⟨_, _, _, _, _, x5, _, _, _⟩ := hP4.cells
        have f5 := hP4.free 5
        clear hP4 hT4 hoZ hgZ HP3 HT3 HK3 z5 f7 y5 y7 hi1 hu0 hu1 hu2
        go_wp2_with fail
        obtain ⟨X5, hX5⟩ : ∃ X5, X5 = Z.setCell ⟨mb, 5, none⟩ (.slice (some ⟨g4, 0, none⟩) (N + 1) c4') := ⟨_, rfl⟩
        rw [← hX5] at hP5 hT5
        rw [← hX5]
        have HK5 : Hid (X5.ownsRow w.heap.size 68 2 (.slice (some ⟨kb, 0, none⟩) K c) K (itsV k)) := hT5.owns HK4.out (by decide) (by decide) (by decide)
        have HT5 : Hid (KeepT X X5) := HT4.out.trans hT5
        have HP5 : Hid (MkP w X5 mb bm c0 c1 c2 c3 c4 (.slice (some ⟨g4, 0, none⟩) (N + 1) c4') (asked + 1) ((N : Int) + 1) (.slice (some ⟨g4, 0, none⟩) (N + 1) c4') (N + 1) (updL kv N (.slice (some ⟨kb, 0, none⟩) K c)) (updL ev N (.slice none 0 0)) (updL (fun i => ks.getD i []) N k) (updL el N []) m fv fv (begI ks) E) := hP5
        clear hX5 hP5 hT5 HK4 HT4 x5 f5
        have HR : Hid (∀ Y, X5.grownBy Y none → Y.cell? ⟨mb, 8, none⟩ = some (.map (some bm)) ∧ Y.cell? ⟨kb, 0, none⟩ = some (.int .i64 p) ∧ Y.cell? ⟨kb, 1, none⟩ = some (.int .i64 d)) := fun Y hY => by
          obtain ⟨g, cc, e1, e2⟩ := owns_at (keep0 HK5.out hY) hK0
          simp only [Value.slice.injEq, Option.some.injEq, Addr.mk.injEq] at e1
          obtain ⟨⟨rfl, _⟩, _⟩ := e1
          obtain ⟨_, _, _, _, _, _, _, _, y8⟩ := (HP5.out.kept hY).cells
          exact ⟨y8, e2 _ _ hk01.1, e2 _ _ hk01.2⟩
        have HOW : Hid (∀ Y, X5.grownBy Y none → Y.ownsRow w.heap.size 3 1 (.slice fa B fc) B (natV (begI ks (p, d)))) := fun Y hY => by
          have h := (HP5.out.kept hY).num (p, d)
          rw [hfv, ← HBL.out] at h
          exact h
        have HPS : Hid (∀ Y, X5.grownBy Y none → w.heap.size ≤ Y.heap.size) := fun Y hY => (HP5.out.kept hY).grown.size
        have HFIN : Hid (∀ (Y W : World) (g c7 : Nat), X5.grownBy Y none → Y.grownBy W (Value.slice fa B fc).ownBlock → W.ownsRow w.heap.size 3 1 (.slice (some ⟨g, 0, none⟩) (B + 1) c7) (B + 1) (natV (begI ks (p, d)) ++ [.int .i64 (N : Int)]) → ((Value.slice fa B fc).ownBlock = some g ∨ g = Y.heap.size) →
            ∃ W', (Instr.mapUpdate 95 (.map (some bm)) (.agg #[.int .i64 p, .int .i64 d]) (.slice (some ⟨g, 0, none⟩) (B + 1) c7)).run Tryz.prog W = .ok () W' ∧ (MkAt w W' mb bm c0 c1 c2 c3 c4 (ks ++ [k]) (asked + 1) el E ∧ KeepT X W') ∧ W.cell? ⟨mb, 8, none⟩ = some (.map (some bm)) ∧ W.cell? ⟨kb, 0, none⟩ = some (.int .i64 p) ∧ W.cell? ⟨kb, 1, none⟩ = some (.int .i64 d)) := fun Y W g c7 hY hg ho hat => by
          rw [← hfv] at hg hat
          rw [HBL.out] at ho
          obtain ⟨hP6, hT6⟩ := (HP5.out.kept hY).pushN (p, d) (t := N) hg ho hat
          obtain ⟨W', hrun, hmp, hgr⟩ := hP6.mp.update (by have := HM.out; unfold maxLen; omega) HI.out (.slice (some ⟨g, 0, none⟩) ((begI ks (p, d)).length + 1) c7)
          obtain ⟨hP7, hT7⟩ := hP6.told hgr hmp
          have hk6 := hT6.owns (keep0 HK5.out hY) (by decide) (by decide) (by decide)
          obtain ⟨g9, cc, e1, e2⟩ := owns_at hk6 hK0
          simp only [Value.slice.injEq, Option.some.injEq, Addr.mk.injEq] at e1
          obtain ⟨⟨rfl, _⟩, _⟩ := e1
          obtain ⟨_, _, _, _, _, _, _, _, y8⟩ := hP6.cells
          refine ⟨W', ?_, ⟨mk_done HX.out HN.out HEL.out rfl rfl HM.out hP7, HT5.out.trans (KeepT.trans (.none hY) (hT6.trans hT7))⟩, y8, e2 _ _ hk01.1, e2 _ _ hk01.2⟩
          rw [HBL.out]
          exact hrun
        obtain ⟨r0, r1, r2⟩ := HR.out X5 (grown_refl _ _)
        have r3 : ∀ o, (X5.alloc o).cell? ⟨mb, 8, none⟩ = some (.map (some bm)) := fun o => (HR.out _ (World.grownBy_alloc _ o none)).1
        have r4 : ∀ o, (X5.alloc o).cell? ⟨kb, 0, none⟩ = some (.int .i64 p) := fun o => (HR.out _ (World.grownBy_alloc _ o none)).2.1
        have r5 : ∀ o, (X5.alloc o).cell? ⟨kb, 1, none⟩ = some (.int .i64 d) := fun o => (HR.out _ (World.grownBy_alloc _ o none)).2.2
        have hKi : (0 : Int) < (K : Int) := by omega
        obtain ⟨i2, hi2, hv0, hv1, hv2⟩ := info_parts infoInt
        obtain ⟨xs, hxs⟩ : ∃ xs, xs = natV (begI ks (p, d)) := ⟨_, rfl⟩
        rw [← hxs] at HOW HFIN
        clear hxs hk01 HP1 HT1 HK1 HKC HPW HKW HTW HGJ hid HNO HG
        go_region_law (first
          | (refine step_append_lies _ rfl (.tmp 82) (.tmp 84) 24 rfl w.heap.size 3 i2 (.int .i64 0) 1 8 Tryz.underlying24 hi2 hv0 hv1 hv2 rfl (by decide) (.slice fa B fc) B xs (by simp [Act.eval]) (HOW.out _ (grown_trans (World.grownBy_alloc _ _ none) (grown_drewN _ 1))) ⟨X5.heap.size, 0, none⟩ 1 1 [.int .i64 (N : Int)] (by simp [Act.eval]) rfl (World.news_of_block (heap_alloc_last X5 _)) (by simp [Value.oneCell']) (by decide) (by unfold maxLen; omega) (by omega) (HPS.out _ (grown_trans (World.grownBy_alloc _ _ none) (grown_drewN _ 1))) _ rfl ?_; intro g7 c7 wB hoB hgB hat _; obtain ⟨wC, hup, hq, q1, q2, q3⟩ := HFIN.out _ wB g7 c7 (grown_trans (World.grownBy_alloc _ _ none) (grown_drewN _ 1)) hgB hoB hat; have HQ := show Hid _ from hq; clear hq hoB hgB hat)
          | fail)
        all_goals go_wp2_with fail
        all_goals go_ret2
        all_goals
          refine .inl ⟨N, ks ++ [k], ?_, rfl, HQ.out.1, HQ.out.2⟩
          unfold askF
          rw [if_neg HNM.out, if_pos (by rw [← HN.out]; omega), ← HN.out]

end Go.Proofs.YtckgjolaoifgkaaGreat.J

/-
  lr0: the maker's leave, walked.
-/
namespace Go.Proofs.YtckgjolaoifgkaaGreat.J
open Go.RowKit Go.Maps Go.Shelf

attribute [local go_sem] Oper.semAt_some

theorem infoEdge : (Tryz.prog.info? 78).map (fun i => (i.zero, i.size, i.bytes)) = some (some (.agg #[.int .i64 0, .int .i64 0]), 2, 16) := by kernel_rfl

/-- Edges as pairs of numbers. -/
def edI (ed : List (Nat × Nat)) : List It := ed.map fun x => ((x.1 : Int), (x.2 : Int))
theorem edI_len (ed : List (Nat × Nat)) : (edI ed).length = ed.length := by unfold edI; rw [List.length_map]
theorem edI_snoc (ed : List (Nat × Nat)) (s t : Nat) : edI (ed ++ [(s, t)]) = edI ed ++ [((s : Int), (t : Int))] := by unfold edI; rw [List.map_append]; rfl

/-- What a kernel that is the j-th at most is. -/
def PJ (n : Nat) (R : Nat → List Int) (j : Nat) (k : List It) : Prop := (∀ x ∈ k, itB n R x = true) ∧ k.length ≤ 1 + 13000 * j
theorem kerT_item {n : Nat} {R : Nat → List Int} {l : List It} (h : ∀ x ∈ l, itB n R x = true) {s : Nat} : ∀ x ∈ kerT R l (s : Int), itB n R x = true := by
  intro x hx
  unfold kerT at hx
  obtain ⟨y, hy, rfl⟩ := List.mem_map.1 hx
  obtain ⟨hy1, hy2⟩ := List.mem_filter.1 hy
  have h1 := h y hy1
  have h2 : aheadV R y = (s : Int) := by simpa using hy2
  unfold itB at h1 ⊢
  simp only [Bool.and_eq_true, decide_eq_true_eq] at h1 ⊢
  obtain ⟨⟨⟨a1, a2⟩, a3⟩, a4⟩ := h1
  refine ⟨⟨⟨a1, a2⟩, by omega⟩, ?_⟩
  unfold aheadV at h2
  by_cases e : y.2 = ((R y.1.toNat).length : Int)
  · rw [if_pos e] at h2; omega
  · omega
theorem i64_of {n : Nat} {R : Nat → List Int} {x : It} (hn : n ≤ 97) (hR : ∀ k, k < n → (R k).length ≤ 17592186044416) (h : itB n R x = true) : I64 x := by
  unfold itB at h
  simp only [Bool.and_eq_true, decide_eq_true_eq] at h
  obtain ⟨⟨⟨a1, a2⟩, a3⟩, a4⟩ := h
  have := hR x.1.toNat (by omega)
  constructor
  · exact WalkArith.wf_i64 ⟨by omega, by omega⟩
  · exact WalkArith.wf_i64 ⟨by omega, by omega⟩
theorem PJ.ker {n : Nat} {R : Nat → List Int} {i m : Nat} {l I : List It} {s : Nat} (hI : PJ n R i I) (hl : ∀ x ∈ l, itB n R x = true) (hll : l.length ≤ I.length + 13000) (hm : i < m) : PJ n R m (kerT R l (s : Int)) := by
  refine ⟨kerT_item hl, ?_⟩
  have h1 := kerT_len R l (s : Int)
  have h2 := hI.2
  have h3 : 13000 * (i + 1) ≤ 13000 * m := Nat.mul_le_mul_left _ hm
  omega
theorem leaveF_skip {G : Nat → List It} {ks ks' : List (List It)} {ed : List (Nat × Nat)} {s : Nat} (h : leaveF G ks s = some (ks', ed)) (h0 : G s = []) : leaveF G ks (s + 1) = some (ks', ed) := by
  unfold leaveF
  rw [h]
  simp only
  rw [if_pos h0]
theorem leaveF_push {G : Nat → List It} {ks ks' ks2 : List (List It)} {ed : List (Nat × Nat)} {s t : Nat} (h : leaveF G ks s = some (ks', ed)) (h0 : G s ≠ []) (ha : askF ks' (G s) = some (t, ks2)) : leaveF G ks (s + 1) = some (ks2, ed ++ [(s, t)]) := by
  unfold leaveF
  rw [h]
  simp only
  rw [if_neg h0, ha]
theorem leaveF_full {G : Nat → List It} {ks ks' : List (List It)} {ed : List (Nat × Nat)} {s S : Nat} (h : leaveF G ks s = some (ks', ed)) (h0 : G s ≠ []) (ha : askF ks' (G s) = none) (hs : s < S) : leaveF G ks S = none := by
  have h1 : leaveF G ks (s + 1) = none := by
    unfold leaveF
    rw [h]
    simp only
    rw [if_neg h0, ha]
  have h2 := leaveF_none h1 (S - (s + 1))
  rwa [show s + 1 + (S - (s + 1)) = S by omega] at h2

theorem MkAt.up {w X : World} {mb bm : Nat} {c0 c1 c2 c3 c4 : Value} {ks : List (List It)} {asked : Int} {el : Nat → List It} {E : Nat} (h : MkAt w X mb bm c0 c1 c2 c3 c4 ks asked el E) : MkAt w X mb bm c0 c1 c2 c3 c4 ks asked el X.heap.size := by
  obtain ⟨sa, sc, kv, ev, m, fv, h1, h2⟩ := h
  exact ⟨sa, sc, kv, ev, m, fv, h1.up, h2⟩
theorem MkAt.edged {w X Y : World} {mb bm : Nat} {c0 c1 c2 c3 c4 : Value} {ks : List (List It)} {asked : Int} {el : Nat → List It} {E : Nat} (h : MkAt w X mb bm c0 c1 c2 c3 c4 ks asked el E) {B n : Nat} {v : Value} {xs : List Value} (ho : X.ownsRow B 78 2 v n xs) (hB : E ≤ B) (hw : w.heap.size ≤ B) (hg : X.grownBy Y v.ownBlock) : MkAt w Y mb bm c0 c1 c2 c3 c4 ks asked el E := by
  obtain ⟨sa, sc, kv, ev, m, fv, h1, h2⟩ := h
  exact ⟨sa, sc, kv, ev, m, fv, h1.edged ho hB hw hg, h2⟩
theorem owns_base {X : World} {B B' e s n : Nat} {v : Value} {xs : List Value} (h : X.ownsRow B e s v n xs) (hb : B' ≤ B) : X.ownsRow B' e s v n xs := by
  refine ⟨h.1, ?_⟩
  rcases h.2 with h1 | ⟨g, cap, cur, hv, hB, hr⟩
  · exact .inl h1
  · exact .inr ⟨g, cap, cur, hv, by omega, hr⟩

/-- What leave tells. -/
def LeaveTold (w X : World) (mb bm : Nat) (c0 c1 c2 c3 c4 : Value) (tn n S : Nat) (L : Nat → Int) (R : Nat → List Int) (ks : List (List It)) (asked : Int) (el : Nat → List It) (i : Nat) (e : Ending) (y : World) : Prop :=
  ∃ l, IsClo tn n L R (ks.getD i []) l ∧ l.length ≤ (ks.getD i []).length + 13000 ∧
  ((∃ (ks' : List (List It)) (ed : List (Nat × Nat)) (E : Nat), leaveF (fun s => kerT R l (s : Int)) ks S = some (ks', ed) ∧ e = .returned (.bool true) ∧ MkAt w y mb bm c0 c1 c2 c3 c4 ks' (asked + ed.length) (updL el i (edI ed)) E ∧ KeepT X y)
  ∨ (leaveF (fun s => kerT R l (s : Int)) ks S = none ∧ e = .returned (.bool false) ∧ w.grownBy y none ∧ KeepT X y))

set_option maxRecDepth 100000 in
set_option maxHeartbeats 4000000 in
theorem leave_any (ta na la pa : Option Addr) (tc nc lc pc : Nat) (n : Nat) (L : Nat → Int) (R : Nat → List Int) (ra : Nat → Option Addr) (rc : Nat → Nat) (V : Nat → Int) (st : Int) (w X : World) (tn nn ln : Nat) (hP : ProdsAt w pa n L R ra rc V) (hn : n ≤ 97) (hn0 : 0 < n) (htn : tn ≤ 65) (hnn : nn ≤ 65) (hR : ∀ k, k < n → ∀ x ∈ R k, (0 : Int) ≤ x ∧ x < ((tn + nn : Nat) : Int)) (hLr : ∀ k, k < n → (0 : Int) ≤ L k ∧ L k < ((tn + nn : Nat) : Int)) (hRb : ∀ k, k < n → (R k).length ≤ 17592186044416)
    (mb bm : Nat) (ks : List (List It)) (asked : Int) (el : Nat → List It) (E : Nat) (i : Nat) (hM : MkAt w X mb bm (.slice ta tn tc) (.slice na nn nc) (.slice la ln lc) (.int .i64 st) (.slice pa n pc) ks asked el E) (hK : KsOK (PJ n R) ks) (hi : i < ks.length) (ha0 : 0 ≤ asked) (ha1 : asked ≤ 549755813888) (hel : ∀ j, i ≤ j → el j = []) :
    Calls Tryz.prog 51 #[.pointer (some ⟨mb, 0, none⟩), .int .i64 (i : Int)] X fun e y => LeaveTold w X mb bm (.slice ta tn tc) (.slice na nn nc) (.slice la ln lc) (.int .i64 st) (.slice pa n pc) tn n (tn + nn) L R ks asked el i e y := by
  obtain ⟨S, hS⟩ : ∃ S, S = tn + nn := ⟨_, rfl⟩
  rw [← hS]
  have hSz : S ≤ 130 := by omega
  obtain ⟨sa, sc, kv, ev, m, fv, hMP, hmm⟩ := hM
  have hMX := hMP
  obtain ⟨sb, sc2, hse, hscell⟩ := owns_at hMP.row (by omega)
  simp only [Value.slice.injEq] at hse
  obtain ⟨rfl, _, rfl⟩ := hse
  have hr1 := hscell _ _ (stV_at kv ev ks.length i hi).1
  obtain ⟨ka, kc, hkv⟩ := owns_cut (hMP.ker i hi)
  have hkr := hMP.ker i hi
  rw [hkv] at hr1 hkr
  obtain ⟨N, hN⟩ : ∃ n, n = ks.length := ⟨_, rfl⟩
  obtain ⟨q, hq⟩ : ∃ q, q = (ks.getD i []).length := ⟨_, rfl⟩
  have HQ0 : Hid (q = (ks.getD i []).length) := hq
  have hqb : (ks.getD i []).length ≤ 3328001 := by
    have h1 := (hK.each i hi).2
    have h2 := hK.le
    have h3 : 13000 * i ≤ 13000 * 256 := Nat.mul_le_mul_left _ (by omega)
    omega
  have HKE : Hid (∀ Y, X.grownBy Y none → Calls Tryz.prog 62 #[.agg #[.slice ta tn tc, .slice na nn nc, .slice la ln lc, .int .i64 st, .slice pa n pc], .slice ka q kc] Y fun e y => KerTold tn n S L R (ks.getD i []) Y e y) := fun Y hY => by
    rw [hq, hS]
    exact kernels_any ta na la pa tc nc lc pc n L R ra rc V st Y tn nn ln (prods_kept hP (grown_trans hMP.grown hY)) hn hn0 htn hnn hR hLr hRb ka kc (ks.getD i []) (ItsAt.of (keep0 hkr hY)) (fun e => by
      rcases hkr.2 with ⟨h1, h2⟩ | ⟨g, cap, cur, h1, _⟩
      · simp only [Value.slice.injEq] at h1
        exact ⟨h2, h1.2.2⟩
      · simp only [Value.slice.injEq] at h1
        rw [e] at h1
        cases h1.1) (by omega) (hK.each i hi).1
  have HKS : Hid (∀ Y, X.grownBy Y none → (Y.cell? ⟨mb, 0, none⟩ = some (.slice ta tn tc) ∧ Y.cell? ⟨mb, 1, none⟩ = some (.slice na nn nc) ∧ Y.cell? ⟨mb, 2, none⟩ = some (.slice la ln lc) ∧ Y.cell? ⟨mb, 3, none⟩ = some (.int .i64 st) ∧ Y.cell? ⟨mb, 4, none⟩ = some (.slice pa n pc)) ∧ Y.cell? ⟨mb, 5, none⟩ = some (.slice (some ⟨sb, 0, none⟩) N sc) ∧ Y.cell? ⟨sb, i * 2, none⟩ = some (.slice ka q kc)) := fun Y hY => by
    obtain ⟨y0, y1, y2, y3, y4, y5, _⟩ := (hMP.kept hY).cells
    exact ⟨⟨y0, y1, y2, y3, y4⟩, by rw [hN]; exact y5, by rw [hq]; exact hY.cell hr1 (by simp)⟩
  have HMA : Hid (MkAt w X mb bm (.slice ta tn tc) (.slice na nn nc) (.slice la ln lc) (.int .i64 st) (.slice pa n pc) ks asked el X.heap.size) := ⟨_, _, kv, ev, m, fv, hMX.up, hmm⟩
  have HIN : Hid (i < ks.length) := hi
  have hiN : i < N := by rw [hN]; exact hi
  have hi0 : (0 : Int) ≤ (i : Int) := by omega
  have hi1 : (i : Int) < (N : Int) := by omega
  have HK : Hid (KsOK (PJ n R) ks) := hK
  have HEL : Hid (∀ j, i ≤ j → el j = []) := hel
  have HRB : Hid (∀ k, k < n → (R k).length ≤ 17592186044416) := hRb
  have HUP : Hid (X.grownBy X.drew none) := grown_drewN _ 1
  have hN256 : N ≤ 256 := by rw [hN]; exact hK.le
  have HWX : Hid (w.heap.size ≤ X.heap.size) := hMP.grown.size
  clear hP hR hLr hK hel hRb hMP hMX hscell hkr hr1 hkv hq hN hS hi hmm hqb
  go_enter Tryz.func51, Tryz.ntmps51
  go_wp2_with fail
  go_region_held3 (fun Y => (Y.cell? ⟨mb, 0, none⟩ = some (.slice ta tn tc) ∧ Y.cell? ⟨mb, 1, none⟩ = some (.slice na nn nc) ∧ Y.cell? ⟨mb, 2, none⟩ = some (.slice la ln lc) ∧ Y.cell? ⟨mb, 3, none⟩ = some (.int .i64 st) ∧ Y.cell? ⟨mb, 4, none⟩ = some (.slice pa n pc)) ∧ Y.cell? ⟨mb, 5, none⟩ = some (.slice (some ⟨sb, 0, none⟩) N sc) ∧ Y.cell? ⟨sb, i * 2, none⟩ = some (.slice ka q kc)) (first | exact HKS.out _ HUP.out | exact HKS.out _ HG4.out | go_keep)
    ((first
      | (go_at_call 62; refine Calls.mono (HKE.out _ HUP.out) ?_; rintro e P ⟨l, rb, ua, uc, hIC, hll, rfl, hrb, hv, ho, hgP⟩; have HG4 : Hid (X.grownBy P none) := grown_trans HUP.out hgP; have HIC : Hid (IsClo tn n L R (ks.getD i []) l ∧ l.length ≤ (ks.getD i []).length + 13000) := ⟨hIC, hll⟩; have HV : Hid (ValAt P rb S 69 (fun s => .slice (ua s) (kerT R l (s : Int)).length (uc s))) := hv; have HO : Hid (∀ s, s < S → P.ownsRow X.heap.size 68 2 (.slice (ua s) (kerT R l (s : Int)).length (uc s)) (kerT R l (s : Int)).length (itsV (kerT R l (s : Int)))) := ho; clear hIC hll hrb hv ho hgP)
      | fail))
  have HIM : Hid (∀ x ∈ l, itB n R x = true) := fun x hx => ((HIC.out.1.mem x).1 hx).item (HK.out.each i HIN.out).1
  have HLV : Hid (∀ s ks' ed, leaveF (fun s => kerT R l (s : Int)) ks s = some (ks', ed) → KsOK (PJ n R) ks' ∧ ks <+: ks' ∧ ed.length ≤ s) := fun s ks' ed h => by
    obtain ⟨h1, h2, h3, _⟩ := HK.out.leave (G := fun s => kerT R l (s : Int)) (fun m t hm => PJ.ker (HK.out.each i HIN.out) HIM.out HIC.out.2 (Nat.lt_of_lt_of_le HIN.out hm)) s h
    exact ⟨h1, h2, h3⟩
  have HXP : Hid (w.heap.size ≤ P.heap.size) := Nat.le_trans HWX.out HG4.out.size
  have HMP : Hid (MkAt w P mb bm (.slice ta tn tc) (.slice na nn nc) (.slice la ln lc) (.int .i64 st) (.slice pa n pc) ks asked el P.heap.size) := (HMA.out.kept HG4.out).up
  obtain ⟨i3, hi3, hv0, hv1, hv2⟩ := info_parts infoEdge
  go_wp2_with fail
  go_loopg [5, 25] S (fun gk v5 v25 wr => ∃ (s : Nat) (ks' : List (List It)) (ed : List (Nat × Nat)) (em : Nat) (ea : Option Addr) (ec : Nat), s ≤ S ∧ gk = S - s ∧ v25 = .int .i64 s ∧ v5 = .slice ea em ec ∧ em = ed.length ∧ leaveF (fun s => kerT R l (s : Int)) ks s = some (ks', ed) ∧ wr.ownsRow P.heap.size 78 2 (.slice ea em ec) em (itsV (edI ed)) ∧ MkAt w wr mb bm (.slice ta tn tc) (.slice na nn nc) (.slice la ln lc) (.int .i64 st) (.slice pa n pc) ks' (asked + em) el P.heap.size ∧ KeepT P wr)
  case atStart => exact ⟨0, ks, [], 0, none, 0, Nat.zero_le _, rfl, rfl, rfl, rfl, rfl, World.ownsRow_nil _ _ _ _, by simpa using HMP.out, .refl _⟩
  case round =>
    obtain ⟨s, ks', ed, em, ea, ec, hs, hgs, rfl, rfl, hem, hlv, hoe, hmk, hkt⟩ := hrel
    have HGS : Hid (gk = S - s) := hgs
    have HEM : Hid (em = ed.length) := hem
    have HLF : Hid (leaveF (fun s => kerT R l (s : Int)) ks s = some (ks', ed)) := hlv
    have HOE : Hid (wr.ownsRow P.heap.size 78 2 (.slice ea em ec) em (itsV (edI ed))) := hoe
    have HMK : Hid (MkAt w wr mb bm (.slice ta tn tc) (.slice na nn nc) (.slice la ln lc) (.int .i64 st) (.slice pa n pc) ks' (asked + em) el P.heap.size) := hmk
    have HKT : Hid (KeepT P wr) := hkt
    have hems : em ≤ s := by rw [hem]; exact (HLV.out _ _ _ hlv).2.2
    clear hgs hem hlv hoe hmk hkt HMP HMA
    by_cases hlt : s < S
    · have hs0 : (0 : Int) ≤ (s : Int) := by omega
      have hs1 : (s : Int) < (S : Int) := by omega
      have hsd : decide (s < S) = true := decide_eq_true hlt
      have r0 := (HKT.out.val HV.out (by decide) (by decide) (by decide)).cell s hlt
      have hko := HKT.out.owns (HO.out s hlt) (by decide) (by decide) (by decide)
      obtain ⟨K, hK⟩ : ∃ K, K = kerT R l (s : Int) := ⟨_, rfl⟩
      have HKK : Hid (K = kerT R l (s : Int)) := hK
      have hKi : ∀ x ∈ K, itB n R x = true := by rw [hK]; exact kerT_item HIM.out
      have hKl : K.length ≤ 3341001 := by
        rw [hK]
        have h1 := kerT_len R l (s : Int)
        have h2 := HIC.out.2
        have h3 := (HK.out.each i HIN.out).2
        have h4 : 13000 * i ≤ 13000 * 256 := Nat.mul_le_mul_left _ (by omega)
        omega
      rw [← hK] at r0 hko
      clear hK
      cases K with
      | nil =>
        have HLF2 : Hid (leaveF (fun s => kerT R l (s : Int)) ks (s + 1) = some (ks', ed)) := leaveF_skip HLF.out HKK.out.symm
        simp only [List.length_nil] at r0
        clear hko hKi hKl
        go_wp2_with fail
        go_roundg (S - (s + 1))
        case measure => have := HGS.out; omega
        case rel => exact ⟨s + 1, ks', ed, em, ea, ec, by omega, rfl, by go_num, rfl, HEM.out, HLF2.out, HOE.out, HMK.out, HKT.out⟩
      | cons x0 K' =>
        have hI64 : I64 x0 := i64_of hn HRB.out (hKi x0 List.mem_cons_self)
        obtain ⟨hk1, hk2, _⟩ := HLV.out _ _ _ HLF.out
        have hle := hk2.length_le
        obtain ⟨p, d⟩ := x0
        have HC : Hid (Calls Tryz.prog 50 #[.pointer (some ⟨mb, 0, none⟩), .slice (ua s) ((p, d) :: K').length (uc s)] wr fun e y => AskTold w wr mb bm (.slice ta tn tc) (.slice na nn nc) (.slice la ln lc) (.int .i64 st) (.slice pa n pc) ks' (asked + em) el P.heap.size ((p, d) :: K') e y) := by
          have hIL := HIN.out
          refine ask_any w wr mb bm _ _ _ _ _ ks' (asked + em) el P.heap.size ((p, d) :: K') (ua s) (uc s) p d HMK.out (owns_base hko HWX.out) rfl hI64 hk1.le hk1.nodup (fun j hj => ?_) (by omega) (by omega) (by omega) (fun j hj => HEL.out j (by omega))
          have h1 := (hk1.each j hj).2
          have h2 := hk1.le
          have h4 : 13000 * j ≤ 13000 * 256 := Nat.mul_le_mul_left _ (by omega)
          omega
        have HNE : Hid (kerT R l (s : Int) ≠ []) := by show _ ≠ _; rw [← HKK.out]; exact List.cons_ne_nil _ _
        obtain ⟨kl, hkl⟩ : ∃ k, k = ((p, d) :: K').length := ⟨_, rfl⟩
        have hkl0 : ((kl : Int) == 0) = false := beq_eq_false_iff_ne.2 (by rw [hkl, List.length_cons]; omega)
        have hkl1 : (kl == 0) = false := beq_eq_false_iff_ne.2 (by rw [hkl, List.length_cons]; omega)
        rw [← hkl] at r0 HC
        clear hko hKi hKl hI64 hk1 hk2 hle hkl
        go_wp2_with fail
        refine Calls.mono HC.out ?_
        rintro e w2 (⟨t, ks2, ha, rfl, hM2, hT2⟩ | ⟨ha, rfl, hg2, hT2⟩)
        · have HLF2 : Hid (leaveF (fun s => kerT R l (s : Int)) ks (s + 1) = some (ks2, ed ++ [(s, t)])) := leaveF_push HLF.out HNE.out (by show askF ks' (kerT R l (s : Int)) = _; rw [← HKK.out]; exact ha)
          have HM2 : Hid (MkAt w w2 mb bm (.slice ta tn tc) (.slice na nn nc) (.slice la ln lc) (.int .i64 st) (.slice pa n pc) ks2 (asked + em + 1) el P.heap.size) := hM2
          have HT2 : Hid (KeepT P w2) := HKT.out.trans hT2
          have HO2 : Hid (w2.ownsRow P.heap.size 78 2 (.slice ea em ec) em (itsV (edI ed))) := hT2.owns HOE.out (by decide) (by decide) (by decide)
          have hsz : P.heap.size ≤ w2.heap.size := HT2.out.size
          clear ha hM2 hT2 HC r0 HMK HKT HOE
          go_wp2_with (at_builtin; refine wpList_append_lies _ rfl (.tmp 41) (.tmp 45) 70 rfl P.heap.size 78 i3 (.agg #[.int .i64 0, .int .i64 0]) 2 16 Tryz.underlying70 hi3 hv0 hv1 hv2 rfl (by decide) (.slice ea em ec) em (itsV (edI ed)) rfl (HO2.out.alloc _) ⟨w2.heap.size, 0, none⟩ 1 1 [.int .i64 (s : Int), .int .i64 (t : Int)] rfl rfl (World.news_of_block (heap_alloc_last w2 _)) (by simp [Value.oneCell']) (by decide) (by unfold maxLen; omega) (by omega) (by simp; omega) _ rfl ?_)
          intro g7 c7 Z hoZ hgZ _ _
          have HMZ : Hid (MkAt w Z mb bm (.slice ta tn tc) (.slice na nn nc) (.slice la ln lc) (.int .i64 st) (.slice pa n pc) ks2 (asked + em + 1) el P.heap.size) := (HM2.out.kept (World.grownBy_alloc _ _ none)).edged (HO2.out.alloc _) (Nat.le_refl _) HXP.out hgZ
          have HTZ : Hid (KeepT P Z) := KeepT.young (HT2.out.trans (.none (World.grownBy_alloc _ _ none))) (HO2.out.alloc _) hgZ
          have HOZ : Hid (Z.ownsRow P.heap.size 78 2 (.slice (some ⟨g7, 0, none⟩) (em + 1) c7) (em + 1) (itsV (edI (ed ++ [(s, t)])))) := by
            rw [edI_snoc, itsV_append]; exact hoZ
          clear hoZ hgZ HM2 HT2 HO2
          go_wp2_with fail
          go_roundg (S - (s + 1))
          case measure => have := HGS.out; omega
          case rel => exact ⟨s + 1, ks2, ed ++ [(s, t)], em + 1, some ⟨g7, 0, none⟩, c7, by omega, rfl, by go_num, rfl, by rw [HEM.out, List.length_append]; rfl, HLF2.out, HOZ.out, by rw [show asked + ((em + 1 : Nat) : Int) = asked + em + 1 by omega]; exact HMZ.out, HTZ.out⟩
        · have HNO : Hid (leaveF (fun s => kerT R l (s : Int)) ks S = none) := leaveF_full HLF.out HNE.out (by show askF ks' (kerT R l (s : Int)) = _; rw [← HKK.out]; exact ha) hlt
          have HG2 : Hid (w.grownBy w2 none ∧ KeepT X w2) := ⟨hg2, (KeepT.none HG4.out).trans (HKT.out.trans hT2)⟩
          clear ha hg2 hT2 HC r0 HMK HKT HOE
          go_wp2_with fail
          go_ret
          exact ⟨l, HIC.out.1, HIC.out.2, .inr ⟨HNO.out, rfl, HG2.out.1, HG2.out.2⟩⟩
    · have hsS : S = s := by omega
      subst hsS
      have hsd : decide (S < S) = false := decide_eq_false (by omega)
      obtain ⟨hk1, hk2, _⟩ := HLV.out _ _ _ HLF.out
      have hle := hk2.length_le
      have HIL : Hid (i < ks'.length) := Nat.lt_of_lt_of_le HIN.out hle
      obtain ⟨sa9, sc9, kv9, ev9, m9, fv9, hM9, hm9⟩ := HMK.out
      obtain ⟨sb9, sc8, hse, hscell⟩ := owns_at hM9.row (by have := HIL.out; omega)
      simp only [Value.slice.injEq] at hse
      obtain ⟨rfl, _, rfl⟩ := hse
      have r1 := hscell _ _ (stV_at kv9 ev9 ks'.length i HIL.out).2
      have f1 : wr.frozen? ⟨sb9, i * 2 + 1, none⟩ = false := by
        rcases hM9.row.2 with ⟨h1, _⟩ | ⟨g, cap, cur, h1, _, hh, _⟩
        · cases h1
        · simp only [Value.slice.injEq, Option.some.injEq, Addr.mk.injEq] at h1
          obtain ⟨⟨rfl, _⟩, _⟩ := h1
          exact frozen_of_row _ _ _ _ _ hh
      obtain ⟨_, _, _, _, _, y5, _, _, _⟩ := hM9.cells
      have HFN : Hid (MkAt w (wr.setCell ⟨sb9, i * 2 + 1, none⟩ (.slice ea em ec)) mb bm (.slice ta tn tc) (.slice na nn nc) (.slice la ln lc) (.int .i64 st) (.slice pa n pc) ks' (asked + em) (updL el i (edI ed)) wr.heap.size ∧ KeepT X (wr.setCell ⟨sb9, i * 2 + 1, none⟩ (.slice ea em ec))) := by
        have h1 := owns_base HOE.out HXP.out
        have h2 := hM9.setE (ed := edI ed) (v := .slice ea em ec) rfl HIL.out (by rw [edI_len, ← HEM.out]; exact h1) HKT.out.size
        exact ⟨⟨_, _, kv9, _, m9, fv9, h2.1, hm9⟩, (KeepT.none HG4.out).trans (HKT.out.trans h2.2)⟩
      obtain ⟨N9, hN9⟩ : ∃ n, n = ks'.length := ⟨_, rfl⟩
      have hi9 : i < N9 := by rw [hN9]; exact HIL.out
      have hi91 : (i : Int) < (N9 : Int) := by omega
      rw [← hN9] at y5
      clear hk1 hk2 hle hM9 hm9 hscell hN9
      go_wp2_with fail
      go_ret
      exact ⟨l, HIC.out.1, HIC.out.2, .inl ⟨ks', ed, wr.heap.size, HLF.out, rfl, by rw [← HEM.out]; exact HFN.out.1, HFN.out.2⟩⟩

end Go.Proofs.YtckgjolaoifgkaaGreat.J

/-
  lr0: the maker's automaton, and Build.
-/
namespace Go.Proofs.YtckgjolaoifgkaaGreat.J
open Go.RowKit Go.Maps Go.Shelf

attribute [local go_sem] Oper.semAt_some

/-- The closure of a kernel. -/
noncomputable def CLo (tn n : Nat) (L : Nat → Int) (R : Nat → List Int) (k : List It) : List It := by
  classical exact if h : ∃ l, IsClo tn n L R k l ∧ l.length ≤ k.length + 13000 then Classical.choose h else []
theorem CLo_eq {tn n : Nat} {L : Nat → Int} {R : Nat → List Int} {k l : List It} (h : IsClo tn n L R k l) (hl : l.length ≤ k.length + 13000) : CLo tn n L R k = l := by
  have hh : ∃ l, IsClo tn n L R k l ∧ l.length ≤ k.length + 13000 := ⟨l, h, hl⟩
  unfold CLo
  rw [dif_pos hh]
  exact (Classical.choose_spec hh).1.unique h
/-- The kernel behind a symbol. -/
noncomputable def GG (tn n : Nat) (L : Nat → Int) (R : Nat → List Int) (k : List It) (s : Nat) : List It := kerT R (CLo tn n L R k) (s : Int)
theorem GG_eq {tn n : Nat} {L : Nat → Int} {R : Nat → List Int} {k l : List It} (h : IsClo tn n L R k l) (hl : l.length ≤ k.length + 13000) : GG tn n L R k = fun s : Nat => kerT R l (s : Int) := by
  unfold GG
  rw [CLo_eq h hl]
theorem PJ.GG {tn n : Nat} {L : Nat → Int} {R : Nat → List Int} {i m : Nat} {k : List It} (s : Nat) (h : PJ n R i k) (hm : i < m) : PJ n R m (GG tn n L R k s) := by
  unfold J.GG CLo
  by_cases hh : ∃ l, IsClo tn n L R k l ∧ l.length ≤ k.length + 13000
  · rw [dif_pos hh]
    have h1 := Classical.choose_spec hh
    exact h.ker (fun x hx => ((h1.1.mem x).1 hx).item h.1) h1.2 hm
  · rw [dif_neg hh]
    exact ⟨fun x hx => absurd hx (by simp [kerT]), by simp [kerT]⟩
/-- How many kernels were asked for. -/
def askN (es : List (List (Nat × Nat))) : Nat := 1 + (es.map List.length).sum
theorem askN_snoc (es : List (List (Nat × Nat))) (ed : List (Nat × Nat)) : askN (es ++ [ed]) = askN es + ed.length := by
  unfold askN
  rw [List.map_append, List.sum_append]
  simp; omega
theorem sum_le {c : Nat} : ∀ (es : List (List (Nat × Nat))), (∀ q, q < es.length → (es.getD q []).length ≤ c) → (es.map List.length).sum ≤ es.length * c
  | [], _ => by simp
  | ed :: es, h => by
    have h1 := h 0 (by simp)
    have h2 := sum_le es fun q hq => h (q + 1) (by simpa using hq)
    simp only [List.map_cons, List.sum_cons, List.length_cons, Nat.succ_mul]
    have h3 : ed.length ≤ c := h1
    omega
theorem auOK {tn nn n : Nat} {L : Nat → Int} {R : Nat → List Int} (hn0 : 0 < n) {i : Nat} {ks : List (List It)} {es : List (List (Nat × Nat))} (h : autoF (GG tn n L R) (tn + nn) i = some (ks, es)) : AuOK (PJ n R) (GG tn n L R) (tn + nn) i ks es :=
  autoOK ⟨fun x hx => by
    rw [List.mem_singleton.1 hx]
    unfold itB
    simp only [Bool.and_eq_true, decide_eq_true_eq]
    exact ⟨⟨⟨by omega, by omega⟩, by omega⟩, by omega⟩, by simp⟩ (fun i m k s hp hm => hp.GG s hm) i h
theorem askN_le {tn nn n : Nat} {L : Nat → Int} {R : Nat → List Int} (hn0 : 0 < n) (hS : tn + nn ≤ 130) {i : Nat} {ks : List (List It)} {es : List (List (Nat × Nat))} (h : autoF (GG tn n L R) (tn + nn) i = some (ks, es)) : askN es ≤ 33281 := by
  have ha := auOK hn0 h
  have h1 := sum_le es (fun q hq => Nat.le_trans (ha.edges q hq).1 hS)
  have h2 : es.length ≤ 256 := by rw [ha.len]; have := ha.kok.le; omega
  have h3 : es.length * 130 ≤ 256 * 130 := Nat.mul_le_mul_right _ h2
  unfold askN
  omega

/-- An automaton in memory. -/
structure AutP (B : Nat) (X : World) (v : Value) (ks : List (List It)) (el : Nat → List It) (kv ev : Nat → Value) : Prop where
  row : X.ownsRow B 72 2 v ks.length (stV kv ev ks.length)
  ker : ∀ i, i < ks.length → X.ownsRow B 68 2 (kv i) (ks.getD i []).length (itsV (ks.getD i []))
  edg : ∀ i, i < ks.length → X.ownsRow B 78 2 (ev i) (el i).length (itsV (el i))
theorem AutP.kept {B : Nat} {X Y : World} {v : Value} {ks : List (List It)} {el : Nat → List It} {kv ev : Nat → Value} (h : AutP B X v ks el kv ev) (hg : X.grownBy Y none) : AutP B Y v ks el kv ev :=
  ⟨keep0 h.row hg, fun i hi => keep0 (h.ker i hi) hg, fun i hi => keep0 (h.edg i hi) hg⟩
/-- The edges of the states. -/
def elF (es : List (List (Nat × Nat))) (i : Nat) : List It := edI (es.getD i [])
theorem elF_snoc (es : List (List (Nat × Nat))) (ed : List (Nat × Nat)) : updL (elF es) es.length (edI ed) = elF (es ++ [ed]) := funext fun j => by
  unfold elF
  by_cases e : j = es.length
  · subst e; rw [updL_same, getD_snoc_new]
  · rw [updL_other _ _ e]
    by_cases e2 : j < es.length
    · rw [getD_snoc_old e2]
    · rw [List.getD_eq_getElem?_getD, List.getD_eq_getElem?_getD, List.getElem?_eq_none (by omega), List.getElem?_eq_none (by rw [List.length_append, List.length_singleton]; omega)]
theorem elF_out {es : List (List (Nat × Nat))} {j : Nat} (h : es.length ≤ j) : elF es j = [] := by
  unfold elF
  rw [List.getD_eq_getElem?_getD, List.getElem?_eq_none h]; rfl

/-- What Build tells of a closed grammar. -/
def AutTold (w : World) (tn n S : Nat) (L : Nat → Int) (R : Nat → List Int) (e : Ending) (y : World) : Prop :=
  (∃ (ks : List (List It)) (es : List (List (Nat × Nat))) (sa : Option Addr) (sc : Nat) (kv ev : Nat → Value), autoF (GG tn n L R) S 256 = some (ks, es) ∧ e = .returned (.tuple #[.agg #[.slice sa ks.length sc, .int .i64 (askN es : Int), .int .i64 (ks.length : Int)], .int .i64 0]) ∧ AutP w.heap.size y (.slice sa ks.length sc) ks (elF es) kv ev ∧ w.grownBy y none)
  ∨ (autoF (GG tn n L R) S 256 = none ∧ e = .returned (.tuple #[.agg #[.slice none 0 0, .int .i64 0, .int .i64 0], .int .i64 11]) ∧ w.grownBy y none)

end Go.Proofs.YtckgjolaoifgkaaGreat.J

/-
  lr0: the maker's automaton, walked.
-/
namespace Go.Proofs.YtckgjolaoifgkaaGreat.J
open Go.RowKit Go.Maps Go.Shelf

attribute [local go_sem] Oper.semAt_some

theorem set3_heap {w : World} {g : Nat} {t : TypeId} {a0 a1 a2 : Value} (h : w.heap[g]? = some (.cells #[a0, a1, a2] t (0, 0))) (v0 v1 v2 : Value) :
    (((w.setCell ⟨g, 0, none⟩ v0).setCell ⟨g, 1, none⟩ v1).setCell ⟨g, 2, none⟩ v2).heap[g]? = some (.cells #[v0, v1, v2] t (0, 0)) := by
  have h0 := heap_setCell_same w g 0 _ _ v0 h
  have h1 := heap_setCell_same _ g 1 _ _ v1 h0
  exact heap_setCell_same _ g 2 _ _ v2 h1
theorem set3_grown (w : World) (g : Nat) (v0 v1 v2 : Value) : w.grownBy (((w.setCell ⟨g, 0, none⟩ v0).setCell ⟨g, 1, none⟩ v1).setCell ⟨g, 2, none⟩ v2) (some g) :=
  grown_trans (grown_trans (grown_setCell _ _ _) (grown_setCell _ _ _)) (grown_setCell _ _ _)
theorem results_auto (tmps : Array Value) (w : World) (g : Nat) (cs : Array Value) (x : Value) (h2 : tmps.getD 2 undef = .pointer (some ⟨g, 0, none⟩)) (h3 : tmps.getD 3 undef = x) (hg : w.heap[g]? = some (.cells cs 49 (0, 0))) (hs : cs.size = 3) :
    (results Tryz.f42 tmps).run Tryz.prog w = .ok (.tuple #[.agg cs, x]) w := by
  have h2' : tmps[2]?.getD undef = .pointer (some ⟨g, 0, none⟩) := by simpa using h2
  have h3' : tmps[3]?.getD undef = x := by simpa using h3
  have hl := run_loadVar_row (P := Tryz.prog) w g 49 49 cs (0, 0) _ hg Tryz.underlying49 rfl (by rw [hs]; kernel_rfl)
  simp [results, Tryz.results42, h2', h3', asAddr, hl]
theorem AutP.box {B : Nat} {X Y : World} {v : Value} {ks : List (List It)} {el : Nat → List It} {kv ev : Nat → Value} {bx : Nat} {cs : Array Value} {e : TypeId} (h : AutP B X v ks el kv ev) (hb : X.heap[bx]? = some (.cells cs e (0, 0))) (h1 : 72 ≠ e) (h2 : 68 ≠ e) (h3 : 78 ≠ e) (hg : X.grownBy Y (some bx)) : AutP B Y v ks el kv ev :=
  ⟨h.row.kept hg (owns_nebox h.row hb h1), fun i hi => (h.ker i hi).kept hg (owns_nebox (h.ker i hi) hb h2), fun i hi => (h.edg i hi).kept hg (owns_nebox (h.edg i hi) hb h3)⟩
theorem MkAt.cellsA {w X : World} {mb bm : Nat} {c0 c1 c2 c3 c4 : Value} {ks : List (List It)} {asked : Int} {el : Nat → List It} {E : Nat} (h : MkAt w X mb bm c0 c1 c2 c3 c4 ks asked el E) : ∃ (sa : Option Addr) (sc : Nat) (kv ev : Nat → Value), X.cell? ⟨mb, 5, none⟩ = some (.slice sa ks.length sc) ∧ X.cell? ⟨mb, 6, none⟩ = some (.int .i64 asked) ∧ X.cell? ⟨mb, 7, none⟩ = some (.int .i64 (ks.length : Int)) ∧ AutP w.heap.size X (.slice sa ks.length sc) ks el kv ev ∧ w.grownBy X none := by
  obtain ⟨sa, sc, kv, ev, m, fv, h1, _⟩ := h
  obtain ⟨_, _, _, _, _, y5, y6, y7, _⟩ := h1.cells
  exact ⟨sa, sc, kv, ev, y5, y6, y7, ⟨h1.row, h1.ker, h1.edg⟩, h1.grown⟩

set_option maxRecDepth 100000 in
set_option maxHeartbeats 4000000 in
theorem automaton_any (ta na la pa : Option Addr) (tc nc lc pc : Nat) (n : Nat) (L : Nat → Int) (R : Nat → List Int) (ra : Nat → Option Addr) (rc : Nat → Nat) (V : Nat → Int) (st : Int) (w X : World) (tn nn ln : Nat) (hP : ProdsAt w pa n L R ra rc V) (hn : n ≤ 97) (hn0 : 0 < n) (htn : tn ≤ 65) (hnn : nn ≤ 65) (hR : ∀ k, k < n → ∀ x ∈ R k, (0 : Int) ≤ x ∧ x < ((tn + nn : Nat) : Int)) (hLr : ∀ k, k < n → (0 : Int) ≤ L k ∧ L k < ((tn + nn : Nat) : Int)) (hRb : ∀ k, k < n → (R k).length ≤ 17592186044416)
    (mb bm E : Nat) (hM : MkAt w X mb bm (.slice ta tn tc) (.slice na nn nc) (.slice la ln lc) (.int .i64 st) (.slice pa n pc) [] 0 (fun _ => []) E) :
    Calls Tryz.prog 42 #[.pointer (some ⟨mb, 0, none⟩)] X fun e y => AutTold w tn n (tn + nn) L R e y := by
  obtain ⟨S, hS⟩ : ∃ S, S = tn + nn := ⟨_, rfl⟩
  have HAU : Hid (∀ i ks es, autoF (GG tn n L R) S i = some (ks, es) → AuOK (PJ n R) (GG tn n L R) S i ks es ∧ askN es ≤ 33281) := fun i ks es h => by
    rw [hS] at h ⊢
    exact ⟨auOK hn0 h, askN_le hn0 (by omega) h⟩
  have HLV : Hid (∀ (Y : World) ks es E i, autoF (GG tn n L R) S i = some (ks, es) → i < ks.length → MkAt w Y mb bm (.slice ta tn tc) (.slice na nn nc) (.slice la ln lc) (.int .i64 st) (.slice pa n pc) ks (askN es : Int) (elF es) E → Calls Tryz.prog 51 #[.pointer (some ⟨mb, 0, none⟩), .int .i64 (i : Int)] Y fun e y => LeaveTold w Y mb bm (.slice ta tn tc) (.slice na nn nc) (.slice la ln lc) (.int .i64 st) (.slice pa n pc) tn n S L R ks (askN es : Int) (elF es) i e y) := fun Y ks es E i h hi hm => by
    have ha := (HAU.out i ks es h).1
    have hb := (HAU.out i ks es h).2
    rw [hS]
    exact leave_any ta na la pa tc nc lc pc n L R ra rc V st w Y tn nn ln hP hn hn0 htn hnn hR hLr hRb mb bm ks (askN es : Int) (elF es) E i hm ha.kok hi (by omega) (by omega) (fun j hj => elF_out (by rw [ha.len]; omega))
  rw [← hS]
  have hM0 := hM.kept (World.grownBy_alloc X (.cells #[.slice none 0 0, .int .i64 0, .int .i64 0] 49) none)
  have hM1 := hM0.kept (World.grownBy_alloc _ (.cells #[.int .i64 0, .int .i64 0] 68) none)
  have hsw : w.heap.size ≤ X.heap.size := by obtain ⟨_, _, _, _, _, _, h, _⟩ := hM; exact h.grown.size
  have HAK : Hid (Calls Tryz.prog 50 #[.pointer (some ⟨mb, 0, none⟩), .slice (some ⟨X.heap.size + 1, 0, none⟩) 1 1] ((X.alloc (.cells #[.slice none 0 0, .int .i64 0, .int .i64 0] 49)).alloc (.cells #[.int .i64 0, .int .i64 0] 68)) fun e y => AskTold w ((X.alloc (.cells #[.slice none 0 0, .int .i64 0, .int .i64 0] 49)).alloc (.cells #[.int .i64 0, .int .i64 0] 68)) mb bm (.slice ta tn tc) (.slice na nn nc) (.slice la ln lc) (.int .i64 st) (.slice pa n pc) [] 0 (fun _ => []) E [(0, 0)] e y) := by
    refine ask_any w _ mb bm _ _ _ _ _ [] 0 (fun _ => []) E [(0, 0)] (some ⟨X.heap.size + 1, 0, none⟩) 1 0 0 hM1 ?_ rfl ⟨rfl, rfl⟩ (by simp) (by simp) (fun i hi => by cases hi) (by simp) (by omega) (by omega) (fun _ _ => rfl)
    refine ⟨rfl, .inr ⟨X.heap.size + 1, 1, #[.int .i64 0, .int .i64 0], rfl, by omega, ?_, Nat.le_refl _, by unfold maxLen; omega, rfl, rfl⟩⟩
    have h := heap_alloc_last (X.alloc (.cells #[.slice none 0 0, .int .i64 0, .int .i64 0] 49)) (.cells #[.int .i64 0, .int .i64 0] 68)
    simpa using h
  have HBX : Hid (((X.alloc (.cells #[.slice none 0 0, .int .i64 0, .int .i64 0] 49)).alloc (.cells #[.int .i64 0, .int .i64 0] 68)).heap[X.heap.size]? = some (.cells #[.slice none 0 0, .int .i64 0, .int .i64 0] 49 (0, 0))) := box_kept (heap_alloc_last X _) (World.grownBy_alloc _ _ none)
  clear hM hM0 hM1 hP hR hLr hRb hS
  obtain ⟨bx, hbx⟩ : ∃ b, b = X.heap.size := ⟨_, rfl⟩
  rw [← hbx] at HBX
  have HBW : Hid (w.heap.size ≤ bx) := by show _ ≤ _; rw [hbx]; exact hsw
  go_enter Tryz.func42, Tryz.ntmps42
  go_wp2_with fail
  refine Calls.mono HAK.out ?_
  rintro e w3 (⟨t, ks1, ha, rfl, hM3, hT3⟩ | ⟨ha, rfl, _⟩)
  case inr => exact absurd ha (by simp [askF])
  have hks : ks1 = [[(0, 0)]] := by simp [askF] at ha; exact ha.2.symm
  subst hks
  have HM3 : Hid (MkAt w w3 mb bm (.slice ta tn tc) (.slice na nn nc) (.slice la ln lc) (.int .i64 st) (.slice pa n pc) [[(0, 0)]] ((askN [] : Nat) : Int) (elF []) E) := by
    have e1 : elF [] = fun _ => [] := funext fun j => by unfold elF; rfl
    rw [e1]
    exact hM3
  have HB3 : Hid (w3.heap[bx]? = some (.cells #[.slice none 0 0, .int .i64 0, .int .i64 0] 49 (0, 0))) := hT3.block _ _ _ _ (by decide) (by decide) (by decide) HBX.out
  rw [← hbx]
  clear ha hM3 hT3 HAK HBX hbx hsw
  go_wp2_with fail
  go_loopg [4] 256 (fun gk v4 wr => ∃ (i : Nat) (ks : List (List It)) (es : List (List (Nat × Nat))) (E : Nat), autoF (GG tn n L R) S i = some (ks, es) ∧ i ≤ ks.length ∧ gk = 256 - i ∧ v4 = .int .i64 i ∧ MkAt w wr mb bm (.slice ta tn tc) (.slice na nn nc) (.slice la ln lc) (.int .i64 st) (.slice pa n pc) ks (askN es : Int) (elF es) E ∧ wr.heap[bx]? = some (.cells #[.slice none 0 0, .int .i64 0, .int .i64 0] 49 (0, 0)))
  case atStart => exact ⟨0, [[(0, 0)]], [], E, rfl, Nat.zero_le _, rfl, rfl, HM3.out, HB3.out⟩
  case round =>
    obtain ⟨i, ks, es, E2, hau, hi, hgi, rfl, hmk, hb⟩ := hrel
    have HGI : Hid (gk = 256 - i) := hgi
    have HA : Hid (autoF (GG tn n L R) S i = some (ks, es)) := hau
    have HMK : Hid (MkAt w wr mb bm (.slice ta tn tc) (.slice na nn nc) (.slice la ln lc) (.int .i64 st) (.slice pa n pc) ks (askN es : Int) (elF es) E2) := hmk
    have HB : Hid (wr.heap[bx]? = some (.cells #[.slice none 0 0, .int .i64 0, .int .i64 0] 49 (0, 0))) := hb
    obtain ⟨hAO, hAN⟩ := HAU.out i ks es hau
    have HAO : Hid (AuOK (PJ n R) (GG tn n L R) S i ks es) := hAO
    obtain ⟨sa, sc, kv, ev, y5, y6, y7, hAP, hgw⟩ := hmk.cellsA
    have HAP : Hid (AutP w.heap.size wr (.slice sa ks.length sc) ks (elF es) kv ev ∧ w.grownBy wr none) := ⟨hAP, hgw⟩
    obtain ⟨N, hN⟩ : ∃ n, n = ks.length := ⟨_, rfl⟩
    have HN : Hid (N = ks.length) := hN
    have hN256 : N ≤ 256 := by rw [hN]; exact hAO.kok.le
    rw [← hN] at hi y5 y7
    clear hgi hau hmk hb hAO hAP hgw hN HM3 HB3
    by_cases hlt : i < N
    · have hid : decide (i < N) = true := decide_eq_true hlt
      have HC := show Hid _ from HLV.out wr ks es E2 i HA.out (by rw [← HN.out]; exact hlt) HMK.out
      go_wp2_with fail
      refine Calls.mono HC.out ?_
      rintro e w4 ⟨l, hIC, hll, h4⟩
      have hGG := GG_eq hIC hll
      have hst := autoF_step HA.out (by rw [← HN.out]; exact hlt)
      rw [hGG] at hst
      rcases h4 with ⟨ks2, ed, E4, hlf, rfl, hM4, hT4⟩ | ⟨hlf, rfl, hg4, hT4⟩
      · rw [hlf] at hst
        have HA2 : Hid (autoF (GG tn n L R) S (i + 1) = some (ks2, es ++ [ed])) := hst
        have hel : es.length = i := by rw [HAO.out.len, ← HN.out]; omega
        have HM4 : Hid (MkAt w w4 mb bm (.slice ta tn tc) (.slice na nn nc) (.slice la ln lc) (.int .i64 st) (.slice pa n pc) ks2 ((askN (es ++ [ed]) : Nat) : Int) (elF (es ++ [ed])) E4) := by
          rw [← elF_snoc, askN_snoc, hel, Int.natCast_add]
          exact hM4
        have HB4 : Hid (w4.heap[bx]? = some (.cells #[.slice none 0 0, .int .i64 0, .int .i64 0] 49 (0, 0))) := hT4.block _ _ _ _ (by decide) (by decide) (by decide) HB.out
        have HL2 : Hid (i + 1 ≤ ks2.length) := by
          have h9 := (HAU.out _ _ _ hst).1.len
          rw [List.length_append, List.length_singleton, hel] at h9
          show _ ≤ _
          omega
        clear hIC hll hGG hst hlf hM4 hT4 hel HC y5 y6 y7
        go_wp2_with fail
        go_roundg (256 - (i + 1))
        case measure => have := HGI.out; omega
        case rel => exact ⟨i + 1, ks2, es ++ [ed], E4, HA2.out, HL2.out, rfl, by go_num, HM4.out, HB4.out⟩
      · rw [hlf] at hst
        have HA2 : Hid (autoF (GG tn n L R) S 256 = none) := by
          have h9 := autoF_none hst (256 - (i + 1))
          rwa [show i + 1 + (256 - (i + 1)) = 256 by omega] at h9
        have HB4 : Hid (w4.heap[bx]? = some (.cells #[.slice none 0 0, .int .i64 0, .int .i64 0] 49 (0, 0))) := hT4.block _ _ _ _ (by decide) (by decide) (by decide) HB.out
        have HG4 : Hid (w.grownBy w4 none) := hg4
        have k0 := cell_of_row w4 bx 0 _ _ _ HB4.out
        have k1 := cell_of_row w4 bx 1 _ _ _ HB4.out
        have k2 := cell_of_row w4 bx 2 _ _ _ HB4.out
        have kf := fun j => frozen_of_row w4 bx j _ _ HB4.out
        simp only [List.getElem?_toArray, List.getElem?_cons_zero, List.getElem?_cons_succ] at k0 k1 k2
        clear hIC hll hGG hst hlf hT4 hg4 HC y5 y6 y7
        go_wp2_with fail
        refine bodyPost_ret (v := .tuple #[.agg #[.slice none 0 0, .int .i64 0, .int .i64 0], .int .i64 11]) ?_ rfl ?_
        · exact results_auto _ _ bx _ _ rfl rfl (set3_heap HB4.out _ _ _) rfl
        · exact .inr ⟨HA2.out, rfl, grown_new HG4.out (set3_grown _ _ _ _ _) HBW.out⟩
    · have hiN : N = i := by omega
      subst hiN
      have hid : decide (N < N) = false := decide_eq_false (by omega)
      have HA2 : Hid (autoF (GG tn n L R) S 256 = some (ks, es)) := by
        have h9 := autoF_stay HA.out (by rw [← HN.out]; exact Nat.le_refl _) (256 - N)
        rwa [show N + (256 - N) = 256 by omega] at h9
      have k0 := cell_of_row wr bx 0 _ _ _ HB.out
      have k1 := cell_of_row wr bx 1 _ _ _ HB.out
      have k2 := cell_of_row wr bx 2 _ _ _ HB.out
      have kf := fun j => frozen_of_row wr bx j _ _ HB.out
      simp only [List.getElem?_toArray, List.getElem?_cons_zero, List.getElem?_cons_succ] at k0 k1 k2
      obtain ⟨ask, hask⟩ : ∃ a, a = (askN es : Int) := ⟨_, rfl⟩
      have HASK : Hid (ask = (askN es : Int)) := hask
      rw [← hask] at y6
      clear hask
      go_wp2_with fail
      refine bodyPost_ret (v := .tuple #[.agg #[.slice sa N sc, .int .i64 ask, .int .i64 (N : Int)], .int .i64 0]) ?_ rfl ?_
      · exact results_auto _ _ bx _ _ rfl rfl (set3_heap HB.out _ _ _) rfl
      · refine .inl ⟨ks, es, sa, sc, kv, ev, HA2.out, ?_, ?_, grown_new HAP.out.2 (set3_grown _ _ _ _ _) HBW.out⟩
        · rw [HASK.out, ← HN.out]
        · exact HAP.out.1.box HB.out (by decide) (by decide) (by decide) (set3_grown _ _ _ _ _)

end Go.Proofs.YtckgjolaoifgkaaGreat.J

/-
  lr0: Build.
-/
namespace Go.Proofs.YtckgjolaoifgkaaGreat.J
open Go.RowKit Go.Maps Go.Shelf

attribute [local go_sem] Oper.semAt_some

theorem results_build (tmps : Array Value) (w : World) (g : Nat) (cs : Array Value) (x : Value) (h2 : tmps.getD 2 undef = .pointer (some ⟨g, 0, none⟩)) (h3 : tmps.getD 3 undef = x) (hg : w.heap[g]? = some (.cells cs 49 (0, 0))) (hs : cs.size = 3) :
    (results Tryz.f32 tmps).run Tryz.prog w = .ok (.tuple #[.agg cs, x]) w := by
  have h2' : tmps[2]?.getD undef = .pointer (some ⟨g, 0, none⟩) := by simpa using h2
  have h3' : tmps[3]?.getD undef = x := by simpa using h3
  have hl := run_loadVar_row (P := Tryz.prog) w g 49 49 cs (0, 0) _ hg Tryz.underlying49 rfl (by rw [hs]; kernel_rfl)
  simp [results, Tryz.results32, h2', h3', asAddr, hl]

/-- The maker as newMaker leaves it. -/
theorem mk_new {w X : World} {mb bm : Nat} {c0 c1 c2 c3 c4 : Value} (hg : w.grownBy X none) (hb : X.heap[mb]? = some (.cells #[c0, c1, c2, c3, c4, .slice none 0 0, .int .i64 0, .int .i64 0, .map (some bm)] 97 (0, 0))) (hm : MpAt X bm 0 (fun _ => .slice none 0 0)) (h1 : w.heap.size ≤ bm) (h2 : bm < mb) : MkAt w X mb bm c0 c1 c2 c3 c4 [] 0 (fun _ => []) 0 :=
  ⟨none, 0, fun _ => undef, fun _ => undef, 0, fun _ => .slice none 0 0, ⟨hg, hb, World.ownsRow_nil _ _ _ _, fun i hi => absurd hi (Nat.not_lt_zero _), fun i hi => absurd hi (Nat.not_lt_zero _), hm, fun x => by rw [begI_nil]; exact World.ownsRow_nil _ _ _ _, fun x y _ => .inl rfl, ⟨h1, by omega⟩, fun i hi => absurd hi (Nat.not_lt_zero _)⟩, Nat.le_refl _⟩

section
variable (ta na la pa : Option Addr) (tc nc lc pc : Nat) (ts : List (ByteArray × Int)) (ns : List ByteArray) (lv : List Int) (n : Nat) (L : Nat → Int) (R : Nat → List Int) (ra : Nat → Option Addr) (rc : Nat → Nat) (V : Nat → Int) (st : Int) (w : World) (tn nn ln : Nat) (hlen : ts.length = tn ∧ ns.length = nn ∧ lv.length = ln) (hG : GAt w ta na la pa tc nc lc pc ts ns lv n L R ra rc V)
include hlen hG
set_option maxRecDepth 100000 in
theorem buildBad (hb : ¬ closedOK ts ns lv st n L R V) : Calls Tryz.prog 32 #[.agg #[.slice ta tn tc, .slice na nn nc, .slice la ln lc, .int .i64 st, .slice pa n pc]] w fun e y => e = .returned (.tuple #[.agg #[.slice none 0 0, .int .i64 0, .int .i64 0], .int .i64 1]) ∧ w.grownBy y none := by
  have HCL : Hid (∀ X, w.grownBy X none → Calls Tryz.prog 40 #[.agg #[.slice ta tn tc, .slice na nn nc, .slice la ln lc, .int .i64 st, .slice pa n pc]] X fun e w' => e = .returned (.bool false) ∧ X.grownBy w' none) := fun X hX => by
    have := closed_any ta na la pa tc nc lc pc ts ns lv n L R ra rc V st X (hG.kept hX) false ⟨(fun h => by cases h), fun h => absurd h hb⟩
    rwa [hlen.1, hlen.2.1, hlen.2.2] at this
  have HX0 : Hid (w.grownBy ((w.alloc (.cells #[.slice ta tn tc, .slice na nn nc, .slice la ln lc, .int .i64 st, .slice pa n pc] 27)).alloc (.cells #[.slice none 0 0, .int .i64 0, .int .i64 0] 49)) none) := grown_trans (World.grownBy_alloc _ _ none) (World.grownBy_alloc _ _ none)
  have HB0 : Hid (((w.alloc (.cells #[.slice ta tn tc, .slice na nn nc, .slice la ln lc, .int .i64 st, .slice pa n pc] 27)).alloc (.cells #[.slice none 0 0, .int .i64 0, .int .i64 0] 49)).heap[w.heap.size + 1]? = some (.cells #[.slice none 0 0, .int .i64 0, .int .i64 0] 49 (0, 0))) := by
    have h := heap_alloc_last (w.alloc (.cells #[.slice ta tn tc, .slice na nn nc, .slice la ln lc, .int .i64 st, .slice pa n pc] 27)) (.cells #[.slice none 0 0, .int .i64 0, .int .i64 0] 49)
    rw [World.size_alloc] at h; exact h
  clear hlen hG hb
  go_enter Tryz.func32, Tryz.ntmps32
  go_wp2_with fail
  refine Calls.mono (HCL.out _ HX0.out) ?_
  rintro e w1 ⟨rfl, hg1⟩
  have HB1 : Hid (w1.heap[w.heap.size + 1]? = some (.cells #[.slice none 0 0, .int .i64 0, .int .i64 0] 49 (0, 0))) := box_kept HB0.out hg1
  have HG1 : Hid (w.grownBy w1 none) := grown_trans HX0.out hg1
  clear hg1 HB0 HX0
  have k0 := cell_of_row w1 (w.heap.size + 1) 0 _ _ _ HB1.out
  have k1 := cell_of_row w1 (w.heap.size + 1) 1 _ _ _ HB1.out
  have k2 := cell_of_row w1 (w.heap.size + 1) 2 _ _ _ HB1.out
  have kf := fun j => frozen_of_row w1 (w.heap.size + 1) j _ _ HB1.out
  simp only [List.getElem?_toArray, List.getElem?_cons_zero, List.getElem?_cons_succ] at k0 k1 k2
  go_wp2_with fail
  refine bodyPost_ret (v := .tuple #[.agg #[.slice none 0 0, .int .i64 0, .int .i64 0], .int .i64 1]) ?_ rfl ?_
  · exact results_build _ _ (w.heap.size + 1) _ _ rfl rfl (set3_heap HB1.out _ _ _) rfl
  · exact ⟨rfl, grown_new HG1.out (set3_grown _ _ _ _ _) (by omega)⟩

set_option maxRecDepth 100000 in
theorem buildOk (hc : closedOK ts ns lv st n L R V) : Calls Tryz.prog 32 #[.agg #[.slice ta tn tc, .slice na nn nc, .slice la ln lc, .int .i64 st, .slice pa n pc]] w fun e y => AutTold w tn n (tn + nn) L R e y := by
  have hM : MayOK tn nn n st L R true := by obtain ⟨rfl, rfl, rfl⟩ := hlen; exact mayOK_closed hc
  have HCL : Hid (∀ X, w.grownBy X none → Calls Tryz.prog 40 #[.agg #[.slice ta tn tc, .slice na nn nc, .slice la ln lc, .int .i64 st, .slice pa n pc]] X fun e w' => e = .returned (.bool true) ∧ X.grownBy w' none) := fun X hX => by
    have := closed_any ta na la pa tc nc lc pc ts ns lv n L R ra rc V st X (hG.kept hX) true ⟨fun _ => hc, fun _ => rfl⟩
    rwa [hlen.1, hlen.2.1, hlen.2.2] at this
  have HAU : Hid (∀ X Y mb bm E, w.grownBy X none → MkAt X Y mb bm (.slice ta tn tc) (.slice na nn nc) (.slice la ln lc) (.int .i64 st) (.slice pa n pc) [] 0 (fun _ => []) E → Calls Tryz.prog 42 #[.pointer (some ⟨mb, 0, none⟩)] Y fun e y => AutTold X tn n (tn + nn) L R e y) := fun X Y mb bm E hX hmk => automaton_any ta na la pa tc nc lc pc n L R ra rc V st X Y tn nn ln (prods_kept hG.prods hX) hM.pmax hM.p0 hM.tmax hM.nmax (fun k hk x hx => ⟨by have := hM.right k hk x hx; omega, (hM.right k hk x hx).2⟩) (fun k hk => ⟨by have := hM.left k hk; omega, (hM.left k hk).2⟩) (gright hG.prods) mb bm E hmk
  have HX0 : Hid (w.grownBy ((w.alloc (.cells #[.slice ta tn tc, .slice na nn nc, .slice la ln lc, .int .i64 st, .slice pa n pc] 27)).alloc (.cells #[.slice none 0 0, .int .i64 0, .int .i64 0] 49)) none) := grown_trans (World.grownBy_alloc _ _ none) (World.grownBy_alloc _ _ none)
  have HP0 : Hid (PhAt w ((w.alloc (.cells #[.slice ta tn tc, .slice na nn nc, .slice la ln lc, .int .i64 st, .slice pa n pc] 27)).alloc (.cells #[.slice none 0 0, .int .i64 0, .int .i64 0] 49)) w.heap.size #[.slice ta tn tc, .slice na nn nc, .slice la ln lc, .int .i64 st, .slice pa n pc]) := PhAt.kept ⟨World.grownBy_alloc _ _ none, heap_alloc_last w _⟩ (World.grownBy_alloc _ _ none)
  have HB0 : Hid (((w.alloc (.cells #[.slice ta tn tc, .slice na nn nc, .slice la ln lc, .int .i64 st, .slice pa n pc] 27)).alloc (.cells #[.slice none 0 0, .int .i64 0, .int .i64 0] 49)).heap[w.heap.size + 1]? = some (.cells #[.slice none 0 0, .int .i64 0, .int .i64 0] 49 (0, 0))) := by
    have h := heap_alloc_last (w.alloc (.cells #[.slice ta tn tc, .slice na nn nc, .slice la ln lc, .int .i64 st, .slice pa n pc] 27)) (.cells #[.slice none 0 0, .int .i64 0, .int .i64 0] 49)
    rw [World.size_alloc] at h; exact h
  clear hlen hG hc hM
  obtain ⟨S, hS⟩ : ∃ S, S = tn + nn := ⟨_, rfl⟩
  rw [← hS] at HAU
  rw [← hS]
  clear hS
  go_enter Tryz.func32, Tryz.ntmps32
  go_wp2_with fail
  refine Calls.mono (HCL.out _ HX0.out) ?_
  rintro e w1 ⟨rfl, hg1⟩
  have HB1 : Hid (w1.heap[w.heap.size + 1]? = some (.cells #[.slice none 0 0, .int .i64 0, .int .i64 0] 49 (0, 0))) := box_kept HB0.out hg1
  have HP1 : Hid (PhAt w w1 w.heap.size #[.slice ta tn tc, .slice na nn nc, .slice la ln lc, .int .i64 st, .slice pa n pc]) := HP0.out.kept hg1
  clear hg1 HB0 HX0 HP0
  obtain ⟨k0, k1, k2, k3, k4⟩ := HP1.out.cells
  go_wp2_with fail
  refine Calls.mono (newMaker_any ta na la pa tc nc lc pc n st w1 tn nn ln) ?_
  rintro e w2 ⟨mb, bm, rfl, hbx, hmp, h1, h2, hg2⟩
  have HMK : Hid (MkAt w1 w2 mb bm (.slice ta tn tc) (.slice na nn nc) (.slice la ln lc) (.int .i64 st) (.slice pa n pc) [] 0 (fun _ => []) 0) := mk_new hg2 hbx hmp h1 h2
  clear hbx hmp h1 h2 hg2 k0 k1 k2 k3 k4
  go_wp2_with fail
  refine Calls.mono (HAU.out w1 w2 mb bm 0 HP1.out.grown HMK.out) ?_
  rintro e w3 (⟨ks, es, sa, sc, kv, ev, hau, rfl, hAP, hg3⟩ | ⟨hau, rfl, hg3⟩)
  · have HB3 : Hid (w3.heap[w.heap.size + 1]? = some (.cells #[.slice none 0 0, .int .i64 0, .int .i64 0] 49 (0, 0))) := box_kept HB1.out hg3
    have HG3 : Hid (w.grownBy w3 none) := grown_trans HP1.out.grown hg3
    have HAP : Hid (AutP w.heap.size w3 (.slice sa ks.length sc) ks (elF es) kv ev) := ⟨owns_base hAP.row HP1.out.grown.size, fun i hi => owns_base (hAP.ker i hi) HP1.out.grown.size, fun i hi => owns_base (hAP.edg i hi) HP1.out.grown.size⟩
    have HA : Hid (autoF (GG tn n L R) S 256 = some (ks, es)) := hau
    have k0 := cell_of_row w3 (w.heap.size + 1) 0 _ _ _ HB3.out
    have k1 := cell_of_row w3 (w.heap.size + 1) 1 _ _ _ HB3.out
    have k2 := cell_of_row w3 (w.heap.size + 1) 2 _ _ _ HB3.out
    have kf := fun j => frozen_of_row w3 (w.heap.size + 1) j _ _ HB3.out
    simp only [List.getElem?_toArray, List.getElem?_cons_zero, List.getElem?_cons_succ] at k0 k1 k2
    obtain ⟨ask, hask⟩ : ∃ a, a = (askN es : Int) := ⟨_, rfl⟩
    have HASK : Hid (ask = (askN es : Int)) := hask
    obtain ⟨N, hN⟩ : ∃ a, a = ks.length := ⟨_, rfl⟩
    have HN : Hid (N = ks.length) := hN
    rw [← hask, ← hN]
    clear hask hN hau hAP hg3
    go_wp2_with fail
    refine bodyPost_ret (v := .tuple #[.agg #[.slice sa N sc, .int .i64 ask, .int .i64 (N : Int)], .int .i64 0]) ?_ rfl ?_
    · exact results_build _ _ (w.heap.size + 1) _ _ rfl rfl (set3_heap HB3.out _ _ _) rfl
    · refine .inl ⟨ks, es, sa, sc, kv, ev, HA.out, ?_, ?_, grown_new HG3.out (set3_grown _ _ _ _ _) (by omega)⟩
      · rw [HASK.out, ← HN.out]
      · exact HAP.out.box HB3.out (by decide) (by decide) (by decide) (set3_grown _ _ _ _ _)
  · have HB3 : Hid (w3.heap[w.heap.size + 1]? = some (.cells #[.slice none 0 0, .int .i64 0, .int .i64 0] 49 (0, 0))) := box_kept HB1.out hg3
    have HG3 : Hid (w.grownBy w3 none) := grown_trans HP1.out.grown hg3
    have HA : Hid (autoF (GG tn n L R) S 256 = none) := hau
    have k0 := cell_of_row w3 (w.heap.size + 1) 0 _ _ _ HB3.out
    have k1 := cell_of_row w3 (w.heap.size + 1) 1 _ _ _ HB3.out
    have k2 := cell_of_row w3 (w.heap.size + 1) 2 _ _ _ HB3.out
    have kf := fun j => frozen_of_row w3 (w.heap.size + 1) j _ _ HB3.out
    simp only [List.getElem?_toArray, List.getElem?_cons_zero, List.getElem?_cons_succ] at k0 k1 k2
    clear hau hg3
    go_wp2_with fail
    refine bodyPost_ret (v := .tuple #[.agg #[.slice none 0 0, .int .i64 0, .int .i64 0], .int .i64 11]) ?_ rfl ?_
    · exact results_build _ _ (w.heap.size + 1) _ _ rfl rfl (set3_heap HB3.out _ _ _) rfl
    · exact .inr ⟨HA.out, rfl, grown_new HG3.out (set3_grown _ _ _ _ _) (by omega)⟩
end

end Go.Proofs.YtckgjolaoifgkaaGreat.J

/-
  lr0: the edges of an automaton, pure.
-/
namespace Go.Proofs.YtckgjolaoifgkaaGreat.J
open Go.RowKit Go.Maps Go.Shelf

/-- Has it items? -/
def someB (k : List It) : Bool := decide (k ≠ [])
/-- The symbols below s whose kernels have items. -/
def symsT (G : Nat → List It) (s : Nat) : List Nat := (List.range s).filter fun t => someB (G t)
theorem symsT_succ (G : Nat → List It) (s : Nat) : symsT G (s + 1) = symsT G s ++ (if G s = [] then [] else [s]) := by
  unfold symsT
  rw [List.range_succ, List.filter_append]
  congr 1
  by_cases h : G s = []
  · rw [if_pos h]; simp [someB, h]
  · rw [if_neg h]; simp [someB, h]
theorem symsT_len (G : Nat → List It) : ∀ s, (symsT G s).length ≤ s
  | 0 => by simp [symsT]
  | s + 1 => by
    rw [symsT_succ, List.length_append]
    have := symsT_len G s
    split <;> simp <;> omega
theorem symsT_nodup (G : Nat → List It) (S : Nat) : (symsT G S).Nodup := List.Nodup.sublist List.filter_sublist List.nodup_range

theorem leaveF_fst {G : Nat → List It} {ks : List (List It)} : ∀ (s : Nat) {ks' : List (List It)} {ed : List (Nat × Nat)}, leaveF G ks s = some (ks', ed) → ed.map Prod.fst = symsT G s
  | 0, ks', ed, e => by
    unfold leaveF at e
    cases e
    rfl
  | s + 1, ks', ed, e => by
    unfold leaveF at e
    cases h1 : leaveF G ks s with
    | none => rw [h1] at e; cases e
    | some q =>
      obtain ⟨k1, e1⟩ := q
      have ih := leaveF_fst s h1
      rw [h1] at e
      simp only at e
      by_cases hg : G s = []
      · rw [if_pos hg] at e
        cases e
        rw [ih, symsT_succ, if_pos hg, List.append_nil]
      · rw [if_neg hg] at e
        cases h2 : askF k1 (G s) with
        | none => rw [h2] at e; cases e
        | some q2 =>
          obtain ⟨t, k2⟩ := q2
          rw [h2] at e
          cases e
          rw [List.map_append, ih, symsT_succ, if_neg hg]; rfl

/-- The edges by their symbols. -/
theorem autoF_fst {P : Nat → List It → Prop} {G : List It → Nat → List It} {S : Nat} (h0 : P 0 [(0, 0)]) (hG : ∀ i m k s, P i k → i < m → P m (G k s)) : ∀ (i : Nat) {ks : List (List It)} {es : List (List (Nat × Nat))}, autoF G S i = some (ks, es) → ∀ q, q < es.length → (es.getD q []).map Prod.fst = symsT (G (ks.getD q [])) S
  | 0, ks, es, e => by
    unfold autoF at e
    cases e
    intro q hq
    exact absurd hq (Nat.not_lt_zero _)
  | i + 1, ks', es', e => by
    cases h1 : autoF G S i with
    | none =>
      have := autoF_none h1 1
      rw [this] at e; cases e
    | some p =>
      obtain ⟨ks, es⟩ := p
      have ih := autoF_fst h0 hG i h1
      have ha := autoOK h0 hG i h1
      by_cases hi : i < ks.length
      · have e' := e
        rw [autoF_step h1 hi] at e
        cases h2 : leaveF (G (ks.getD i [])) ks S with
        | none => rw [h2] at e; cases e
        | some q2 =>
          obtain ⟨k2, ed⟩ := q2
          rw [h2] at e
          cases e
          obtain ⟨_, j2, _, _⟩ := ha.kok.leave (fun m s hm => hG i m _ s (ha.kok.each i hi) (by omega)) S h2
          have hes : es.length = i := by rw [ha.len]; omega
          intro q hq
          rw [List.length_append, List.length_singleton] at hq
          by_cases e2 : q < es.length
          · rw [getD_snoc_old e2, getD_prefix j2 (by omega)]
            exact ih q e2
          · have : q = es.length := by omega
            subst this
            rw [getD_snoc_new, hes, getD_prefix j2 hi]
            exact leaveF_fst S h2
      · have := autoF_stay h1 (Nat.le_of_not_lt hi) 1
        rw [this] at e
        cases e
        exact ih

/-- An automaton, all of it. -/
structure AutF (G : List It → Nat → List It) (n : Nat) (R : Nat → List Int) (S : Nat) (ks : List (List It)) (es : List (List (Nat × Nat))) : Prop where
  kok : KsOK (PJ n R) ks
  pos : 0 < ks.length
  head : ks.getD 0 [] = [(0, 0)]
  len : es.length = ks.length
  fst : ∀ q, q < ks.length → (es.getD q []).map Prod.fst = symsT (G (ks.getD q [])) S
  snd : ∀ q, q < ks.length → ∀ x ∈ es.getD q [], x.1 < S ∧ x.2 < ks.length ∧ ks.getD x.2 [] = G (ks.getD q []) x.1
theorem autF {tn nn n : Nat} {L : Nat → Int} {R : Nat → List Int} (hn0 : 0 < n) {ks : List (List It)} {es : List (List (Nat × Nat))} (h : autoF (GG tn n L R) (tn + nn) 256 = some (ks, es)) : AutF (GG tn n L R) n R (tn + nn) ks es := by
  have ha := auOK hn0 h
  have hl : es.length = ks.length := by rw [ha.len]; have := ha.kok.le; omega
  have hp : PJ n R 0 [(0, 0)] := ⟨fun x hx => by
    rw [List.mem_singleton.1 hx]
    unfold itB
    simp only [Bool.and_eq_true, decide_eq_true_eq]
    exact ⟨⟨⟨by omega, by omega⟩, by omega⟩, by omega⟩, by simp⟩
  exact ⟨ha.kok, ha.pos, ha.head, hl, fun q hq => autoF_fst hp (fun i m k s hp hm => hp.GG s hm) 256 h q (by omega), fun q hq x hx => (ha.edges q (by omega)).2 x hx⟩
section
variable {G : List It → Nat → List It} {n : Nat} {R : Nat → List Int} {S : Nat} {ks : List (List It)} {es : List (List (Nat × Nat))}
theorem AutF.elen (h : AutF G n R S ks es) {q : Nat} (hq : q < ks.length) : (es.getD q []).length = (symsT (G (ks.getD q [])) S).length := by rw [← h.fst q hq, List.length_map]
end

end Go.Proofs.YtckgjolaoifgkaaGreat.J

/-
  trans: a map from outsets to numbers.
-/
namespace Go.Proofs.YtckgjolaoifgkaaGreat.J
open Go.RowKit Go.Maps Go.Shelf

theorem rowOut : (82 : TypeId) < Tryz.prog.types.size := of_decide_eq_true (by kernel_rfl)
theorem wideOut : (match Tryz.prog.underlying 82 with | some (.array _ _) | some (.struct _) => true | _ => false) = true := by rw [Tryz.underlying82]
set_option maxRecDepth 100000 in
theorem lawOut : Keyed Tryz.prog 82 := Keyed.of_law (deep_law_laid laidO (m := 2) (by omega) rowOut (by kernel_rfl) wideOut)
theorem keyTOut : Tryz.prog.keyType 82 = true := by kernel_rfl
theorem cellsOut : Tryz.prog.cellsOf 82 = 2 := by kernel_rfl
theorem sizeTO : ∃ m, Tryz.prog.types.size = m + 1 := size_of rowOut
theorem keyOut {x : It} (h : I64 x) : ∃ kl, keyOf Tryz.prog 82 (aggI x) = some kl := by
  obtain ⟨m, hm⟩ := sizeTO
  refine ⟨.string (keyBytes [.int .i64 x.1, .int .i64 x.2]), ?_⟩
  unfold keyOf aggI
  simp only [Tryz.underlying82]
  rw [if_pos (by simp [keyTOut, Value.formed, Tryz.underlying82, cellsOut]), hm]
  unfold Program.keyLits
  simp only [Tryz.underlying82, Value.cells]
  rw [if_pos (by rw [cellsOut]; exact ⟨rfl, by kernel_rfl⟩)]
  simp [List.mapM_cons, List.mapM_nil, cellsInt, Program.keyLits, Tryz.underlying3, h.1, h.2]

/-- A map in block b: what stands at each outset, if something does. -/
def LdAt (w : World) (b n : Nat) (F : It → Option Int) : Prop := ∃ D : DataW Value, w.ownsMap Tryz.prog 82 heldR b n D ∧ ∀ x kl, keyOf Tryz.prog 82 (aggI x) = some kl → D.atKey kl (.held (.int .i64 0)) = .held (.int .i64 ((F x).getD 0)) ∧ has D kl = (F x).isSome

theorem LdAt.made (w : World) : LdAt (w.alloc (.map #[] 0)) w.heap.size 0 (fun _ => none) := ⟨_, World.ownsMap_made w _ _ _, fun x kl _ => ⟨by simp [DataW.atKey], rfl⟩⟩
theorem LdAt.kept {w w' : World} {row : Option Nat} {b n : Nat} {F : It → Option Int} (h : LdAt w b n F) (hg : w.grownBy w' row) (hne : some b ≠ row) : LdAt w' b n F := by
  obtain ⟨D, h1, h2⟩ := h
  exact ⟨D, h1.kept hg hne, h2⟩
theorem LdAt.obj {X : World} {b n : Nat} {F : It → Option Int} (h : LdAt X b n F) : ∃ es cl, X.heap[b]? = some (.map es cl) := by
  obtain ⟨D, ⟨es, cl, h1, _⟩, _⟩ := h
  exact ⟨es, cl, h1⟩
theorem LdAt.look {w : World} {b n : Nat} {F : It → Option Int} (h : LdAt w b n F) {x : It} (hx : I64 x) : (Instr.lookup 54 (.map (some b)) (aggI x) true).run Tryz.prog w = .ok (.tuple #[.int .i64 ((F x).getD 0), .bool (F x).isSome]) w := by
  obtain ⟨D, h1, h2⟩ := h
  obtain ⟨kl, hk⟩ := keyOut hx
  obtain ⟨v, ps, hrun, hv⟩ := h1.look_ok lawOut Tryz.underlying54 (z := .int .i64 0) (by kernel_rfl) (zd := .held (.int .i64 0)) (zp := []) rfl hk
  obtain ⟨h3, h4⟩ := h2 x kl hk
  rw [h3] at hv
  simp only [heldR, Option.some.injEq, Prod.mk.injEq, DataW.held.injEq] at hv
  rw [hrun, hv.1, h4]
/-- F with v at x. -/
noncomputable def putL (F : It → Option Int) (x : It) (v : Int) : It → Option Int := fun y => if y = x then some v else F y
theorem LdAt.update {w : World} {b n : Nat} {F : It → Option Int} (h : LdAt w b n F) (hn : n < maxLen) {x : It} (hx : I64 x) (v : Int) : ∃ w', (Instr.mapUpdate 54 (.map (some b)) (aggI x) (.int .i64 v)).run Tryz.prog w = .ok () w' ∧ LdAt w' b (n + 1) (putL F x v) ∧ w.grownBy w' (some b) := by
  obtain ⟨D, h1, h2⟩ := h
  obtain ⟨kl, hk⟩ := keyOut hx
  obtain ⟨w', hrun, h3, h4⟩ := h1.update lawOut Tryz.underlying54 hn hk (val := .int .i64 v) (d := .held (.int .i64 v)) (ps := []) rfl
  refine ⟨w', hrun, ⟨_, h3, fun y ky hy => ?_⟩, h4⟩
  unfold putL
  by_cases e : y = x
  · subst e
    rw [hk] at hy
    cases hy
    rw [if_pos rfl, atKey_put_same h1.isMap (lawOut.key hk), has_put_same h1.isMap (lawOut.key hk)]
    exact ⟨rfl, rfl⟩
  · have hne : ky ≠ kl := fun e2 => e (aggI_inj (lawOut.inj hy (by rw [e2]; exact hk)))
    rw [if_neg e, atKey_put_other hne, has_put_other hne]
    exact h2 y ky hy

/-- Where the edge by s leads. -/
def nextL (l : List (Nat × Nat)) (s : Int) : Option Int := (l.find? fun x => decide ((x.1 : Int) = s)).map fun x => (x.2 : Int)
theorem nextL_snoc {l : List (Nat × Nat)} {a b : Nat} (hno : a ∉ l.map Prod.fst) (s : Int) : nextL (l ++ [(a, b)]) s = if s = (a : Int) then some (b : Int) else nextL l s := by
  unfold nextL
  rw [List.find?_append]
  by_cases h : s = (a : Int)
  · subst h
    rw [if_pos rfl]
    have : l.find? (fun x => decide ((x.1 : Int) = (a : Int))) = none := by
      rw [List.find?_eq_none]
      intro x hx
      simp only [decide_eq_true_eq]
      intro e
      exact hno (List.mem_map.2 ⟨x, hx, by omega⟩)
    rw [this]
    simp
  · rw [if_neg h]
    have : [(a, b)].find? (fun x => decide ((x.1 : Int) = s)) = none := by
      rw [List.find?_eq_none]
      intro x hx
      rw [List.mem_singleton.1 hx]
      simp only [decide_eq_true_eq]
      exact fun e => h e.symm
    rw [this]
    simp
/-- What the map holds, once the states below i and j edges of i have been gone over. -/
def leadT (es : List (List (Nat × Nat))) (i j : Nat) (x : It) : Option Int :=
  if 0 ≤ x.1 ∧ x.1 < (i : Int) then nextL (es.getD x.1.toNat []) x.2 else if x.1 = (i : Int) then nextL ((es.getD i []).take j) x.2 else none
theorem leadT_zero (es : List (List (Nat × Nat))) : leadT es 0 0 = fun _ => none := funext fun x => by
  unfold leadT
  rw [if_neg (by omega)]
  split
  · simp [nextL]
  · rfl
theorem leadT_row (es : List (List (Nat × Nat))) (i : Nat) : leadT es i (es.getD i []).length = leadT es (i + 1) 0 := funext fun x => by
  unfold leadT
  rw [List.take_length]
  by_cases h1 : 0 ≤ x.1 ∧ x.1 < (i : Int)
  · rw [if_pos h1, if_pos (by omega)]
  · rw [if_neg h1]
    by_cases h2 : x.1 = (i : Int)
    · rw [if_pos h2, if_pos (by omega), h2, Int.toNat_natCast]
    · rw [if_neg h2, if_neg (by omega)]
      split
      · simp [nextL]
      · rfl
theorem leadT_step {es : List (List (Nat × Nat))} {i j s t : Nat} (hj : j < (es.getD i []).length) (he : (es.getD i []).getD j (0, 0) = (s, t)) (hnd : ((es.getD i []).map Prod.fst).Nodup) : putL (leadT es i j) ((i : Int), (s : Int)) (t : Int) = leadT es i (j + 1) := funext fun x => by
  have e1 : (es.getD i []).take (j + 1) = (es.getD i []).take j ++ [(s, t)] := by
    generalize es.getD i [] = l at hj he ⊢
    rw [List.take_succ_eq_append_getElem hj]
    rw [List.getD_eq_getElem?_getD, List.getElem?_eq_getElem hj] at he
    exact congrArg _ (congrArg (fun y => [y]) he)
  have hno : s ∉ ((es.getD i []).take j).map Prod.fst := by
    have h2 : (((es.getD i []).take (j + 1)).map Prod.fst).Nodup := List.Nodup.sublist (List.Sublist.map _ (List.take_sublist _ _)) hnd
    rw [e1, List.map_append, List.nodup_append] at h2
    intro h3
    exact h2.2.2 s h3 s (by simp) rfl
  unfold putL leadT
  by_cases h : x = ((i : Int), (s : Int))
  · subst h
    rw [if_pos rfl, if_neg (by simp), if_pos rfl, e1, nextL_snoc hno, if_pos rfl]
  · rw [if_neg h]
    by_cases h1 : 0 ≤ x.1 ∧ x.1 < (i : Int)
    · rw [if_pos h1, if_pos h1]
    · rw [if_neg h1, if_neg h1]
      by_cases h2 : x.1 = (i : Int)
      · rw [if_pos h2, if_pos h2, e1, nextL_snoc hno, if_neg (fun h3 => h (Prod.ext h2 h3))]
      · rw [if_neg h2, if_neg h2]
/-- All of it. -/
def leadA (es : List (List (Nat × Nat))) : It → Option Int := leadT es es.length 0
theorem leadA_at (es : List (List (Nat × Nat))) {q : Nat} (hq : q < es.length) (s : Int) : leadA es ((q : Int), s) = nextL (es.getD q []) s := by
  unfold leadA leadT
  rw [if_pos (by simp only; omega)]
  simp only [Int.toNat_natCast]
theorem nextL_mem {l : List (Nat × Nat)} {s t : Int} (h : nextL l s = some t) : ∃ x ∈ l, (x.1 : Int) = s ∧ (x.2 : Int) = t := by
  unfold nextL at h
  cases h1 : l.find? (fun x => decide ((x.1 : Int) = s)) with
  | none => rw [h1] at h; cases h
  | some x =>
    rw [h1] at h
    have h2 := List.find?_some h1
    have h3 := List.mem_of_find?_eq_some h1
    refine ⟨x, h3, by simpa using h2, by simpa using h⟩

/-- The state that a row leads to. -/
def wayF (es : List (List (Nat × Nat))) : Option Int → List Int → Option Int
  | q, [] => q
  | none, _ :: _ => none
  | some q, s :: r => wayF es (leadA es (q, s)) r
theorem wayF_none (es : List (List (Nat × Nat))) : ∀ r, wayF es none r = none
  | [] => rfl
  | _ :: _ => rfl
theorem wayF_append (es : List (List (Nat × Nat))) : ∀ (r r' : List Int) (q : Option Int), wayF es q (r ++ r') = wayF es (wayF es q r) r'
  | [], _, _ => rfl
  | s :: r, r', none => by
    rw [List.cons_append]
    show none = wayF es none r'
    rw [wayF_none]
  | s :: r, r', some q => by
    rw [List.cons_append]
    exact wayF_append es r r' _
def wayV : Option Int → Int
  | none => -1
  | some q => q

end Go.Proofs.YtckgjolaoifgkaaGreat.J

/-
  lr0: an automaton in memory, read.
-/
namespace Go.Proofs.YtckgjolaoifgkaaGreat.J
open Go.RowKit Go.Maps Go.Shelf

theorem own_nil {X : World} {B e s n c : Nat} {a : Option Addr} {xs : List Value} (h : X.ownsRow B e s (.slice a n c) n xs) : a = none → n = 0 ∧ c = 0 := fun e => by
  rcases h.2 with ⟨h1, h2⟩ | ⟨g, cap, cur, h1, _⟩
  · simp only [Value.slice.injEq] at h1
    exact ⟨h2, h1.2.2⟩
  · simp only [Value.slice.injEq] at h1
    rw [e] at h1
    cases h1.1
theorem ItsAt.cellAt {X : World} {a : Option Addr} {l : List It} (h : ItsAt X a l) {i : Nat} (hi : i < l.length) : ∃ b off, a = some ⟨b, off, none⟩ ∧ X.cell? ⟨b, off + i * 2, none⟩ = some (.int .i64 (l.getD i (0, 0)).1) ∧ X.cell? ⟨b, off + i * 2 + 1, none⟩ = some (.int .i64 (l.getD i (0, 0)).2) := by
  rcases h with h | ⟨b, off, e, h⟩
  · rw [h] at hi; cases hi
  · exact ⟨b, off, e, h i hi⟩
theorem ItsAt.ofT {X : World} {B c e : Nat} {a : Option Addr} {l : List It} (h : X.ownsRow B e 2 (.slice a l.length c) l.length (itsV l)) : ItsAt X a l := by
  rcases h.2 with ⟨h', h2⟩ | ⟨g, cap, cur, hv, hB, hh, _, _, hs, ht⟩
  · left
    exact List.eq_nil_of_length_eq_zero h2
  · right
    simp only [Value.slice.injEq] at hv
    refine ⟨g, 0, hv.1, fun i hi => ?_⟩
    obtain ⟨h3, h4⟩ := itsV_at l i hi
    rw [← ht, List.getElem?_take, if_pos (by omega)] at h3 h4
    rw [Nat.zero_add, cell_of_row _ _ _ _ _ _ hh, cell_of_row _ _ _ _ _ _ hh]
    exact ⟨by simpa using h3, by simpa using h4⟩
/-- The cells of an automaton that is read. -/
theorem AutP.st {B : Nat} {X : World} {v : Value} {ks : List (List It)} {el : Nat → List It} {kv ev : Nat → Value} (h : AutP B X v ks el kv ev) {q : Nat} (hq : q < ks.length) : ∃ g c, v = .slice (some ⟨g, 0, none⟩) ks.length c ∧ X.cell? ⟨g, q * 2, none⟩ = some (kv q) ∧ X.cell? ⟨g, q * 2 + 1, none⟩ = some (ev q) := by
  obtain ⟨g, c, e, h1⟩ := owns_at h.row (by omega)
  exact ⟨g, c, e, h1 _ _ (stV_at kv ev _ q hq).1, h1 _ _ (stV_at kv ev _ q hq).2⟩
theorem AutP.kerAt {B : Nat} {X : World} {v : Value} {ks : List (List It)} {el : Nat → List It} {kv ev : Nat → Value} (h : AutP B X v ks el kv ev) {q : Nat} (hq : q < ks.length) : ∃ a c, kv q = .slice a (ks.getD q []).length c ∧ ItsAt X a (ks.getD q []) ∧ (a = none → (ks.getD q []).length = 0 ∧ c = 0) := by
  have h1 := h.ker q hq
  obtain ⟨a, c, e⟩ := owns_cut h1
  rw [e] at h1
  exact ⟨a, c, e, ItsAt.of h1, own_nil h1⟩
theorem AutP.edgAt {B : Nat} {X : World} {v : Value} {ks : List (List It)} {el : Nat → List It} {kv ev : Nat → Value} (h : AutP B X v ks el kv ev) {q : Nat} (hq : q < ks.length) : ∃ a c, ev q = .slice a (el q).length c ∧ ItsAt X a (el q) := by
  have h1 := h.edg q hq
  obtain ⟨a, c, e⟩ := owns_cut h1
  rw [e] at h1
  exact ⟨a, c, e, ItsAt.ofT h1⟩
theorem elF_at {es : List (List (Nat × Nat))} {q i : Nat} (hi : i < (es.getD q []).length) : (elF es q).length = (es.getD q []).length ∧ (elF es q).getD i (0, 0) = (((((es.getD q []).getD i (0, 0)).1 : Nat) : Int), ((((es.getD q []).getD i (0, 0)).2 : Nat) : Int)) := by
  unfold elF
  generalize es.getD q [] = l at hi ⊢
  refine ⟨edI_len l, ?_⟩
  unfold edI
  rw [List.getD_eq_getElem?_getD, List.getD_eq_getElem?_getD, List.getElem?_map, List.getElem?_eq_getElem hi]; rfl
theorem elF_len (es : List (List (Nat × Nat))) (q : Nat) : (elF es q).length = (es.getD q []).length := edI_len _

theorem AutP.base {B B' : Nat} {X : World} {v : Value} {ks : List (List It)} {el : Nat → List It} {kv ev : Nat → Value} (h : AutP B X v ks el kv ev) (hb : B' ≤ B) : AutP B' X v ks el kv ev :=
  ⟨owns_base h.row hb, fun i hi => owns_base (h.ker i hi) hb, fun i hi => owns_base (h.edg i hi) hb⟩
theorem PJ.len {n : Nat} {R : Nat → List Int} {i : Nat} {k : List It} (h : PJ n R i k) (hi : i ≤ 257) : k.length ≤ 3341001 := by
  have h1 := h.2
  have h2 : 13000 * i ≤ 13000 * 257 := Nat.mul_le_mul_left _ hi
  omega
section
variable (ta na la pa : Option Addr) (tc nc lc pc : Nat) (ts : List (ByteArray × Int)) (ns : List ByteArray) (lv : List Int) (n : Nat) (L : Nat → Int) (R : Nat → List Int) (ra : Nat → Option Addr) (rc : Nat → Nat) (V : Nat → Int) (st : Int) (w : World) (tn nn ln : Nat) (hlen : ts.length = tn ∧ ns.length = nn ∧ lv.length = ln) (hG : GAt w ta na la pa tc nc lc pc ts ns lv n L R ra rc V)
include hlen hG
/-- Build, where there is an automaton: one for all worlds. -/
theorem build_some (hc : closedOK ts ns lv st n L R V) {ks : List (List It)} {es : List (List (Nat × Nat))} (h : autoF (GG tn n L R) (tn + nn) 256 = some (ks, es)) (X : World) (hX : w.grownBy X none) : Calls Tryz.prog 32 #[.agg #[.slice ta tn tc, .slice na nn nc, .slice la ln lc, .int .i64 st, .slice pa n pc]] X fun e y => ∃ sa sc kv ev, e = .returned (.tuple #[.agg #[.slice sa ks.length sc, .int .i64 (askN es : Int), .int .i64 (ks.length : Int)], .int .i64 0]) ∧ AutP X.heap.size y (.slice sa ks.length sc) ks (elF es) kv ev ∧ X.grownBy y none := by
  refine (buildOk ta na la pa tc nc lc pc ts ns lv n L R ra rc V st X tn nn ln hlen (hG.kept hX) hc).mono ?_
  rintro e y (⟨ks', es', sa, sc, kv, ev, hau, rfl, hA, hg⟩ | ⟨hau, _⟩)
  · have h2 := h.symm.trans hau
    simp only [Option.some.injEq, Prod.mk.injEq] at h2
    obtain ⟨rfl, rfl⟩ := h2
    exact ⟨sa, sc, kv, ev, rfl, hA, hg⟩
  · have h2 := h.symm.trans hau
    cases h2
theorem build_none (hc : closedOK ts ns lv st n L R V) (h : autoF (GG tn n L R) (tn + nn) 256 = none) (X : World) (hX : w.grownBy X none) : Calls Tryz.prog 32 #[.agg #[.slice ta tn tc, .slice na nn nc, .slice la ln lc, .int .i64 st, .slice pa n pc]] X fun e y => e = .returned (.tuple #[.agg #[.slice none 0 0, .int .i64 0, .int .i64 0], .int .i64 11]) ∧ X.grownBy y none := by
  refine (buildOk ta na la pa tc nc lc pc ts ns lv n L R ra rc V st X tn nn ln hlen (hG.kept hX) hc).mono ?_
  rintro e y (⟨ks', es', sa, sc, kv, ev, hau, rfl, hA, hg⟩ | ⟨hau, rfl, hg⟩)
  · have h2 := h.symm.trans hau
    cases h2
  · exact ⟨rfl, hg⟩
end

end Go.Proofs.YtckgjolaoifgkaaGreat.J

/-
  trans: automatonOf.
-/
namespace Go.Proofs.YtckgjolaoifgkaaGreat.J
open Go.RowKit Go.Maps Go.Shelf

attribute [local go_sem] Oper.semAt_some

theorem set7_heap {w : World} {g : Nat} {t : TypeId} {a0 a1 a2 a3 a4 a5 a6 : Value} (h : w.heap[g]? = some (.cells #[a0, a1, a2, a3, a4, a5, a6] t (0, 0))) (v0 v1 v2 v3 v4 v5 v6 : Value) :
    (((((((w.setCell ⟨g, 0, none⟩ v0).setCell ⟨g, 1, none⟩ v1).setCell ⟨g, 2, none⟩ v2).setCell ⟨g, 3, none⟩ v3).setCell ⟨g, 4, none⟩ v4).setCell ⟨g, 5, none⟩ v5).setCell ⟨g, 6, none⟩ v6).heap[g]? = some (.cells #[v0, v1, v2, v3, v4, v5, v6] t (0, 0)) := by
  have h0 : (w.setCell ⟨g, 0, none⟩ v0).heap[g]? = some (.cells #[v0, a1, a2, a3, a4, a5, a6] t (0, 0)) := heap_setCell_same _ g 0 _ _ v0 h
  have h1 : ((w.setCell ⟨g, 0, none⟩ v0).setCell ⟨g, 1, none⟩ v1).heap[g]? = some (.cells #[v0, v1, a2, a3, a4, a5, a6] t (0, 0)) := heap_setCell_same _ g 1 _ _ v1 h0
  have h2 : (((w.setCell ⟨g, 0, none⟩ v0).setCell ⟨g, 1, none⟩ v1).setCell ⟨g, 2, none⟩ v2).heap[g]? = some (.cells #[v0, v1, v2, a3, a4, a5, a6] t (0, 0)) := heap_setCell_same _ g 2 _ _ v2 h1
  have h3 : ((((w.setCell ⟨g, 0, none⟩ v0).setCell ⟨g, 1, none⟩ v1).setCell ⟨g, 2, none⟩ v2).setCell ⟨g, 3, none⟩ v3).heap[g]? = some (.cells #[v0, v1, v2, v3, a4, a5, a6] t (0, 0)) := heap_setCell_same _ g 3 _ _ v3 h2
  have h4 : (((((w.setCell ⟨g, 0, none⟩ v0).setCell ⟨g, 1, none⟩ v1).setCell ⟨g, 2, none⟩ v2).setCell ⟨g, 3, none⟩ v3).setCell ⟨g, 4, none⟩ v4).heap[g]? = some (.cells #[v0, v1, v2, v3, v4, a5, a6] t (0, 0)) := heap_setCell_same _ g 4 _ _ v4 h3
  have h5 : ((((((w.setCell ⟨g, 0, none⟩ v0).setCell ⟨g, 1, none⟩ v1).setCell ⟨g, 2, none⟩ v2).setCell ⟨g, 3, none⟩ v3).setCell ⟨g, 4, none⟩ v4).setCell ⟨g, 5, none⟩ v5).heap[g]? = some (.cells #[v0, v1, v2, v3, v4, v5, a6] t (0, 0)) := heap_setCell_same _ g 5 _ _ v5 h4
  have h6 : (((((((w.setCell ⟨g, 0, none⟩ v0).setCell ⟨g, 1, none⟩ v1).setCell ⟨g, 2, none⟩ v2).setCell ⟨g, 3, none⟩ v3).setCell ⟨g, 4, none⟩ v4).setCell ⟨g, 5, none⟩ v5).setCell ⟨g, 6, none⟩ v6).heap[g]? = some (.cells #[v0, v1, v2, v3, v4, v5, v6] t (0, 0)) := heap_setCell_same _ g 6 _ _ v6 h5
  exact h6
theorem set7_grown (w : World) (g : Nat) (v0 v1 v2 v3 v4 v5 v6 : Value) :
    w.grownBy (((((((w.setCell ⟨g, 0, none⟩ v0).setCell ⟨g, 1, none⟩ v1).setCell ⟨g, 2, none⟩ v2).setCell ⟨g, 3, none⟩ v3).setCell ⟨g, 4, none⟩ v4).setCell ⟨g, 5, none⟩ v5).setCell ⟨g, 6, none⟩ v6) (some g) :=
  grown_trans (grown_trans (grown_trans (grown_trans (grown_trans (grown_trans (grown_setCell _ _ _) (grown_setCell _ _ _)) (grown_setCell _ _ _)) (grown_setCell _ _ _)) (grown_setCell _ _ _)) (grown_setCell _ _ _)) (grown_setCell _ _ _)
theorem results_of (tmps : Array Value) (w : World) (g : Nat) (cs : Array Value) (x : Value) (h2 : tmps.getD 2 undef = .pointer (some ⟨g, 0, none⟩)) (h3 : tmps.getD 3 undef = x) (hg : w.heap[g]? = some (.cells cs 56 (0, 0))) (hs : cs.size = 7) :
    (results Tryz.f17 tmps).run Tryz.prog w = .ok (.tuple #[.agg cs, x]) w := by
  have h2' : tmps[2]?.getD undef = .pointer (some ⟨g, 0, none⟩) := by simpa using h2
  have h3' : tmps[3]?.getD undef = x := by simpa using h3
  have hl := run_loadVar_row (P := Tryz.prog) w g 56 56 cs (0, 0) _ hg Tryz.underlying56 rfl (by rw [hs]; kernel_rfl)
  simp [results, Tryz.results17, h2', h3', asAddr, hl]

section
variable (ta na la pa : Option Addr) (tc nc lc pc : Nat) (n : Nat) (st : Int) (w : World) (tn nn ln : Nat)

set_option maxRecDepth 100000 in
set_option maxHeartbeats 2000000 in
theorem of_bad (ec : Int) (hec : ec = 1 ∨ ec = 11)
    (hBU : ∀ X, w.grownBy X none → Calls Tryz.prog 32 #[.agg #[.slice ta tn tc, .slice na nn nc, .slice la ln lc, .int .i64 st, .slice pa n pc]] X fun e y => e = .returned (.tuple #[.agg #[.slice none 0 0, .int .i64 0, .int .i64 0], .int .i64 ec]) ∧ X.grownBy y none) :
    Calls Tryz.prog 17 #[.agg #[.slice ta tn tc, .slice na nn nc, .slice la ln lc, .int .i64 st, .slice pa n pc]] w fun e y => e = .returned (.tuple #[.agg #[.slice none 0 0, .slice none 0 0, .slice none 0 0, .int .i64 0, .slice none 0 0, .slice none 0 0, .map none], .int .i64 ec]) ∧ w.grownBy y none := by
  have HBU := show Hid _ from hBU
  have HX0 : Hid (w.grownBy ((w.alloc (.cells #[.slice ta tn tc, .slice na nn nc, .slice la ln lc, .int .i64 st, .slice pa n pc] 27)).alloc (.cells #[.slice none 0 0, .slice none 0 0, .slice none 0 0, .int .i64 0, .slice none 0 0, .slice none 0 0, .map none] 56)) none) := grown_trans (World.grownBy_alloc _ _ none) (World.grownBy_alloc _ _ none)
  have HB0 : Hid (((w.alloc (.cells #[.slice ta tn tc, .slice na nn nc, .slice la ln lc, .int .i64 st, .slice pa n pc] 27)).alloc (.cells #[.slice none 0 0, .slice none 0 0, .slice none 0 0, .int .i64 0, .slice none 0 0, .slice none 0 0, .map none] 56)).heap[w.heap.size + 1]? = some (.cells #[.slice none 0 0, .slice none 0 0, .slice none 0 0, .int .i64 0, .slice none 0 0, .slice none 0 0, .map none] 56 (0, 0))) := by
    have h := heap_alloc_last (w.alloc (.cells #[.slice ta tn tc, .slice na nn nc, .slice la ln lc, .int .i64 st, .slice pa n pc] 27)) (.cells #[.slice none 0 0, .slice none 0 0, .slice none 0 0, .int .i64 0, .slice none 0 0, .slice none 0 0, .map none] 56)
    rw [World.size_alloc] at h; exact h
  have hne : (ec != 0) = true := bne_iff_ne.2 (by omega)
  clear hBU hec
  go_enter Tryz.func17, Tryz.ntmps17
  go_wp2_with fail
  refine Calls.mono (HBU.out _ HX0.out) ?_
  rintro e w1 ⟨rfl, hg1⟩
  have HB1 : Hid ((w1.alloc (.cells #[.slice none 0 0, .int .i64 0, .int .i64 0] 49)).heap[w.heap.size + 1]? = some (.cells #[.slice none 0 0, .slice none 0 0, .slice none 0 0, .int .i64 0, .slice none 0 0, .slice none 0 0, .map none] 56 (0, 0))) := box_kept HB0.out (grown_trans hg1 (World.grownBy_alloc _ _ none))
  have HG1 : Hid (w.grownBy (w1.alloc (.cells #[.slice none 0 0, .int .i64 0, .int .i64 0] 49)) none) := grown_trans HX0.out (grown_trans hg1 (World.grownBy_alloc _ _ none))
  clear hg1 HB0 HX0
  obtain ⟨k0, k1, k2, k3, k4, k5, k6⟩ : _ ∧ _ ∧ _ ∧ _ ∧ _ ∧ _ ∧ _ := ⟨cell_of_row _ (w.heap.size + 1) 0 _ _ _ HB1.out, cell_of_row _ (w.heap.size + 1) 1 _ _ _ HB1.out, cell_of_row _ (w.heap.size + 1) 2 _ _ _ HB1.out, cell_of_row _ (w.heap.size + 1) 3 _ _ _ HB1.out, cell_of_row _ (w.heap.size + 1) 4 _ _ _ HB1.out, cell_of_row _ (w.heap.size + 1) 5 _ _ _ HB1.out, cell_of_row _ (w.heap.size + 1) 6 _ _ _ HB1.out⟩
  have kf := fun j => frozen_of_row _ (w.heap.size + 1) j _ _ HB1.out
  simp only [List.getElem?_toArray, List.getElem?_cons_zero, List.getElem?_cons_succ] at k0 k1 k2 k3 k4 k5 k6
  go_wp2_with fail
  refine bodyPost_ret (v := .tuple #[.agg #[.slice none 0 0, .slice none 0 0, .slice none 0 0, .int .i64 0, .slice none 0 0, .slice none 0 0, .map none], .int .i64 ec]) ?_ rfl ?_
  · exact results_of _ _ (w.heap.size + 1) _ _ rfl rfl (set7_heap HB1.out _ _ _ _ _ _ _) rfl
  · exact ⟨rfl, grown_new HG1.out (set7_grown _ _ _ _ _ _ _ _ _) (by omega)⟩
end

end Go.Proofs.YtckgjolaoifgkaaGreat.J

/-
  trans: automatonOf, where there is an automaton.
-/
namespace Go.Proofs.YtckgjolaoifgkaaGreat.J
open Go.RowKit Go.Maps Go.Shelf

attribute [local go_sem] Oper.semAt_some

/-- What automatonOf tells. -/
def OfTold (ta na la pa : Option Addr) (tc nc lc pc : Nat) (n : Nat) (st : Int) (tn nn ln : Nat) (ks : List (List It)) (es : List (List (Nat × Nat))) (w : World) (e : Ending) (y : World) : Prop :=
  ∃ (sa : Option Addr) (sc : Nat) (kv ev : Nat → Value) (lb m : Nat), e = .returned (.tuple #[.agg #[.slice ta tn tc, .slice na nn nc, .slice la ln lc, .int .i64 st, .slice pa n pc, .slice sa ks.length sc, .map (some lb)], .int .i64 0]) ∧ AutP w.heap.size y (.slice sa ks.length sc) ks (elF es) kv ev ∧ LdAt y lb m (leadA es) ∧ w.grownBy y none

section
variable (ta na la pa : Option Addr) (tc nc lc pc : Nat) (n : Nat) (st : Int) (w : World) (tn nn ln : Nat)

set_option maxRecDepth 100000 in
set_option maxHeartbeats 4000000 in
theorem of_ok (ask : Nat) (ks : List (List It)) (es : List (List (Nat × Nat))) (hN256 : ks.length ≤ 256) (hel : es.length = ks.length) (hes : ∀ q, q < ks.length → (es.getD q []).length ≤ 130 ∧ ((es.getD q []).map Prod.fst).Nodup ∧ ∀ x ∈ es.getD q [], x.1 < 130 ∧ x.2 < 256)
    (hBU : ∀ X, w.grownBy X none → Calls Tryz.prog 32 #[.agg #[.slice ta tn tc, .slice na nn nc, .slice la ln lc, .int .i64 st, .slice pa n pc]] X fun e y => ∃ sa sc kv ev, e = .returned (.tuple #[.agg #[.slice sa ks.length sc, .int .i64 (ask : Int), .int .i64 (ks.length : Int)], .int .i64 0]) ∧ AutP w.heap.size y (.slice sa ks.length sc) ks (elF es) kv ev ∧ X.grownBy y none) :
    Calls Tryz.prog 17 #[.agg #[.slice ta tn tc, .slice na nn nc, .slice la ln lc, .int .i64 st, .slice pa n pc]] w fun e y => OfTold ta na la pa tc nc lc pc n st tn nn ln ks es w e y := by
  have HBU := show Hid _ from hBU
  have HES := show Hid _ from hes
  have HEL : Hid (es.length = ks.length) := hel
  have HX0 : Hid (PhAt w ((w.alloc (.cells #[.slice ta tn tc, .slice na nn nc, .slice la ln lc, .int .i64 st, .slice pa n pc] 27)).alloc (.cells #[.slice none 0 0, .slice none 0 0, .slice none 0 0, .int .i64 0, .slice none 0 0, .slice none 0 0, .map none] 56)) w.heap.size #[.slice ta tn tc, .slice na nn nc, .slice la ln lc, .int .i64 st, .slice pa n pc]) := PhAt.kept ⟨World.grownBy_alloc _ _ none, heap_alloc_last w _⟩ (World.grownBy_alloc _ _ none)
  have HB0 : Hid (((w.alloc (.cells #[.slice ta tn tc, .slice na nn nc, .slice la ln lc, .int .i64 st, .slice pa n pc] 27)).alloc (.cells #[.slice none 0 0, .slice none 0 0, .slice none 0 0, .int .i64 0, .slice none 0 0, .slice none 0 0, .map none] 56)).heap[w.heap.size + 1]? = some (.cells #[.slice none 0 0, .slice none 0 0, .slice none 0 0, .int .i64 0, .slice none 0 0, .slice none 0 0, .map none] 56 (0, 0))) := by
    have h := heap_alloc_last (w.alloc (.cells #[.slice ta tn tc, .slice na nn nc, .slice la ln lc, .int .i64 st, .slice pa n pc] 27)) (.cells #[.slice none 0 0, .slice none 0 0, .slice none 0 0, .int .i64 0, .slice none 0 0, .slice none 0 0, .map none] 56)
    rw [World.size_alloc] at h; exact h
  have hmm := @run_makeMap Tryz.prog
  obtain ⟨N, hN⟩ : ∃ n, n = ks.length := ⟨_, rfl⟩
  have HN : Hid (N = ks.length) := hN
  rw [← hN] at hN256 HBU
  clear hBU hes hel hN
  go_enter Tryz.func17, Tryz.ntmps17
  go_wp2_with fail
  refine Calls.mono (HBU.out _ HX0.out.grown) ?_
  rintro e w1 ⟨sa, sc, kv, ev, rfl, hAP, hg1⟩
  obtain ⟨W, hW⟩ : ∃ W, W = w1.alloc (.cells #[.slice sa N sc, .int .i64 (ask : Int), .int .i64 (N : Int)] 49) := ⟨_, rfl⟩
  obtain ⟨ab, hab⟩ : ∃ b, b = w1.heap.size := ⟨_, rfl⟩
  have hgW : w1.grownBy W none := by rw [hW]; exact World.grownBy_alloc _ _ none
  have HXW : Hid (PhAt w W w.heap.size #[.slice ta tn tc, .slice na nn nc, .slice la ln lc, .int .i64 st, .slice pa n pc]) := HX0.out.kept (grown_trans hg1 hgW)
  have HBW : Hid (W.heap[w.heap.size + 1]? = some (.cells #[.slice none 0 0, .slice none 0 0, .slice none 0 0, .int .i64 0, .slice none 0 0, .slice none 0 0, .map none] 56 (0, 0))) := box_kept HB0.out (grown_trans hg1 hgW)
  have HAW : Hid (W.heap[ab]? = some (.cells #[.slice sa N sc, .int .i64 (ask : Int), .int .i64 (N : Int)] 49 (0, 0))) := by rw [hW, hab]; exact heap_alloc_last w1 _
  have HPW : Hid (AutP w.heap.size W (.slice sa N sc) ks (elF es) kv ev) := hAP.kept hgW
  have HWE := show Hid _ from hW
  have HBE := show Hid _ from hab
  clear hg1 hAP HX0 HB0 hgW hW hab
  have y0 : (w1.alloc (.cells #[.slice sa N sc, .int .i64 (ask : Int), .int .i64 (N : Int)] 49)).cell? ⟨w1.heap.size, 0, none⟩ = some (.slice sa N sc) := by rw [← HWE.out, ← HBE.out, cell_of_row _ _ _ _ _ _ HAW.out]; rfl
  have y1 : ∀ o, ((w1.alloc (.cells #[.slice sa N sc, .int .i64 (ask : Int), .int .i64 (N : Int)] 49)).alloc o).cell? ⟨w1.heap.size, 0, none⟩ = some (.slice sa N sc) := fun o => (World.grownBy_alloc _ o none).cell y0 (by simp)
  go_wp2_with fail
  rw [← HWE.out, ← HBE.out]
  clear y0 y1
  obtain ⟨lb, hlb⟩ : ∃ b, b = W.heap.size := ⟨_, rfl⟩
  have HLB : Hid (W.heap.size ≤ lb) := by show _ ≤ _; omega
  have HLE : Hid (lb = ab + 1) := by show _ = _; rw [hlb, HWE.out, World.size_alloc, HBE.out]
  rw [← HLE.out]
  have HL0 : Hid (LdAt (W.alloc (.map #[] 0)) lb 0 (leadT es 0 0)) := by
    rw [leadT_zero, hlb]; exact LdAt.made W
  clear hlb HWE HBE HLE
  go_loopg [24] N (fun gk v24 wr => ∃ i m : Nat, i ≤ N ∧ gk = N - i ∧ v24 = .int .i64 i ∧ m ≤ i * 130 ∧ W.grownBy wr none ∧ LdAt wr lb m (leadT es i 0))
  case atStart => exact ⟨0, 0, Nat.zero_le _, rfl, rfl, Nat.le_refl _, World.grownBy_alloc _ _ none, HL0.out⟩
  case round =>
    obtain ⟨i, m, hi, hgi, rfl, hm, hg, hL⟩ := hrel
    have HGI : Hid (gk = N - i) := hgi
    have HG : Hid (W.grownBy wr none) := hg
    have HL : Hid (LdAt wr lb m (leadT es i 0)) := hL
    clear hgi hg hL HL0
    generalize wr = Z at *
    by_cases hlt : i < N
    · have hid : decide (i < N) = true := decide_eq_true hlt
      have hi0 : (0 : Int) ≤ (i : Int) := by omega
      have hi1 : (i : Int) < (N : Int) := by omega
      have hik : i < ks.length := by rw [← HN.out]; exact hlt
      have hPZ : AutP w.heap.size Z (.slice sa N sc) ks (elF es) kv ev := HPW.out.kept HG.out
      rw [HN.out] at hPZ
      obtain ⟨sb, sc', hsv, hs0, hs1⟩ := hPZ.st hik
      simp only [Value.slice.injEq] at hsv
      obtain ⟨rfl, _, rfl⟩ := hsv
      obtain ⟨ka, kc, hkv, _, _⟩ := hPZ.kerAt hik
      obtain ⟨ea, ec, hev, _⟩ := hPZ.edgAt hik
      have HEA : Hid (∀ Y, W.grownBy Y none → ItsAt Y ea (elF es i)) := fun Y hY => by
        have h := HPW.out.kept hY
        rw [HN.out] at h
        obtain ⟨ea2, ec2, h1, h2⟩ := h.edgAt hik
        rw [hev] at h1
        simp only [Value.slice.injEq] at h1
        rw [h1.1]; exact h2
      rw [hkv] at hs0
      rw [hev] at hs1
      obtain ⟨kl, hkl⟩ : ∃ k, k = (ks.getD i []).length := ⟨_, rfl⟩
      obtain ⟨E, hE⟩ : ∃ E, E = (elF es i).length := ⟨_, rfl⟩
      rw [← hkl] at hs0
      rw [← hE] at hs1
      have HE : Hid (E = (es.getD i []).length) := by show _ = _; rw [hE]; exact elF_len _ _
      have hEb : E ≤ 130 := by rw [HE.out]; exact (HES.out i hik).1
      clear hkl hE hkv hev hPZ
      go_wp2_with fail
      go_loopg [32] E (fun gk v32 wr => ∃ j m' : Nat, j ≤ E ∧ gk = E - j ∧ v32 = .int .i64 j ∧ m' ≤ i * 130 + j ∧ W.grownBy wr none ∧ LdAt wr lb m' (leadT es i j))
      case atStart => exact ⟨0, m, Nat.zero_le _, rfl, rfl, hm, grown_trans HG.out (World.grownBy_alloc _ _ none), HL.out.kept (World.grownBy_alloc _ _ none) (by simp)⟩
      case round =>
        obtain ⟨j, m', hj, hgj, rfl, hm', hg2, hL2⟩ := hrel
        have HGJ : Hid (gk = E - j) := hgj
        have HG2 : Hid (W.grownBy wr none) := hg2
        have HL2 : Hid (LdAt wr lb m' (leadT es i j)) := hL2
        clear hgj hg2 hL2
        by_cases hlj : j < E
        · have hjd : decide (j < E) = true := decide_eq_true hlj
          have hj0 : (0 : Int) ≤ (j : Int) := by omega
          have hj1 : (j : Int) < (E : Int) := by omega
          have hje : j < (es.getD i []).length := by rw [← HE.out]; exact hlj
          obtain ⟨eb, eo, hea, c0, c1⟩ := (HEA.out wr HG2.out).cellAt (i := j) (by rw [elF_len]; exact hje)
          subst hea
          rw [(elF_at hje).2] at c0 c1
          obtain ⟨x, hx⟩ : ∃ x, x = (es.getD i []).getD j (0, 0) := ⟨_, rfl⟩
          have hxb := (HES.out i hik).2.2 x (by
            rw [hx]
            generalize es.getD i [] = l at hje ⊢
            rw [List.getD_eq_getElem?_getD, List.getElem?_eq_getElem hje]; exact List.getElem_mem hje)
          rw [← hx] at c0 c1
          obtain ⟨s, t⟩ := x
          simp only at c0 c1 hxb
          obtain ⟨W', hrun, hld, hgr⟩ := (HL2.out.kept (World.grownBy_alloc wr (.cells #[.int .i64 (s : Int), .int .i64 (t : Int)] 78) none) (by simp)).update (by unfold maxLen; omega) (x := ((i : Int), (s : Int))) ⟨WalkArith.wf_i64 ⟨by omega, by omega⟩, WalkArith.wf_i64 ⟨by omega, by omega⟩⟩ (t : Int)
          rw [leadT_step hje hx.symm (HES.out i hik).2.1] at hld
          have HLD : Hid (LdAt W' lb (m' + 1) (leadT es i (j + 1))) := hld
          have HG3 : Hid (W.grownBy W' none) := grown_new (grown_trans HG2.out (World.grownBy_alloc _ _ none)) hgr HLB.out
          have hrun' : (Instr.mapUpdate 54 (.map (some lb)) (.agg #[.int .i64 (i : Int), .int .i64 (s : Int)]) (.int .i64 (t : Int))).run Tryz.prog (wr.alloc (.cells #[.int .i64 (s : Int), .int .i64 (t : Int)] 78)) = .ok () W' := hrun
          clear hx hld hgr hrun hje hxb
          go_wp2_with fail
          go_roundg (E - (j + 1))
          case measure => have := HGJ.out; omega
          case rel => exact ⟨j + 1, m' + 1, by omega, rfl, by go_num, by omega, HG3.out, HLD.out⟩
        · have hjE : E = j := by omega
          subst hjE
          have hjd : decide (E < E) = false := decide_eq_false (by omega)
          have HL3 : Hid (LdAt wr lb m' (leadT es (i + 1) 0)) := by
            rw [← leadT_row, ← HE.out]; exact HL2.out
          go_wp2_with fail
          go_roundg (N - (i + 1))
          case measure => have := HGI.out; omega
          case rel => exact ⟨i + 1, m', by omega, rfl, by go_num, by omega, HG2.out, HL3.out⟩
    · have hiN : N = i := by omega
      subst hiN
      have hid : decide (N < N) = false := decide_eq_false (by omega)
      have HLA : Hid (LdAt Z lb m (leadA es)) := by
        have h := HL.out
        rw [HN.out, ← HEL.out] at h
        exact h
      have HBZ : Hid (Z.heap[w.heap.size + 1]? = some (.cells #[.slice none 0 0, .slice none 0 0, .slice none 0 0, .int .i64 0, .slice none 0 0, .slice none 0 0, .map none] 56 (0, 0))) := box_kept HBW.out HG.out
      obtain ⟨k0, k1, k2, k3, k4⟩ := (HXW.out.kept HG.out).cells
      have y0 : Z.cell? ⟨ab, 0, none⟩ = some (.slice sa N sc) := by rw [cell_of_row _ _ _ _ _ _ (box_kept HAW.out HG.out)]; rfl
      have hbd : ∀ u, (Instr.build 56 #[(0, .agg #[.slice ta tn tc, .slice na nn nc, .slice la ln lc, .int .i64 st, .slice pa n pc]), (1, .slice sa N sc), (2, .map (some lb))]).run Tryz.prog u = .ok (.agg #[.slice ta tn tc, .slice na nn nc, .slice la ln lc, .int .i64 st, .slice pa n pc, .slice sa N sc, .map (some lb)]) u := fun u => run_build u _ _ _ (by kernel_rfl)
      obtain ⟨q0, q1, q2, q3, q4, q5, q6⟩ : _ ∧ _ ∧ _ ∧ _ ∧ _ ∧ _ ∧ _ := ⟨cell_of_row _ (w.heap.size + 1) 0 _ _ _ HBZ.out, cell_of_row _ (w.heap.size + 1) 1 _ _ _ HBZ.out, cell_of_row _ (w.heap.size + 1) 2 _ _ _ HBZ.out, cell_of_row _ (w.heap.size + 1) 3 _ _ _ HBZ.out, cell_of_row _ (w.heap.size + 1) 4 _ _ _ HBZ.out, cell_of_row _ (w.heap.size + 1) 5 _ _ _ HBZ.out, cell_of_row _ (w.heap.size + 1) 6 _ _ _ HBZ.out⟩
      have kf := fun j => frozen_of_row _ (w.heap.size + 1) j _ _ HBZ.out
      simp only [List.getElem?_toArray, List.getElem?_cons_zero, List.getElem?_cons_succ] at q0 q1 q2 q3 q4 q5 q6
      go_wp2_with fail
      refine bodyPost_ret (v := .tuple #[.agg #[.slice ta tn tc, .slice na nn nc, .slice la ln lc, .int .i64 st, .slice pa n pc, .slice sa N sc, .map (some lb)], .int .i64 0]) ?_ rfl ?_
      · exact results_of _ _ (w.heap.size + 1) _ _ rfl rfl (set7_heap HBZ.out _ _ _ _ _ _ _) rfl
      · have hgs := set7_grown Z (w.heap.size + 1) (.slice ta tn tc) (.slice na nn nc) (.slice la ln lc) (.int .i64 st) (.slice pa n pc) (.slice sa N sc) (.map (some lb))
        obtain ⟨mes, mcl, hobj⟩ := HLA.out.obj
        have hP9 := HPW.out.kept HG.out
        rw [HN.out] at hP9
        refine ⟨sa, sc, kv, ev, lb, m, by rw [← HN.out], ⟨hP9.row.kept hgs (owns_nebox hP9.row HBZ.out (by decide)), fun i hi => (hP9.ker i hi).kept hgs (owns_nebox (hP9.ker i hi) HBZ.out (by decide)), fun i hi => (hP9.edg i hi).kept hgs (owns_nebox (hP9.edg i hi) HBZ.out (by decide))⟩, HLA.out.kept hgs ?_, grown_new (grown_trans HXW.out.grown HG.out) hgs (by omega)⟩
        intro e
        have e2 : lb = w.heap.size + 1 := by simpa using e
        rw [e2, HBZ.out] at hobj
        cases hobj
end

end Go.Proofs.YtckgjolaoifgkaaGreat.J

/-
  trans: walk, isTerm, isNoSymbol.
-/
namespace Go.Proofs.YtckgjolaoifgkaaGreat.J
open Go.RowKit Go.Maps Go.Shelf

attribute [local go_sem] Oper.semAt_some

theorem cells7 {X : World} {b : Nat} {v0 v1 v2 v3 v4 v5 v6 : Value} {t : TypeId} (h : X.heap[b]? = some (.cells #[v0, v1, v2, v3, v4, v5, v6] t (0, 0))) : X.cell? ⟨b, 0, none⟩ = some v0 ∧ X.cell? ⟨b, 1, none⟩ = some v1 ∧ X.cell? ⟨b, 2, none⟩ = some v2 ∧ X.cell? ⟨b, 3, none⟩ = some v3 ∧ X.cell? ⟨b, 4, none⟩ = some v4 ∧ X.cell? ⟨b, 5, none⟩ = some v5 ∧ X.cell? ⟨b, 6, none⟩ = some v6 := by
  refine ⟨?_, ?_, ?_, ?_, ?_, ?_, ?_⟩ <;> (rw [cell_of_row _ _ _ _ _ _ h]; rfl)
/-- Where edges lead: to states. -/
def LeadOK (es : List (List (Nat × Nat))) : Prop := ∀ x v, leadA es x = some v → 0 ≤ v ∧ v < 256
theorem wayF_take (es : List (List (Nat × Nat))) {row : List Int} {j : Nat} (hj : j < row.length) (q : Option Int) : wayF es q (row.take (j + 1)) = wayF es (wayF es q (row.take j)) [row.getD j 0] := by
  rw [List.take_succ_eq_append_getElem hj, wayF_append, List.getD_eq_getElem?_getD, List.getElem?_eq_getElem hj]; rfl
theorem wayF_lost (es : List (List (Nat × Nat))) {row : List Int} {j : Nat} (q : Option Int) (h : wayF es q (row.take j) = none) : wayF es q row = none := by
  have h1 : row = row.take j ++ row.drop j := (List.take_append_drop j row).symm
  rw [h1, wayF_append, h, wayF_none]

section
variable (ta na la pa sa : Option Addr) (tc nc lc pc sc : Nat) (n N lb : Nat) (st : Int) (w : World) (tn nn ln : Nat)

theorem isTerm_any (s : Int) (b : Bool) (hb : b = decide (s < (tn : Int))) : Calls Tryz.prog 33 #[.agg #[.slice ta tn tc, .slice na nn nc, .slice la ln lc, .int .i64 st, .slice pa n pc, .slice sa N sc, .map (some lb)], .int .i64 s] w fun e y => e = .returned (.bool b) ∧ w.grownBy y none := by
  have HG0 : Hid (w.grownBy (w.alloc (.cells #[.slice ta tn tc, .slice na nn nc, .slice la ln lc, .int .i64 st, .slice pa n pc, .slice sa N sc, .map (some lb)] 56)) none) := World.grownBy_alloc _ _ none
  subst hb
  go_enter Tryz.func33, Tryz.ntmps33
  go_wp2_with fail
  go_ret
  exact ⟨rfl, HG0.out⟩

theorem isNoSym_any (htn : tn ≤ 65) (hnn : nn ≤ 65) (s : Int) (b : Bool) (hb : b = !(decide (0 ≤ s ∧ s < ((tn + nn : Nat) : Int)))) : Calls Tryz.prog 23 #[.agg #[.slice ta tn tc, .slice na nn nc, .slice la ln lc, .int .i64 st, .slice pa n pc, .slice sa N sc, .map (some lb)], .int .i64 s] w fun e y => e = .returned (.bool b) ∧ w.grownBy y none := by
  have HG0 : Hid (w.grownBy (w.alloc (.cells #[.slice ta tn tc, .slice na nn nc, .slice la ln lc, .int .i64 st, .slice pa n pc, .slice sa N sc, .map (some lb)] 56)) none) := World.grownBy_alloc _ _ none
  have HB : Hid (b = !(decide (0 ≤ s ∧ s < ((tn + nn : Nat) : Int)))) := hb
  clear hb
  by_cases h0 : s < 0
  · have hd : decide (s < 0) = true := decide_eq_true h0
    have HBB : Hid (b = true) := by show b = true; rw [HB.out, decide_eq_false (by omega)]; rfl
    go_enter Tryz.func23, Tryz.ntmps23
    go_wp2_with fail
    go_ret
    exact ⟨by rw [HBB.out]; rfl, HG0.out⟩
  · have hd : decide (s < 0) = false := decide_eq_false h0
    have hw : IntKind.i64.wrap ((tn : Int) + (nn : Int)) = (tn : Int) + (nn : Int) := by rw [IntKind.wrap_i64]; omega
    obtain ⟨k, rfl⟩ : ∃ k : Nat, s = (k : Int) := ⟨s.toNat, by omega⟩
    by_cases h1 : k < tn + nn
    · have hd1 : decide ((tn : Int) + (nn : Int) ≤ (k : Int)) = false := decide_eq_false (by omega)
      have hd2 : decide (tn + nn ≤ k) = false := decide_eq_false (by omega)
      have HBB : Hid (b = false) := by show b = false; rw [HB.out, decide_eq_true (by omega)]; rfl
      go_enter Tryz.func23, Tryz.ntmps23
      go_wp2_with fail
      go_ret
      exact ⟨by rw [HBB.out]; rfl, HG0.out⟩
    · have hd1 : decide ((tn : Int) + (nn : Int) ≤ (k : Int)) = true := decide_eq_true (by omega)
      have hd2 : decide (tn + nn ≤ k) = true := decide_eq_true (by omega)
      have HBB : Hid (b = true) := by show b = true; rw [HB.out, decide_eq_false (by omega)]; rfl
      go_enter Tryz.func23, Tryz.ntmps23
      go_wp2_with fail
      go_ret
      exact ⟨by rw [HBB.out]; rfl, HG0.out⟩

set_option maxRecDepth 100000 in
set_option maxHeartbeats 2000000 in
theorem walk_any (m : Nat) (es : List (List (Nat × Nat))) (hL : LdAt w lb m (leadA es)) (hOK : LeadOK es) (q : Nat) (hq : q ≤ 256) (ra : Option Addr) (rc : Nat) (row : List Int) (hr : IntsAt w ra row) (hrb : row.length ≤ 1099511627776000) (hrw : ∀ x ∈ row, (Lit.int .i64 x).wf = true) :
    Calls Tryz.prog 24 #[.agg #[.slice ta tn tc, .slice na nn nc, .slice la ln lc, .int .i64 st, .slice pa n pc, .slice sa N sc, .map (some lb)], .int .i64 (q : Int), .slice ra row.length rc] w fun e y => e = .returned (.int .i64 (wayV (wayF es (some (q : Int)) row))) ∧ w.grownBy y none := by
  have HL : Hid (∀ Y, w.grownBy Y none → LdAt Y lb m (leadA es)) := fun Y hY => hL.kept hY (by simp)
  have HR : Hid (∀ Y, w.grownBy Y none → IntsAt Y ra row) := fun Y hY => hr.kept hY
  have HRW := show Hid _ from hrw
  have HOK : Hid (LeadOK es) := hOK
  have HB0 : Hid ((w.alloc (.cells #[.slice ta tn tc, .slice na nn nc, .slice la ln lc, .int .i64 st, .slice pa n pc, .slice sa N sc, .map (some lb)] 56)).heap[w.heap.size]? = some (.cells #[.slice ta tn tc, .slice na nn nc, .slice la ln lc, .int .i64 st, .slice pa n pc, .slice sa N sc, .map (some lb)] 56 (0, 0))) := heap_alloc_last w _
  obtain ⟨M, hM⟩ : ∃ m, m = row.length := ⟨_, rfl⟩
  have HM : Hid (M = row.length) := hM
  rw [← hM] at hrb ⊢
  clear hL hr hrw hOK hM
  go_enter Tryz.func24, Tryz.ntmps24
  go_wp2_with fail
  obtain ⟨W, hW⟩ : ∃ W, W = w.alloc (.cells #[.slice ta tn tc, .slice na nn nc, .slice la ln lc, .int .i64 st, .slice pa n pc, .slice sa N sc, .map (some lb)] 56) := ⟨_, rfl⟩
  rw [← hW] at HB0 ⊢
  have HGW : Hid (w.grownBy W none) := by rw [hW]; exact World.grownBy_alloc _ _ none
  clear hW
  go_loopg [7, 15] M (fun gk v7 v15 wr => ∃ (j : Nat) (p : Nat), j ≤ M ∧ gk = M - j ∧ v15 = .int .i64 j ∧ v7 = .int .i64 (p : Int) ∧ p ≤ 256 ∧ wayF es (some (q : Int)) (row.take j) = some (p : Int) ∧ W.grownBy wr none)
  case atStart => exact ⟨0, q, Nat.zero_le _, rfl, rfl, rfl, hq, rfl, grown_refl _ _⟩
  case round =>
    obtain ⟨j, p, hj, hgj, rfl, rfl, hp, hwy, hg⟩ := hrel
    have HGJ : Hid (gk = M - j) := hgj
    have HWY : Hid (wayF es (some (q : Int)) (row.take j) = some (p : Int)) := hwy
    have HG : Hid (W.grownBy wr none) := hg
    clear hgj hwy hg
    by_cases hlt : j < M
    · have hj0 : (0 : Int) ≤ (j : Int) := by omega
      have hj1 : (j : Int) < (M : Int) := by omega
      have hjd : decide (j < M) = true := decide_eq_true hlt
      have hjl : j < row.length := by rw [← HM.out]; exact hlt
      obtain ⟨rb, ro, hra, c0⟩ : ∃ b off, ra = some ⟨b, off, none⟩ ∧ wr.cell? ⟨b, off + j, none⟩ = some (.int .i64 (row.getD j 0)) := by
        rcases HR.out wr (grown_trans HGW.out HG.out) with h | ⟨b, off, e, h⟩
        · rw [h] at hjl; cases hjl
        · exact ⟨b, off, e, h j hjl⟩
      subst hra
      have hws := HRW.out (row.getD j 0) (by rw [List.getD_eq_getElem?_getD, List.getElem?_eq_getElem hjl]; exact List.getElem_mem hjl)
      have hst := wayF_take es hjl (some (q : Int))
      rw [HWY.out] at hst
      obtain ⟨s, hs⟩ : ∃ s, s = row.getD j 0 := ⟨_, rfl⟩
      rw [← hs] at c0 hws hst
      have hst2 : wayF es (some (p : Int)) [s] = leadA es ((p : Int), s) := rfl
      rw [hst2] at hst
      have HST : Hid (wayF es (some (q : Int)) (row.take (j + 1)) = leadA es ((p : Int), s)) := hst
      have hlk : (Instr.lookup 54 (.map (some lb)) (.agg #[.int .i64 (p : Int), .int .i64 s]) true).run Tryz.prog wr = .ok (.tuple #[.int .i64 ((leadA es ((p : Int), s)).getD 0), .bool (leadA es ((p : Int), s)).isSome]) wr := (HL.out wr (grown_trans HGW.out HG.out)).look (x := ((p : Int), s)) ⟨WalkArith.wf_i64 ⟨by omega, by omega⟩, hws⟩
      obtain ⟨_, _, _, _, _, k5, k6⟩ := cells7 (box_kept HB0.out HG.out)
      clear hs hst hst2 hws hjl
      cases hle : leadA es ((p : Int), s) with
      | none =>
        rw [hle] at hlk HST
        simp only [Option.getD_none, Option.isSome_none] at hlk
        have HNO : Hid (wayF es (some (q : Int)) row = none) := wayF_lost es _ HST.out
        clear hle
        go_wp2_with fail
        go_ret
        exact ⟨by rw [HNO.out]; rfl, grown_trans HGW.out HG.out⟩
      | some v =>
        have hv := HOK.out _ _ hle
        rw [hle] at hlk HST
        obtain ⟨t, rfl⟩ : ∃ t : Nat, v = (t : Int) := ⟨v.toNat, by omega⟩
        simp only [Option.getD_some, Option.isSome_some] at hlk
        clear hle
        go_wp2_with fail
        go_roundg (M - (j + 1))
        case measure => have := HGJ.out; omega
        case rel => exact ⟨j + 1, t, by omega, rfl, by go_num, rfl, by omega, HST.out, HG.out⟩
    · have hjM : M = j := by omega
      subst hjM
      have hjd : decide (M < M) = false := decide_eq_false (by omega)
      have HFN : Hid (wayF es (some (q : Int)) row = some (p : Int)) := by
        have h := HWY.out
        rw [HM.out, List.take_length] at h
        exact h
      go_wp2_with fail
      go_ret
      exact ⟨by rw [HFN.out]; rfl, grown_trans HGW.out HG.out⟩
end

end Go.Proofs.YtckgjolaoifgkaaGreat.J

/-
  trans: transitions.
-/
namespace Go.Proofs.YtckgjolaoifgkaaGreat.J
open Go.RowKit Go.Maps Go.Shelf

attribute [local go_sem] Oper.semAt_some

theorem infoTrans : (Tryz.prog.info? 39).map (fun i => (i.zero, i.size, i.bytes)) = some (some (.agg #[.int .i64 0, .int .i64 0]), 2, 16) := by kernel_rfl
/-- The transitions among edges of a state. -/
def trI (tn : Nat) (l : List (Nat × Nat)) (i : Nat) : List It := (l.filter fun x => decide (tn ≤ x.1)).map fun x => ((i : Int), (x.1 : Int))
theorem trI_snoc (tn : Nat) (l : List (Nat × Nat)) (i s t : Nat) : trI tn (l ++ [(s, t)]) i = trI tn l i ++ (if tn ≤ s then [((i : Int), (s : Int))] else []) := by
  unfold trI
  rw [List.filter_append, List.map_append]
  by_cases h : tn ≤ s
  · rw [if_pos h]; simp [h]
  · rw [if_neg h]; simp [h]
theorem trI_len (tn : Nat) (l : List (Nat × Nat)) (i : Nat) : (trI tn l i).length ≤ l.length := by
  unfold trI
  rw [List.length_map]
  exact List.length_filter_le _ _
/-- The transitions of the states below i. -/
def trT (tn : Nat) (es : List (List (Nat × Nat))) : Nat → List It
  | 0 => []
  | i + 1 => trT tn es i ++ trI tn (es.getD i []) i
theorem take_snocE {l : List (Nat × Nat)} {j s t : Nat} (hj : j < l.length) (he : l.getD j (0, 0) = (s, t)) : l.take (j + 1) = l.take j ++ [(s, t)] := by
  rw [List.take_succ_eq_append_getElem hj]
  rw [List.getD_eq_getElem?_getD, List.getElem?_eq_getElem hj] at he
  exact congrArg _ (congrArg (fun y => [y]) he)
theorem trT_len {tn c : Nat} {es : List (List (Nat × Nat))} : ∀ (i : Nat), (∀ q, q < i → (es.getD q []).length ≤ c) → (trT tn es i).length ≤ i * c
  | 0, _ => by simp [trT]
  | i + 1, h => by
    unfold trT
    rw [List.length_append, Nat.succ_mul]
    have h1 := trT_len (tn := tn) i fun q hq => h q (by omega)
    have h2 := trI_len tn (es.getD i []) i
    have h3 := h i (by omega)
    omega

section
variable (ta na la pa sa : Option Addr) (tc nc lc pc sc : Nat) (n N lb : Nat) (st : Int) (w : World) (tn nn ln : Nat)

/-- What transitions tells. -/
def TrTold (l : List It) (w : World) (e : Ending) (y : World) : Prop := ∃ (a : Option Addr) (c : Nat), e = .returned (.slice a l.length c) ∧ y.ownsRow w.heap.size 39 2 (.slice a l.length c) l.length (itsV l) ∧ w.grownBy y none

set_option maxRecDepth 100000 in
set_option maxHeartbeats 4000000 in
theorem trans_any (B : Nat) (ks : List (List It)) (es : List (List (Nat × Nat))) (kv ev : Nat → Value) (hN : N = ks.length) (hN256 : N ≤ 256) (hP : AutP B w (.slice sa ks.length sc) ks (elF es) kv ev) (hes : ∀ q, q < ks.length → (es.getD q []).length ≤ 130) :
    Calls Tryz.prog 18 #[.agg #[.slice ta tn tc, .slice na nn nc, .slice la ln lc, .int .i64 st, .slice pa n pc, .slice sa N sc, .map (some lb)]] w fun e y => TrTold (trT tn es N) w e y := by
  have HN : Hid (N = ks.length) := hN
  have HP : Hid (∀ Y, w.grownBy Y none → AutP B Y (.slice sa ks.length sc) ks (elF es) kv ev) := fun Y hY => hP.kept hY
  have HES := show Hid _ from hes
  have HB0 : Hid ((w.alloc (.cells #[.slice ta tn tc, .slice na nn nc, .slice la ln lc, .int .i64 st, .slice pa n pc, .slice sa N sc, .map (some lb)] 56)).heap[w.heap.size]? = some (.cells #[.slice ta tn tc, .slice na nn nc, .slice la ln lc, .int .i64 st, .slice pa n pc, .slice sa N sc, .map (some lb)] 56 (0, 0))) := heap_alloc_last w _
  obtain ⟨i0, hi0, hz0, hz1, hz2⟩ := info_parts infoTrans
  clear hP hes hN
  go_enter Tryz.func18, Tryz.ntmps18
  go_wp2_with fail
  obtain ⟨W, hW⟩ : ∃ W, W = w.alloc (.cells #[.slice ta tn tc, .slice na nn nc, .slice la ln lc, .int .i64 st, .slice pa n pc, .slice sa N sc, .map (some lb)] 56) := ⟨_, rfl⟩
  rw [← hW] at HB0 ⊢
  have HGW : Hid (w.grownBy W none) := by rw [hW]; exact World.grownBy_alloc _ _ none
  clear hW
  go_loopg [3, 11] N (fun gk v3 v11 wr => ∃ (i L : Nat) (a : Option Addr) (c : Nat), i ≤ N ∧ gk = N - i ∧ v11 = .int .i64 i ∧ v3 = .slice a L c ∧ L = (trT tn es i).length ∧ wr.ownsRow W.heap.size 39 2 (.slice a L c) L (itsV (trT tn es i)) ∧ W.grownBy wr none)
  case atStart => exact ⟨0, 0, none, 0, Nat.zero_le _, rfl, rfl, rfl, rfl, World.ownsRow_nil _ _ _ _, grown_refl _ _⟩
  case round =>
    obtain ⟨i, L, a, c, hi, hgi, rfl, rfl, hLl, hown, hg⟩ := hrel
    have HGI : Hid (gk = N - i) := hgi
    have HLL : Hid (L = (trT tn es i).length) := hLl
    have HO : Hid (wr.ownsRow W.heap.size 39 2 (.slice a L c) L (itsV (trT tn es i))) := hown
    have HG : Hid (W.grownBy wr none) := hg
    have hLb : L ≤ i * 130 := by rw [hLl]; exact trT_len i fun q hq => HES.out q (by have := HN.out; omega)
    clear hgi hLl hown hg
    generalize wr = Z at *
    by_cases hlt : i < N
    · have hid : decide (i < N) = true := decide_eq_true hlt
      have hi0' : (0 : Int) ≤ (i : Int) := by omega
      have hi1 : (i : Int) < (N : Int) := by omega
      have hik : i < ks.length := by rw [← HN.out]; exact hlt
      have hPZ := HP.out Z (grown_trans HGW.out HG.out)
      obtain ⟨sb, sc', hsv, hs0, hs1⟩ := hPZ.st hik
      simp only [Value.slice.injEq] at hsv
      obtain ⟨rfl, _, rfl⟩ := hsv
      obtain ⟨ka, kc, hkv, _, _⟩ := hPZ.kerAt hik
      obtain ⟨ea, ec, hev, _⟩ := hPZ.edgAt hik
      have HEA : Hid (∀ Y, W.grownBy Y none → ItsAt Y ea (elF es i)) := fun Y hY => by
        obtain ⟨ea2, ec2, h1, h2⟩ := (HP.out Y (grown_trans HGW.out hY)).edgAt hik
        rw [hev] at h1
        simp only [Value.slice.injEq] at h1
        rw [h1.1]; exact h2
      rw [hkv] at hs0
      rw [hev] at hs1
      obtain ⟨kl, hkl⟩ : ∃ k, k = (ks.getD i []).length := ⟨_, rfl⟩
      obtain ⟨E, hE⟩ : ∃ E, E = (elF es i).length := ⟨_, rfl⟩
      rw [← hkl] at hs0
      rw [← hE] at hs1
      have HE : Hid (E = (es.getD i []).length) := by show _ = _; rw [hE]; exact elF_len _ _
      have hEb : E ≤ 130 := by rw [HE.out]; exact HES.out i hik
      clear hkl hE hkv hev hPZ
      go_wp2_with fail
      go_loopg [3, 19] E (fun gk v3 v19 wr => ∃ (j L : Nat) (a : Option Addr) (c : Nat), j ≤ E ∧ gk = E - j ∧ v19 = .int .i64 j ∧ v3 = .slice a L c ∧ L = (trT tn es i ++ trI tn ((es.getD i []).take j) i).length ∧ wr.ownsRow W.heap.size 39 2 (.slice a L c) L (itsV (trT tn es i ++ trI tn ((es.getD i []).take j) i)) ∧ W.grownBy wr none)
      case atStart => exact ⟨0, L, a, c, Nat.zero_le _, rfl, rfl, rfl, by simpa [trI] using HLL.out, by simpa [trI] using keep0 HO.out (World.grownBy_alloc _ _ none), grown_trans HG.out (World.grownBy_alloc _ _ none)⟩
      case round =>
        obtain ⟨j, L2, a2, c2, hj, hgj, rfl, rfl, hL2, hown2, hg2⟩ := hrel
        have HGJ : Hid (gk = E - j) := hgj
        have HL2 : Hid (L2 = (trT tn es i ++ trI tn ((es.getD i []).take j) i).length) := hL2
        have HO2 : Hid (wr.ownsRow W.heap.size 39 2 (.slice a2 L2 c2) L2 (itsV (trT tn es i ++ trI tn ((es.getD i []).take j) i))) := hown2
        have HG2 : Hid (W.grownBy wr none) := hg2
        have hL2b : L2 ≤ i * 130 + 130 := by
          rw [hL2, List.length_append, ← HLL.out]
          have h1 := trI_len tn ((es.getD i []).take j) i
          have h2 : ((es.getD i []).take j).length ≤ j := by rw [List.length_take]; omega
          omega
        clear hgj hL2 hown2 hg2
        by_cases hlj : j < E
        · have hjd : decide (j < E) = true := decide_eq_true hlj
          have hj0 : (0 : Int) ≤ (j : Int) := by omega
          have hj1 : (j : Int) < (E : Int) := by omega
          have hje : j < (es.getD i []).length := by rw [← HE.out]; exact hlj
          obtain ⟨eb, eo, hea, c0, c1⟩ := (HEA.out wr HG2.out).cellAt (i := j) (by rw [elF_len]; exact hje)
          subst hea
          rw [(elF_at hje).2] at c0 c1
          obtain ⟨x, hx⟩ : ∃ x, x = (es.getD i []).getD j (0, 0) := ⟨_, rfl⟩
          rw [← hx] at c0 c1
          obtain ⟨s, t⟩ := x
          simp only at c0 c1
          have HTK : Hid (trI tn ((es.getD i []).take (j + 1)) i = trI tn ((es.getD i []).take j) i ++ (if tn ≤ s then [((i : Int), (s : Int))] else [])) := by
            show _ = _
            rw [take_snocE hje hx.symm, trI_snoc]
          have HA : Hid (W.grownBy (wr.alloc (.cells #[.int .i64 (s : Int), .int .i64 (t : Int)] 78)) none) := grown_trans HG2.out (World.grownBy_alloc _ _ none)
          obtain ⟨k0, k1, k2, k3, k4, k5, k6⟩ := cells7 (box_kept HB0.out HA.out)
          by_cases hts : tn ≤ s
          · have HIT := show Hid _ from isTerm_any ta na la pa (some ⟨sb, 0, none⟩) tc nc lc pc sc n N lb st (wr.alloc (.cells #[.int .i64 (s : Int), .int .i64 (t : Int)] 78)) tn nn ln (s : Int) false (decide_eq_false (by omega)).symm
            clear hx hje
            go_wp2_with fail
            refine Calls.mono HIT.out ?_
            rintro e w5 ⟨rfl, hg5⟩
            have HG5 : Hid (W.grownBy w5 none) := grown_trans HA.out hg5
            have HO5 : Hid (w5.ownsRow W.heap.size 39 2 (.slice a2 L2 c2) L2 (itsV (trT tn es i ++ trI tn ((es.getD i []).take j) i))) := keep0 HO2.out (grown_trans (World.grownBy_alloc _ _ none) hg5)
            have hbx : w5.heap[wr.heap.size]? = some (.cells #[.int .i64 (s : Int), .int .i64 (t : Int)] 78 (0, 0)) := box_kept (heap_alloc_last wr _) hg5
            have r0 : w5.cell? ⟨wr.heap.size, 0, none⟩ = some (.int .i64 (s : Int)) := by rw [cell_of_row _ _ _ _ _ _ hbx]; rfl
            have hsz := HG5.out.size
            clear hg5 hbx HIT k0 k1 k2 k3 k4 k5 k6 c0 c1
            go_wp2_with (at_builtin; refine wpList_append_lies _ rfl (.tmp 28) (.tmp 33) 30 rfl W.heap.size 39 i0 (.agg #[.int .i64 0, .int .i64 0]) 2 16 Tryz.underlying30 hi0 hz0 hz1 hz2 rfl (by decide) (.slice a2 L2 c2) L2 (itsV (trT tn es i ++ trI tn ((es.getD i []).take j) i)) rfl (HO5.out.alloc _) ⟨w5.heap.size, 0, none⟩ 1 1 [.int .i64 (i : Int), .int .i64 (s : Int)] rfl rfl (World.news_of_block (heap_alloc_last w5 _)) (by simp [Value.oneCell']) (by decide) (by unfold maxLen; omega) (by omega) (by simp; omega) _ rfl ?_)
            intro g7 c7 V hoV hgV _ _
            have HOV : Hid (V.ownsRow W.heap.size 39 2 (.slice (some ⟨g7, 0, none⟩) (L2 + 1) c7) (L2 + 1) (itsV (trT tn es i ++ trI tn ((es.getD i []).take (j + 1)) i))) := by
              rw [HTK.out, if_pos hts, ← List.append_assoc, itsV_append]; exact hoV
            have HLV : Hid (L2 + 1 = (trT tn es i ++ trI tn ((es.getD i []).take (j + 1)) i).length) := by
              show _ = _
              rw [HTK.out, if_pos hts, ← List.append_assoc, List.length_append, ← HL2.out]; rfl
            have HGV : Hid (W.grownBy V none) := grown_owned (grown_trans HG5.out (World.grownBy_alloc _ _ none)) (HO5.out.alloc _) (Nat.le_refl _) hgV
            clear hoV hgV r0
            go_wp2_with fail
            go_roundg (E - (j + 1))
            case measure => have := HGJ.out; omega
            case rel => exact ⟨j + 1, L2 + 1, some ⟨g7, 0, none⟩, c7, by omega, rfl, by go_num, rfl, HLV.out, HOV.out, HGV.out⟩
          · have HIT := show Hid _ from isTerm_any ta na la pa (some ⟨sb, 0, none⟩) tc nc lc pc sc n N lb st (wr.alloc (.cells #[.int .i64 (s : Int), .int .i64 (t : Int)] 78)) tn nn ln (s : Int) true (decide_eq_true (by omega)).symm
            clear hx hje
            go_wp2_with fail
            refine Calls.mono HIT.out ?_
            rintro e w5 ⟨rfl, hg5⟩
            have HG5 : Hid (W.grownBy w5 none) := grown_trans HA.out hg5
            have HO5 : Hid (w5.ownsRow W.heap.size 39 2 (.slice a2 L2 c2) L2 (itsV (trT tn es i ++ trI tn ((es.getD i []).take (j + 1)) i))) := by
              rw [HTK.out, if_neg hts, List.append_nil]; exact keep0 HO2.out (grown_trans (World.grownBy_alloc _ _ none) hg5)
            have HL5 : Hid (L2 = (trT tn es i ++ trI tn ((es.getD i []).take (j + 1)) i).length) := by
              show _ = _
              rw [HTK.out, if_neg hts, List.append_nil]; exact HL2.out
            clear hg5 HIT k0 k1 k2 k3 k4 k5 k6 c0 c1
            go_wp2_with fail
            go_roundg (E - (j + 1))
            case measure => have := HGJ.out; omega
            case rel => exact ⟨j + 1, L2, a2, c2, by omega, rfl, by go_num, rfl, HL5.out, HO5.out, HG5.out⟩
        · have hjE : E = j := by omega
          subst hjE
          have hjd : decide (E < E) = false := decide_eq_false (by omega)
          have e9 : trT tn es i ++ trI tn ((es.getD i []).take E) i = trT tn es (i + 1) := by
            rw [HE.out, List.take_length]; rfl
          rw [e9] at HO2 HL2
          clear e9
          go_wp2_with fail
          go_roundg (N - (i + 1))
          case measure => have := HGI.out; omega
          case rel => exact ⟨i + 1, L2, a2, c2, by omega, rfl, by go_num, rfl, HL2.out, HO2.out, HG2.out⟩
    · have hiN : N = i := by omega
      subst hiN
      have hid : decide (N < N) = false := decide_eq_false (by omega)
      go_wp2_with fail
      go_ret
      exact ⟨a, c, by rw [← HLL.out]; rfl, by rw [← HLL.out]; exact owns_base HO.out HGW.out.size, grown_trans HGW.out HG.out⟩
end

end Go.Proofs.YtckgjolaoifgkaaGreat.J

/-
  trans: Walk and List, exported.
-/
namespace Go.Proofs.YtckgjolaoifgkaaGreat.J
open Go.RowKit Go.Maps Go.Shelf

attribute [local go_sem] Oper.semAt_some

/-- Is it no symbol? -/
def noB (S : Nat) (s : Int) : Bool := !(decide (0 ≤ s ∧ s < (S : Int)))
section
variable (ta na la pa sa : Option Addr) (tc nc lc pc sc : Nat) (n N lb : Nat) (st : Int) (w : World) (tn nn ln : Nat)

set_option maxRecDepth 100000 in
theorem tindex_any (htn : tn ≤ 65) (hnn : nn ≤ 65) (ra : Option Addr) (rc : Nat) (l : List Int) (hl : IntsAt w ra l) (hn : l.length ≤ 1099511627776000) :
    Calls Tryz.prog 34 #[.slice ra l.length rc, .func (.func 23) #[.agg #[.slice ta tn tc, .slice na nn nc, .slice la ln lc, .int .i64 st, .slice pa n pc, .slice sa N sc, .map (some lb)]] #[]] w fun e w' => (∃ q : Int, e = .returned (.int .i64 q) ∧ -1 ≤ q ∧ (0 ≤ q ↔ ∃ x ∈ l, noB (tn + nn) x = true)) ∧ w.grownBy w' none := by
  have HL : Hid (IntsAt w ra l) := hl
  obtain ⟨m, hln⟩ : ∃ m, m = l.length := ⟨_, rfl⟩
  have HLN : Hid (l.length = m) := hln.symm
  rw [← hln] at hn ⊢
  have HRO : Hid (∀ x X, Calls Tryz.prog 23 #[.agg #[.slice ta tn tc, .slice na nn nc, .slice la ln lc, .int .i64 st, .slice pa n pc, .slice sa N sc, .map (some lb)], .int .i64 x] X fun e w' => e = .returned (.bool (noB (tn + nn) x)) ∧ X.grownBy w' none) := fun x X => isNoSym_any ta na la pa sa tc nc lc pc sc n N lb st X tn nn ln htn hnn x _ rfl
  clear hl hln htn hnn
  go_enter Tryz.func34, Tryz.ntmps34
  go_wp2_with fail
  go_loopg [8] m (fun gk j wr => ∃ k : Nat, k ≤ m ∧ gk = m - k ∧ j = .int .i64 k ∧ w.grownBy wr none ∧ ¬ ∃ x ∈ l.take k, noB (tn + nn) x = true)
  case atStart => exact ⟨0, Nat.zero_le _, rfl, rfl, grown_refl _ _, by simp⟩
  case round =>
    obtain ⟨k, hk, hgk, rfl, hg, hno⟩ := hrel
    have HGK : Hid (gk = m - k) := hgk
    have HG : Hid (w.grownBy wr none) := hg
    have HA : Hid (¬ ∃ x ∈ l.take k, noB (tn + nn) x = true) := hno
    clear hno hg hgk
    by_cases hlt : k < m
    · have hkl : k < l.length := by rw [HLN.out]; exact hlt
      obtain ⟨bl, off, hra, hc0⟩ : ∃ b off, ra = some ⟨b, off, none⟩ ∧ wr.cell? ⟨b, off + k, none⟩ = some (.int .i64 (l.getD k 0)) := by
        rcases HL.out.kept HG.out with h | ⟨b, off, e, h⟩
        · rw [h] at hkl; cases hkl
        · exact ⟨b, off, e, h k hkl⟩
      subst hra
      obtain ⟨x, hx⟩ : ∃ x, x = l.getD k 0 := ⟨_, rfl⟩
      have HMM : Hid (x ∈ l ∧ l.take (k + 1) = l.take k ++ [x]) := by
        have e : l.getD k 0 = l[k] := by rw [List.getD_eq_getElem?_getD, List.getElem?_eq_getElem hkl]; rfl
        refine ⟨by rw [hx, e]; exact List.getElem_mem _, by rw [List.take_succ_eq_append_getElem hkl, hx, e]⟩
      rw [← hx] at hc0
      have hk0 : (0 : Int) ≤ (k : Int) := by omega
      have hk1 : (k : Int) < (m : Int) := by omega
      have hkd : decide (k < m) = true := decide_eq_true hlt
      have HH := show Hid _ from HRO.out x wr
      obtain ⟨b, hb⟩ : ∃ b, b = noB (tn + nn) x := ⟨_, rfl⟩
      have HBE : Hid (b = noB (tn + nn) x) := hb
      rw [← hb] at HH
      clear hx hb
      go_wp2_with fail
      refine Calls.mono HH.out ?_
      rintro e w2 ⟨rfl, hg2⟩
      have HG2 : Hid (w.grownBy w2 none) := grown_trans HG.out hg2
      clear HH hg2 hc0
      cases b with
      | true =>
        go_wp2_with fail
        go_ret
        exact ⟨⟨k, rfl, by omega, ⟨fun _ => ⟨x, HMM.out.1, HBE.out.symm⟩, fun _ => by omega⟩⟩, HG2.out⟩
      | false =>
        go_wp2_with fail
        go_roundg (m - (k + 1))
        case measure => have := HGK.out; omega
        case rel => exact ⟨k + 1, by omega, rfl, by go_num, HG2.out, by
          rintro ⟨y, hy, h3⟩
          rw [HMM.out.2] at hy
          rcases List.mem_append.1 hy with hy | hy
          · exact HA.out ⟨y, hy, h3⟩
          · simp only [List.mem_singleton] at hy
            rw [hy, ← HBE.out] at h3
            cases h3⟩
    · have hkn : m = k := by omega
      subst hkn
      have hkd : decide (m < m) = false := decide_eq_false (by omega)
      have ht : l.take m = l := List.take_of_length_le (Nat.le_of_eq HLN.out)
      rw [ht] at HA
      go_wp2_with fail
      go_ret
      exact ⟨⟨-1, rfl, by omega, ⟨fun h => absurd h (by omega), fun h => absurd h HA.out⟩⟩, HG.out⟩

theorem tcont_any (htn : tn ≤ 65) (hnn : nn ≤ 65) (ra : Option Addr) (rc : Nat) (l : List Int) (hl : IntsAt w ra l) (hn : l.length ≤ 1099511627776000) (r : Bool) (hr : r = true ↔ ∃ x ∈ l, noB (tn + nn) x = true) :
    Calls Tryz.prog 22 #[.slice ra l.length rc, .func (.func 23) #[.agg #[.slice ta tn tc, .slice na nn nc, .slice la ln lc, .int .i64 st, .slice pa n pc, .slice sa N sc, .map (some lb)]] #[]] w fun e w' => e = .returned (.bool r) ∧ w.grownBy w' none := by
  have hI := tindex_any ta na la pa sa tc nc lc pc sc n N lb st w tn nn ln htn hnn ra rc l hl hn
  have HR : Hid (r = true ↔ ∃ x ∈ l, noB (tn + nn) x = true) := hr
  clear hl hr htn hnn
  go_enter Tryz.func22, Tryz.ntmps22
  go_wp2_with fail
  refine hI.mono ?_
  rintro e w2 ⟨⟨q, rfl, h1, h2⟩, hg⟩
  have HQ : Hid (decide (0 ≤ q) = r) := by
    show decide (0 ≤ q) = r
    rw [Bool.eq_iff_iff, decide_eq_true_eq, h2, HR.out]
  clear h2 hI
  go_wp2_with fail
  go_ret
  exact ⟨by rw [← HQ.out]; rfl, hg⟩
end

section
variable (ta na la pa : Option Addr) (tc nc lc pc : Nat) (n : Nat) (st : Int) (w : World) (tn nn ln : Nat)
/-- automatonOf, where it answers an error. -/
def OfBad (ec : Int) : Prop := ∀ X, w.grownBy X none → Calls Tryz.prog 17 #[.agg #[.slice ta tn tc, .slice na nn nc, .slice la ln lc, .int .i64 st, .slice pa n pc]] X fun e y => e = .returned (.tuple #[.agg #[.slice none 0 0, .slice none 0 0, .slice none 0 0, .int .i64 0, .slice none 0 0, .slice none 0 0, .map none], .int .i64 ec]) ∧ X.grownBy y none
/-- .. and where it tells an automaton. -/
def OfOk (ks : List (List It)) (es : List (List (Nat × Nat))) : Prop := ∀ X, w.grownBy X none → Calls Tryz.prog 17 #[.agg #[.slice ta tn tc, .slice na nn nc, .slice la ln lc, .int .i64 st, .slice pa n pc]] X fun e y => OfTold ta na la pa tc nc lc pc n st tn nn ln ks es X e y

set_option maxRecDepth 100000 in
theorem listX_bad (ec : Int) (hec : ec = 1 ∨ ec = 11) (hO : OfBad ta na la pa tc nc lc pc n st w tn nn ln ec) : Calls Tryz.prog 8 #[.agg #[.slice ta tn tc, .slice na nn nc, .slice la ln lc, .int .i64 st, .slice pa n pc]] w fun e y => e = .returned (.tuple #[.slice none 0 0, .int .i64 ec]) ∧ w.grownBy y none := by
  have HO : Hid (OfBad ta na la pa tc nc lc pc n st w tn nn ln ec) := hO
  have HX0 : Hid (w.grownBy (w.alloc (.cells #[.slice ta tn tc, .slice na nn nc, .slice la ln lc, .int .i64 st, .slice pa n pc] 27)) none) := World.grownBy_alloc _ _ none
  have hne : (ec != 0) = true := bne_iff_ne.2 (by omega)
  clear hO hec
  go_enter Tryz.func8, Tryz.ntmps8
  go_wp2_with fail
  refine Calls.mono (HO.out _ HX0.out) ?_
  rintro e w1 ⟨rfl, hg1⟩
  have HG1 : Hid (w.grownBy w1 none) := grown_trans HX0.out hg1
  clear hg1
  go_wp2_with fail
  go_ret2
  exact ⟨rfl, grown_trans HG1.out (World.grownBy_alloc _ _ none)⟩

/-- What List tells. -/
def TrErr (l : List It) (w : World) (e : Ending) (y : World) : Prop := ∃ (a : Option Addr) (c : Nat), e = .returned (.tuple #[.slice a l.length c, .int .i64 0]) ∧ y.ownsRow w.heap.size 39 2 (.slice a l.length c) l.length (itsV l) ∧ w.grownBy y none

set_option maxRecDepth 100000 in
theorem listX_ok (ks : List (List It)) (es : List (List (Nat × Nat))) (hN256 : ks.length ≤ 256) (hes : ∀ q, q < ks.length → (es.getD q []).length ≤ 130) (hO : OfOk ta na la pa tc nc lc pc n st w tn nn ln ks es) : Calls Tryz.prog 8 #[.agg #[.slice ta tn tc, .slice na nn nc, .slice la ln lc, .int .i64 st, .slice pa n pc]] w fun e y => TrErr (trT tn es ks.length) w e y := by
  have HO : Hid (OfOk ta na la pa tc nc lc pc n st w tn nn ln ks es) := hO
  have HX0 : Hid (w.grownBy (w.alloc (.cells #[.slice ta tn tc, .slice na nn nc, .slice la ln lc, .int .i64 st, .slice pa n pc] 27)) none) := World.grownBy_alloc _ _ none
  have HES := show Hid _ from hes
  have HNB : Hid (ks.length ≤ 256) := hN256
  clear hO hes hN256
  go_enter Tryz.func8, Tryz.ntmps8
  go_wp2_with fail
  refine Calls.mono (HO.out _ HX0.out) ?_
  rintro e w1 ⟨sa, sc, kv, ev, lb, m, rfl, hAP, hLd, hg1⟩
  have HG1 : Hid (w.grownBy (w1.alloc (.cells #[.slice ta tn tc, .slice na nn nc, .slice la ln lc, .int .i64 st, .slice pa n pc, .slice sa ks.length sc, .map (some lb)] 56)) none) := grown_trans HX0.out (grown_trans hg1 (World.grownBy_alloc _ _ none))
  have HT := show Hid _ from trans_any ta na la pa sa tc nc lc pc sc n ks.length lb st (w1.alloc (.cells #[.slice ta tn tc, .slice na nn nc, .slice la ln lc, .int .i64 st, .slice pa n pc, .slice sa ks.length sc, .map (some lb)] 56)) tn nn ln _ ks es kv ev rfl HNB.out (hAP.kept (World.grownBy_alloc _ _ none)) HES.out
  obtain ⟨N, hN⟩ : ∃ n, n = ks.length := ⟨_, rfl⟩
  have HN : Hid (N = ks.length) := hN
  rw [← hN] at HT HG1 ⊢
  clear hg1 hAP hLd hN
  go_wp2_with fail
  refine Calls.mono HT.out ?_
  rintro e w2 ⟨a2, c2, rfl, ho2, hg2⟩
  have HG2 : Hid (w.grownBy w2 none) := grown_trans HG1.out hg2
  have HO2 : Hid (w2.ownsRow w.heap.size 39 2 (.slice a2 (trT tn es N).length c2) (trT tn es N).length (itsV (trT tn es N))) := owns_base ho2 HG1.out.size
  obtain ⟨K, hK⟩ : ∃ k, k = (trT tn es N).length := ⟨_, rfl⟩
  have HK : Hid (K = (trT tn es N).length) := hK
  rw [← hK]
  clear ho2 hg2 hK HT
  go_wp2_with fail
  go_ret2
  exact ⟨a2, c2, by rw [← HN.out, ← HK.out]; rfl, by rw [← HN.out]; exact HO2.out, HG2.out⟩

set_option maxRecDepth 100000 in
set_option maxHeartbeats 2000000 in
theorem walkX_ok (ks : List (List It)) (es : List (List (Nat × Nat))) (htn : tn ≤ 65) (hnn : nn ≤ 65) (hN256 : ks.length ≤ 256) (hOK : LeadOK es) (hO : OfOk ta na la pa tc nc lc pc n st w tn nn ln ks es) (q : Nat) (hq : q < ks.length) (ra : Option Addr) (rc : Nat) (row : List Int) (hr : IntsAt w ra row) (hrb : row.length ≤ 1099511627776000) (hgood : ∀ x ∈ row, noB (tn + nn) x = false) : Calls Tryz.prog 13 #[.agg #[.slice ta tn tc, .slice na nn nc, .slice la ln lc, .int .i64 st, .slice pa n pc], .int .i64 (q : Int), .slice ra row.length rc] w fun e y => e = .returned (.tuple #[.int .i64 (wayV (wayF es (some (q : Int)) row)), .int .i64 0]) ∧ w.grownBy y none := by
  have HO : Hid (OfOk ta na la pa tc nc lc pc n st w tn nn ln ks es) := hO
  have HX0 : Hid (w.grownBy (w.alloc (.cells #[.slice ta tn tc, .slice na nn nc, .slice la ln lc, .int .i64 st, .slice pa n pc] 27)) none) := World.grownBy_alloc _ _ none
  have HC : Hid (∀ Y sa sc N lb, w.grownBy Y none → Calls Tryz.prog 22 #[.slice ra row.length rc, .func (.func 23) #[.agg #[.slice ta tn tc, .slice na nn nc, .slice la ln lc, .int .i64 st, .slice pa n pc, .slice sa N sc, .map (some lb)]] #[]] Y fun e w' => e = .returned (.bool false) ∧ Y.grownBy w' none) := fun Y sa sc N lb hY => tcont_any ta na la pa sa tc nc lc pc sc n N lb st Y tn nn ln htn hnn ra rc row (hr.kept hY) hrb false ⟨(fun h => by cases h), fun ⟨x, h1, h2⟩ => by rw [hgood x h1] at h2; cases h2⟩
  have HW : Hid (∀ Y sa sc N lb m, w.grownBy Y none → LdAt Y lb m (leadA es) → Calls Tryz.prog 24 #[.agg #[.slice ta tn tc, .slice na nn nc, .slice la ln lc, .int .i64 st, .slice pa n pc, .slice sa N sc, .map (some lb)], .int .i64 (q : Int), .slice ra row.length rc] Y fun e y => e = .returned (.int .i64 (wayV (wayF es (some (q : Int)) row))) ∧ Y.grownBy y none) := fun Y sa sc N lb m hY hLd => walk_any ta na la pa sa tc nc lc pc sc n N lb st Y tn nn ln m es hLd hOK q (by omega) ra rc row (hr.kept hY) hrb (fun x hx => by
    have h := hgood x hx
    unfold noB at h
    have h2 : 0 ≤ x ∧ x < ((tn + nn : Nat) : Int) := by simpa using h
    exact WalkArith.wf_i64 ⟨by omega, by omega⟩)
  obtain ⟨M, hM⟩ : ∃ m, m = row.length := ⟨_, rfl⟩
  rw [← hM] at HC HW ⊢
  obtain ⟨v, hv⟩ : ∃ v, v = wayV (wayF es (some (q : Int)) row) := ⟨_, rfl⟩
  rw [← hv] at HW ⊢
  clear hO hM hr hrb hgood htn hnn hv hOK
  go_enter Tryz.func13, Tryz.ntmps13
  go_wp2_with fail
  refine Calls.mono (HO.out _ HX0.out) ?_
  rintro e w1 ⟨sa, sc, kv, ev, lb, m, rfl, hAP, hLd, hg1⟩
  have HG1 : Hid (w.grownBy (w1.alloc (.cells #[.slice ta tn tc, .slice na nn nc, .slice la ln lc, .int .i64 st, .slice pa n pc, .slice sa ks.length sc, .map (some lb)] 56)) none) := grown_trans HX0.out (grown_trans hg1 (World.grownBy_alloc _ _ none))
  have HLD : Hid (LdAt (w1.alloc (.cells #[.slice ta tn tc, .slice na nn nc, .slice la ln lc, .int .i64 st, .slice pa n pc, .slice sa ks.length sc, .map (some lb)] 56)) lb m (leadA es)) := hLd.kept (World.grownBy_alloc _ _ none) (by simp)
  have HBX := show Hid _ from heap_alloc_last w1 (.cells #[.slice ta tn tc, .slice na nn nc, .slice la ln lc, .int .i64 st, .slice pa n pc, .slice sa ks.length sc, .map (some lb)] 56)
  obtain ⟨N, hN⟩ : ∃ n, n = ks.length := ⟨_, rfl⟩
  rw [← hN] at HG1 HLD HBX hq ⊢
  have hd : decide ((q : Int) < 0) = false := decide_eq_false (by omega)
  have hd1 : decide ((N : Int) ≤ (q : Int)) = false := decide_eq_false (by omega)
  have hd2 : decide (N ≤ q) = false := decide_eq_false (by omega)
  have HCC := show Hid _ from HC.out _ sa sc N lb HG1.out
  clear hg1 hAP hLd hN hN256 HC
  go_wp2_with fail
  refine Calls.mono HCC.out ?_
  rintro e w2 ⟨rfl, hg2⟩
  have HG2 : Hid (w.grownBy w2 none) := grown_trans HG1.out hg2
  have HLD2 : Hid (LdAt w2 lb m (leadA es)) := HLD.out.kept hg2 (by simp)
  obtain ⟨k0, k1, k2, k3, k4, k5, k6⟩ := cells7 (box_kept HBX.out hg2)
  have HWC := show Hid _ from HW.out w2 sa sc N lb m HG2.out HLD2.out
  clear hg2 HCC HW
  go_wp2_with fail
  refine Calls.mono HWC.out ?_
  rintro e w3 ⟨rfl, hg3⟩
  have HG3 : Hid (w.grownBy w3 none) := grown_trans HG2.out hg3
  clear hg3 HWC
  go_wp2_with fail
  go_ret2
  exact ⟨rfl, HG3.out⟩
end

end Go.Proofs.YtckgjolaoifgkaaGreat.J
