import Derived.Test.YthoamlahbnphkaaGreatQhkniodialdop
import Derived.Deep.DeepAppendWide
import Derived.Maps.Keyed
import Derived.Maps.Own
import Derived.Maps.OwnSet
import Derived.Maps.Views
import Derived.DeepKeys4
import Derived.Deep.RegionHeld3
import Derived.Deep.AppendLies

/-
  lr0: rows of values; marks counted; append, wide.
-/
namespace Go.Proofs.YthoamlahbnphkaaGreat.J
open Go.RowKit Go.Maps Go.Shelf

/-- A row of values, whole in block k. -/
def ValAt (w : World) (k len : Nat) (t : TypeId) (c : Nat → Value) : Prop := w.heap[k]? = some (.cells ((List.range len).map c).toArray t (0, 0))
section
variable {w w' : World} {k len : Nat} {t : TypeId} {c : Nat → Value}
theorem ValAt.cell (h : ValAt w k len t c) (i : Nat) (hi : i < len) : w.cell? ⟨k, i, none⟩ = some (c i) := by
  rw [cell_of_row _ _ _ _ _ _ h]; simp [hi]
theorem ValAt.free (h : ValAt w k len t c) (i : Nat) : w.frozen? ⟨k, i, none⟩ = false := frozen_of_row _ _ _ _ _ h
theorem ValAt.lt (h : ValAt w k len t c) : k < w.heap.size := (Array.getElem?_eq_some_iff.1 h).1
theorem ValAt.kept (h : ValAt w k len t c) (hg : w.grownBy w' none) : ValAt w' k len t c := (hg.block k h.lt (by simp)).trans h
theorem ValAt.at {b : Nat} (h : ValAt w k len t c) (hg : w.grownBy w' (some b)) (hne : k ≠ b) : ValAt w' k len t c := (hg.block k h.lt (by simpa using hne)).trans h
/-- The cells with one turned. -/
def put (c : Nat → Value) (x : Nat) (v : Value) : Nat → Value := fun i => if i = x then v else c i
theorem ValAt.set (h : ValAt w k len t c) (x : Nat) (v : Value) : ValAt (w.setCell ⟨k, x, none⟩ v) k len t (put c x v) := by
  unfold ValAt
  rw [heap_setCell_same _ _ _ _ _ _ h]
  congr 2
  apply Array.ext'
  apply List.ext_getElem?
  intro i
  simp only [Array.toList_setIfInBounds, List.getElem?_set, List.getElem?_map]
  by_cases hi : i < len
  · by_cases e : x = i
    · subst e; simp [hi, put]
    · have e2 : ¬ i = x := fun h => e h.symm
      simp [e, e2, hi, put]
  · by_cases e : x = i
    · subst e; simp [hi]
    · simp [e, hi]
end
theorem made_rowK {w1 : World} {B g n : Nat} {t : TypeId} {z : Value} (hz : z.cells = #[z]) (h : w1.ownsRow B t 1 (.slice (some ⟨g, 0, none⟩) n n) n (madeCells z.cells (n * 1)).toList) : ValAt w1 g n t (fun _ => z) := by
  rcases h.2 with ⟨h', _⟩ | ⟨g', cap, cur, hv, _, hh, _, _, hs, ht⟩
  · cases h'
  · simp only [Value.slice.injEq, Option.some.injEq, Addr.mk.injEq, and_true, true_and] at hv
    obtain ⟨rfl, rfl⟩ := hv
    have e : cur = ((List.range n).map fun _ => z).toArray := by
      apply Array.ext'
      rw [show cur.toList = cur.toList.take (n * 1) by rw [List.take_of_length_le (by simp; omega)], ht]
      rw [hz, toList_madeCells_one, Nat.mul_one]
      rw [List.map_const', List.length_range]
    unfold ValAt
    rw [hh, e]
theorem ValAt.ext {w : World} {k len : Nat} {t : TypeId} {c d : Nat → Value} (h : ValAt w k len t c) (e : ∀ i, i < len → c i = d i) : ValAt w k len t d := by
  unfold ValAt at *
  rw [h, List.map_congr_left fun i hi => e i (by simpa using hi)]

set_option maxRecDepth 100000 in
set_option maxHeartbeats 1000000 in

/-- One mark more. -/
def markT (f : Nat → Bool) (x : Nat) : Nat → Bool := fun i => if i = x then true else f i
/-- How many of the first n are not marked. -/
def unm : Nat → (Nat → Bool) → Nat
  | 0, _ => 0
  | n + 1, f => unm n f + (if f n then 0 else 1)
theorem unm_out (f : Nat → Bool) (x : Nat) : ∀ n, n ≤ x → unm n (markT f x) = unm n f
  | 0, _ => rfl
  | n + 1, h => by
    have e : markT f x n = f n := by unfold markT; rw [if_neg (by omega)]
    simp only [unm, unm_out f x n (by omega), e]
theorem unm_mark (f : Nat → Bool) (x : Nat) (hf : f x = false) : ∀ n, x < n → unm n (markT f x) + 1 = unm n f
  | 0, h => by omega
  | n + 1, h => by
    by_cases e : x = n
    · subst e
      have e1 : markT f x x = true := by simp [markT]
      simp [unm, unm_out f x x (Nat.le_refl _), e1, hf]
    · have e1 : markT f x n = f n := by unfold markT; rw [if_neg (fun h => e h.symm)]
      have ih := unm_mark f x hf n (by omega)
      simp only [unm, e1]
      omega


theorem unm_le : ∀ (n : Nat) (f : Nat → Bool), unm n f ≤ n
  | 0, _ => Nat.le_refl _
  | n + 1, f => by
    have := unm_le n f
    unfold unm
    split <;> omega

theorem wpList_append_srcW {w : World} {ops : Array Oper} {rest : List Oper} {o : Oper} {a : Act} {Q : Exit → Act → World → Prop} (hgd : o.guard = none) (s x : Operand) (t : TypeId)
    (ho : o.op = .call { callee := .builtin .append, args := #[s, x], argTypes := #[t, t] })
    (base : Nat) (e : TypeId) (i : TypeInfo) (z : Value) (size bytes : Nat) (ht : Tryz.prog.underlying t = some (.slice e)) (hi : Tryz.prog.info? e = some i) (hz : i.zero = some z)
    (hsize : i.size = size) (hby : i.bytes = bytes) (hzs : z.cells.size = size) (hsz : 0 < size)
    (v : Value) (n : Nat) (xs : List Value) (hs : a.eval s = v) (hown : w.ownsRow base e size v n xs)
    (xo : Option Addr) (m c : Nat) (news : List Value) (hx : a.eval x = .slice xo m c) (hnil : xo = none → m = 0 ∧ c = 0) (hl : news.length = m * size) (hnews : ∀ ad, xo = some ad → ∀ j u, news[j]? = some u → w.cell? (ad.add j) = some u) (h1 : ∀ u ∈ news, u.oneCell' = true)
    (h63 : n + m ≤ maxLen) (hbytes : ((n + m) + (n + m) / 4 + 192) * bytes ≤ 281474976710656) (hbase : base ≤ w.heap.size)
    (h : ∀ v' w', w'.ownsRow base e size v' (n + m) (xs ++ news) → w.grownBy w' v.ownBlock → wpList Tryz.prog ops Q rest (a.put o.dst v') w') : wpList Tryz.prog ops Q (o :: rest) a w := by
  refine wpList_plain hgd fun K hK => ?_
  cases xo with
  | some ad => exact wp_append_own_wide w s x t ho base e i z size bytes ht hi hz hsize hby hzs hsz v n xs hs hown ad m c news hx hl (hnews ad rfl) h1 h63 hbytes hbase fun v' w' h2 h3 _ => hK _ _ (h v' w' h2 h3)
  | none =>
    obtain ⟨rfl, rfl⟩ := hnil rfl
    have hn0 : news = [] := List.eq_nil_of_length_eq_zero (by simpa using hl)
    subst hn0
    have hrun := run_append_owned_none (P := Tryz.prog) (w := w) base t o.type e i size ht hi v n xs hown
    have hk := hK _ _ (h v w (by simpa using hown) ⟨rfl, rfl, rfl, Nat.le_refl _, fun _ _ _ => rfl⟩)
    unfold Oper.wp
    simp [execOp, ho, resolve, invoke, builtin, hs, hx, hrun, Result.andThen]
    exact hk


theorem its_cells {w : World} {a : Option Addr} {l : List It} (h : ItsAt w a l) : ∀ x, a = some x → ∀ j u, (itsV l)[j]? = some u → w.cell? (x.add j) = some u := by
  intro x hx j u hu
  rcases h with h | ⟨b, off, e, hc⟩
  · rw [h] at hu; simp [itsV] at hu
  · rw [hx] at e
    simp only [Option.some.injEq] at e
    subst e
    rw [Addr.add_mid]
    have hj : j < l.length * 2 := by have := (List.getElem?_eq_some_iff.1 hu).1; rwa [itsV_length] at this
    have h1 := hc (j / 2) (by omega)
    have h2 := itsV_at l (j / 2) (by omega)
    have hm : j % 2 = 0 ∨ j % 2 = 1 := by omega
    rcases hm with hm | hm
    · have e : j = j / 2 * 2 := by omega
      rw [← e] at h1 h2
      rw [h1.1, ← hu, h2.1]
    · have e : j = j / 2 * 2 + 1 := by omega
      rw [Nat.add_assoc, ← e] at h1
      rw [← e] at h2
      rw [h1.2, ← hu, h2.2]

set_option maxRecDepth 100000 in
theorem compact_any (w : World) (B : Nat) (a : Option Addr) (c : Nat) (l : List It) (hown : w.ownsRow B 69 2 (.slice a l.length c) l.length (itsV l)) (hb : l.length ≤ 1099511627776000) :
    Calls Tryz.prog 82 #[.slice a l.length c] w fun e y => CompTold B a c l w e y := by
  by_cases h2 : 2 ≤ l.length
  · rcases hown.2 with ⟨hv, h0⟩ | ⟨g, cap, cur, hv, hB, hh, hn, hm, hs, ht⟩
    · omega
    · simp only [Value.slice.injEq] at hv
      obtain ⟨rfl, _, rfl⟩ := hv
      refine compact_big w B g c l.length l rfl hn hm hB h2 hb ⟨⟨rfl, rfl, rfl, Nat.le_refl _, fun _ _ _ => rfl⟩, cur, hh, hs, fun i hi => absurd hi (Nat.not_lt_zero _), fun i _ hi => ?_⟩
      obtain ⟨h3, h4⟩ := itsV_at l i hi
      rw [← ht, List.getElem?_take, if_pos (by omega)] at h3 h4
      exact ⟨by simpa using h3, by simpa using h4⟩
  · have HD : Hid (ddT l l.length = l) := by
      show _ = _
      match l, h2 with
      | [], _ => rfl
      | [x], _ => rfl
      | x :: y :: r, h => exact absurd (by simp) h
    obtain ⟨m, hm⟩ : ∃ m, m = l.length := ⟨_, rfl⟩
    have HM : Hid (m = l.length) := hm
    have HO : Hid (w.ownsRow B 69 2 (.slice a l.length c) l.length (itsV l)) := hown
    rw [← hm] at h2
    rw [← hm]
    have hd : decide (m < 2) = true := decide_eq_true (by omega)
    have hd2 : decide ((m : Int) < 2) = true := decide_eq_true (by omega)
    clear hm hown hb
    go_enter Tryz.func82, Tryz.ntmps82
    go_wp2_with fail
    go_ret
    exact ⟨m, by rw [HD.out]; exact HM.out, rfl, by rw [HD.out, HM.out]; exact HO.out, ⟨rfl, rfl, rfl, Nat.le_refl _, fun _ _ _ => rfl⟩⟩

end Go.Proofs.YthoamlahbnphkaaGreat.J

/-
  lr0: the document's SameItems; items laid in order, pure.
-/
namespace Go.Proofs.YthoamlahbnphkaaGreat.J
open Go.RowKit Go.Maps Go.Shelf

attribute [local go_sem] Oper.semAt_some

theorem ItsAt.at {X : World} {a : Option Addr} {l : List It} (h : ItsAt X a l) {i : Nat} (hi : i < l.length) : ∃ b off, a = some ⟨b, off, none⟩ ∧ X.cell? ⟨b, off + i * 2, none⟩ = some (.int .i64 (l.getD i (0, 0)).1) ∧ X.cell? ⟨b, off + i * 2 + 1, none⟩ = some (.int .i64 (l.getD i (0, 0)).2) := by
  rcases h with h | ⟨b, off, e, h⟩
  · rw [h] at hi; cases hi
  · exact ⟨b, off, e, h i hi⟩

/-- Where x belongs in a list in order. -/
structure Spot (x : It) (l : List It) (k : Nat) : Prop where
  le : k ≤ l.length
  lt : ∀ j, j < k → ltI (l.getD j (0, 0)) x
  ge : k < l.length → ¬ ltI (l.getD k (0, 0)) x
end Go.Proofs.YthoamlahbnphkaaGreat.J

/-
  lr0: a map whose keys are items.
-/
namespace Go.Proofs.YthoamlahbnphkaaGreat.J
open Go.RowKit Go.Maps Go.Shelf

/-- An item as a value. -/
def aggI (x : It) : Value := .agg #[.int .i64 x.1, .int .i64 x.2]
theorem laidO : laidOutB Tryz.prog = true := by kernel_rfl
theorem rowItem : (69 : TypeId) < Tryz.prog.types.size := of_decide_eq_true (by kernel_rfl)
theorem wideItem : (match Tryz.prog.underlying 69 with | some (.array _ _) | some (.struct _) => true | _ => false) = true := by rw [Tryz.underlying69]
set_option maxRecDepth 100000 in
theorem lawItem : Keyed Tryz.prog 69 := Keyed.of_law (deep_law_laid laidO (m := 2) (by omega) rowItem (by kernel_rfl) wideItem)

theorem keyTItem : Tryz.prog.keyType 69 = true := by kernel_rfl
theorem cellsItem : Tryz.prog.cellsOf 69 = 2 := by kernel_rfl
theorem cellsInt : Tryz.prog.cellsOf 3 = 1 := by kernel_rfl
theorem size_of {n k : Nat} (h : k < n) : ∃ m, n = m + 1 := ⟨n - 1, by omega⟩
theorem sizeT : ∃ m, Tryz.prog.types.size = m + 1 := size_of rowItem
/-- Numbers that an int can be. -/
def I64 (x : It) : Prop := (Lit.int .i64 x.1).wf = true ∧ (Lit.int .i64 x.2).wf = true
theorem keyItem {x : It} (h : I64 x) : ∃ kl, keyOf Tryz.prog 69 (aggI x) = some kl := by
  obtain ⟨m, hm⟩ := sizeT
  refine ⟨.string (keyBytes [.int .i64 x.1, .int .i64 x.2]), ?_⟩
  unfold keyOf aggI
  simp only [Tryz.underlying69]
  rw [if_pos (by simp [keyTItem, Value.formed, Tryz.underlying69, cellsItem]), hm]
  unfold Program.keyLits
  simp only [Tryz.underlying69, Value.cells]
  rw [if_pos (by rw [cellsItem]; exact ⟨rfl, by kernel_rfl⟩)]
  simp [List.mapM_cons, List.mapM_nil, cellsInt, Program.keyLits, Tryz.underlying3, h.1, h.2]

def heldR (v : Value) : Option (DataW Value × List MemPlace) := some (.held v, [])
theorem aggI_inj {x y : It} (h : aggI x = aggI y) : x = y := by
  unfold aggI at h
  simp at h
  exact Prod.ext h.1 h.2

/-- A map in block b: what stands at each item. -/
def MpAt (w : World) (b n : Nat) (F : It → Value) : Prop := ∃ D : DataW Value, w.ownsMap Tryz.prog 69 heldR b n D ∧ ∀ x kl, keyOf Tryz.prog 69 (aggI x) = some kl → D.atKey kl (.held (.slice none 0 0)) = .held (F x)

theorem MpAt.made (w : World) : MpAt (w.alloc (.map #[] 0)) w.heap.size 0 (fun _ => .slice none 0 0) := ⟨_, World.ownsMap_made w _ _ _, fun x kl _ => by simp [DataW.atKey]⟩
theorem MpAt.kept {w w' : World} {row : Option Nat} {b n : Nat} {F : It → Value} (h : MpAt w b n F) (hg : w.grownBy w' row) (hne : some b ≠ row) : MpAt w' b n F := by
  obtain ⟨D, h1, h2⟩ := h
  exact ⟨D, h1.kept hg hne, h2⟩
theorem MpAt.set {w : World} {b n : Nat} {F : It → Value} (h : MpAt w b n F) {a : Addr} (ha : b ≠ a.block) (u : Value) : MpAt (w.setCell a u) b n F := by
  obtain ⟨D, h1, h2⟩ := h
  exact ⟨D, h1.setCell ha u, h2⟩
theorem MpAt.look {w : World} {b n : Nat} {F : It → Value} (h : MpAt w b n F) {x : It} (hx : I64 x) : (Instr.lookup 132 (.map (some b)) (aggI x) false).run Tryz.prog w = .ok (F x) w := by
  obtain ⟨D, h1, h2⟩ := h
  obtain ⟨kl, hk⟩ := keyItem hx
  obtain ⟨v, ps, hrun, hv⟩ := h1.lookup lawItem Tryz.underlying132 (z := .slice none 0 0) (by kernel_rfl) (zd := .held (.slice none 0 0)) (zp := []) rfl hk
  rw [h2 x kl hk] at hv
  simp only [heldR, Option.some.injEq, Prod.mk.injEq, DataW.held.injEq] at hv
  rw [hrun, hv.1]
/-- F with v at x. -/
noncomputable def putI (F : It → Value) (x : It) (v : Value) : It → Value := fun y => if y = x then v else F y
theorem MpAt.update {w : World} {b n : Nat} {F : It → Value} (h : MpAt w b n F) (hn : n < maxLen) {x : It} (hx : I64 x) (v : Value) : ∃ w', (Instr.mapUpdate 132 (.map (some b)) (aggI x) v).run Tryz.prog w = .ok () w' ∧ MpAt w' b (n + 1) (putI F x v) ∧ w.grownBy w' (some b) := by
  obtain ⟨D, h1, h2⟩ := h
  obtain ⟨kl, hk⟩ := keyItem hx
  obtain ⟨w', hrun, h3, h4⟩ := h1.update lawItem Tryz.underlying132 hn hk (val := v) (d := .held v) (ps := []) rfl
  refine ⟨w', hrun, ⟨_, h3, fun y ky hy => ?_⟩, h4⟩
  unfold putI
  by_cases e : y = x
  · subst e
    rw [hk] at hy
    cases hy
    rw [if_pos rfl, atKey_put_same h1.isMap (lawItem.key hk)]
  · rw [if_neg e, atKey_put_other (fun e2 => e (aggI_inj (lawItem.inj hy (by rw [e2]; exact hk)))), h2 y ky hy]

end Go.Proofs.YthoamlahbnphkaaGreat.J

/-
  lr0: closure.
-/
namespace Go.Proofs.YthoamlahbnphkaaGreat.J
open Go.RowKit Go.Maps Go.Shelf

attribute [local go_sem] Oper.semAt_some

theorem infoBool : (Tryz.prog.info? 4).map (fun i => (i.zero, i.size, i.bytes)) = some (some (.bool false), 1, 1) := by kernel_rfl

/-- While a closure is made. -/
structure ClAt (w X : World) (cs : Array Value) (mb S : Nat) (b : Nat → Bool) (a : Option Addr) (q c : Nat) (A : List It) : Prop where
  grown : w.grownBy X none
  box : X.heap[w.heap.size]? = some (.cells cs 27 (0, 0))
  mark : ValAt X mb S 4 (fun i => .bool (b i))
  lo : w.heap.size < mb
  own : X.ownsRow w.heap.size 69 2 (.slice a q c) q (itsV A)
section
variable {w X Y : World} {cs : Array Value} {mb S : Nat} {b : Nat → Bool} {a : Option Addr} {q c : Nat} {A : List It}
theorem ClAt.kept (h : ClAt w X cs mb S b a q c A) (hg : X.grownBy Y none) : ClAt w Y cs mb S b a q c A := ⟨grown_trans h.grown hg, box_kept h.box hg, h.mark.kept hg, h.lo, keep0 h.own hg⟩
theorem ClAt.ph (h : ClAt w X cs mb S b a q c A) : PhAt w X w.heap.size cs := ⟨h.grown, h.box⟩
theorem ClAt.tick {s : Nat} (h : ClAt w X cs mb S b a q c A) : ClAt w (X.setCell ⟨mb, s, none⟩ (.bool true)) cs mb S (markT b s) a q c A := by
  have G : X.grownBy (X.setCell ⟨mb, s, none⟩ (.bool true)) (some mb) := grown_setCell _ _ _
  have hl := h.lo
  refine ⟨grown_new h.grown G (by omega), (G.block _ (Array.getElem?_eq_some_iff.1 h.box).1 (by simp; omega)).trans h.box, (h.mark.set s (.bool true)).ext fun i _ => ?_, h.lo, h.own.kept G (owns_nebox h.own h.mark (by decide))⟩
  unfold put markT
  by_cases e : i = s
  · rw [if_pos e, if_pos e]
  · rw [if_neg e, if_neg e]
theorem ClAt.more {v' : Value} {m : Nat} {A' : List It} (h : ClAt w X cs mb S b a q c A) (hg : X.grownBy Y (Value.slice a q c).ownBlock) (ho : Y.ownsRow w.heap.size 69 2 v' m (itsV A')) : ∃ a' c', v' = .slice a' m c' ∧ ClAt w Y cs mb S b a' m c' A' := by
  obtain ⟨a', c', rfl⟩ := owns_slice ho
  refine ⟨a', c', rfl, grown_row h.grown h.own (Nat.le_refl _) hg, ?_, ?_, h.lo, ho⟩
  · refine (hg.block _ (Array.getElem?_eq_some_iff.1 h.box).1 ?_).trans h.box
    rcases owns_nebox h.own h.box (by decide) with h1 | h1
    · rw [h1]; simp
    · exact fun h2 => h1 h2.symm
  · refine (hg.block _ h.mark.lt ?_).trans h.mark
    rcases owns_nebox h.own h.mark (by decide) with h1 | h1
    · rw [h1]; simp
    · exact fun h2 => h1 h2.symm
end

theorem aheadV_range {n : Nat} {R : Nat → List Int} {S : Nat} (hR : ∀ k, k < n → ∀ x ∈ R k, (0 : Int) ≤ x ∧ x < (S : Int)) {x : It} (hx : itB n R x = true) : aheadV R x = -1 ∨ ((0 : Int) ≤ aheadV R x ∧ aheadV R x < (S : Int)) := by
  unfold itB at hx
  simp only [Bool.and_eq_true, decide_eq_true_eq] at hx
  obtain ⟨⟨⟨h0, h1⟩, h2⟩, h3⟩ := hx
  unfold aheadV
  split
  · exact .inl rfl
  · rename_i h4
    right
    have h5 : x.2.toNat < (R x.1.toNat).length := by omega
    rw [List.getD_eq_getElem?_getD, List.getElem?_eq_getElem h5]
    exact hR x.1.toNat (by omega) _ (List.getElem_mem h5)

/-- What closure tells. -/
def CloTold (tn n : Nat) (L : Nat → Int) (R : Nat → List Int) (I : List It) (w : World) (e : Ending) (y : World) : Prop := ∃ l, IsClo tn n L R I l ∧ l.length ≤ I.length + 13000 ∧ ItsTold l w e y

set_option maxRecDepth 100000 in
set_option maxHeartbeats 4000000 in
theorem closure_any (ta na la pa : Option Addr) (tc nc lc pc : Nat) (n : Nat) (L : Nat → Int) (R : Nat → List Int) (ra : Nat → Option Addr) (rc : Nat → Nat) (V : Nat → Int) (st : Int) (w : World) (tn nn ln : Nat) (hP : ProdsAt w pa n L R ra rc V) (hn : n ≤ 97) (hn0 : 0 < n) (htn : tn ≤ 65) (hnn : nn ≤ 65) (hR : ∀ k, k < n → ∀ x ∈ R k, (0 : Int) ≤ x ∧ x < ((tn + nn : Nat) : Int)) (a : Option Addr) (cap : Nat) (I : List It) (hI : ItsAt w a I) (hnil : a = none → I.length = 0 ∧ cap = 0) (hIb : I.length ≤ 8796093072208) (hit : ∀ x ∈ I, itB n R x = true) :
    Calls Tryz.prog 48 #[.agg #[.slice ta tn tc, .slice na nn nc, .slice la ln lc, .int .i64 st, .slice pa n pc], .slice a I.length cap] w fun e y => CloTold tn n L R I w e y := by
  obtain ⟨S, hS⟩ : ∃ S, S = tn + nn := ⟨_, rfl⟩
  have HSE : Hid (S = tn + nn) := hS
  have hSz : S ≤ 130 := by omega
  have HSY : Hid (∀ X, Calls Tryz.prog 77 #[.agg #[.slice ta tn tc, .slice na nn nc, .slice la ln lc, .int .i64 st, .slice pa n pc]] X fun e y => e = .returned (.int .i64 (S : Int)) ∧ X.grownBy y none) := fun X => by
    refine (symbols_any ta na la pa tc nc lc pc n st X tn nn ln (by omega) (by omega)).mono ?_
    rintro e y ⟨rfl, hg⟩
    exact ⟨by rw [hS, Int.natCast_add], hg⟩
  have HAH : Hid (∀ X x, w.grownBy X none → itB n R x = true → Calls Tryz.prog 78 #[.agg #[.slice ta tn tc, .slice na nn nc, .slice la ln lc, .int .i64 st, .slice pa n pc], .agg #[.int .i64 x.1, .int .i64 x.2]] X fun e y => e = .returned (.int .i64 (aheadV R x)) ∧ X.grownBy y none) := fun X x hX hx => ahead_any ta na la pa tc nc lc pc n L R ra rc V st X tn nn ln (prods_kept hP hX) x hx
  have HBG : Hid (∀ X s, w.grownBy X none → Calls Tryz.prog 79 #[.agg #[.slice ta tn tc, .slice na nn nc, .slice la ln lc, .int .i64 st, .slice pa n pc], .int .i64 s] X fun e y => ItsTold (begL L s n) X e y) := fun X s hX => begun_any ta na la pa tc nc lc pc n L R ra rc V st s X tn nn ln (prods_kept hP hX) hn hn0
  have HAR : Hid (∀ x, itB n R x = true → aheadV R x = -1 ∨ ((0 : Int) ≤ aheadV R x ∧ aheadV R x < (S : Int))) := fun x hx => aheadV_range (by rw [hS]; exact hR) hx
  have HIT : Hid (∀ x ∈ I, itB n R x = true) := hit
  have HIA : Hid (ItsAt w a I) := hI
  obtain ⟨ll, hle⟩ : ∃ m, m = I.length := ⟨_, rfl⟩
  have HLE : Hid (ll = I.length) := hle
  rw [← hle] at hnil hIb
  rw [← hle]
  have HNIL : Hid (a = none → ll = 0 ∧ cap = 0) := hnil
  have HX0 : Hid (PhAt w (w.alloc (.cells #[.slice ta tn tc, .slice na nn nc, .slice la ln lc, .int .i64 st, .slice pa n pc] 27)) w.heap.size #[.slice ta tn tc, .slice na nn nc, .slice la ln lc, .int .i64 st, .slice pa n pc]) := ⟨World.grownBy_alloc _ _ none, heap_alloc_last w _⟩
  have HSRC : Hid (∀ ad, a = some ad → ∀ j u, (itsV I)[j]? = some u → (w.alloc (.cells #[.slice ta tn tc, .slice na nn nc, .slice la ln lc, .int .i64 st, .slice pa n pc] 27)).cell? (ad.add j) = some u) := fun ad e j u hu => its_cells (HIA.out.kept HX0.out.grown) ad e j u hu
  have HBS : Hid (w.heap.size + 1 ≤ (w.alloc (.cells #[.slice ta tn tc, .slice na nn nc, .slice la ln lc, .int .i64 st, .slice pa n pc] 27)).heap.size) := by show _ ≤ _; simp
  obtain ⟨i0, hi0, hz0, hz1, hz2⟩ := info_parts infoItem
  obtain ⟨i1, hi1, hy0, hy1, hy2⟩ := info_parts infoBool
  clear hP hR hI hit hle hS hnil
  go_enter Tryz.func48, Tryz.ntmps48
  go_wp2_with (at_builtin; refine wpList_append_srcW rfl _ (.tmp 9) 62 rfl (w.heap.size + 1) 69 i0 (.agg #[.int .i64 0, .int .i64 0]) 2 16 Tryz.underlying62 hi0 hz0 hz1 hz2 rfl (by decide) (.slice none 0 0) 0 [] rfl (World.ownsRow_nil _ _ _ _) a ll cap (itsV I) rfl HNIL.out (by rw [itsV_length, HLE.out]) HSRC.out (itsV_one I) (by unfold maxLen; omega) (by omega) HBS.out ?_; intro v5 w1 hoB hgB; rw [Nat.zero_add, List.nil_append] at hoB; have HO1 : Hid (w1.ownsRow (w.heap.size + 1) 69 2 v5 ll (itsV I)) := hoB; have HX1 : Hid (PhAt w w1 w.heap.size #[.slice ta tn tc, .slice na nn nc, .slice la ln lc, .int .i64 st, .slice pa n pc]) := HX0.out.kept hgB; obtain ⟨a5, c5, rfl⟩ := owns_slice hoB; clear hoB hgB; obtain ⟨k0, k1, k2, k3, k4⟩ := HX1.out.cells)
  refine Calls.mono (HSY.out _) ?_
  rintro e w2 ⟨rfl, hg2⟩
  have HX2 : Hid (PhAt w w2 w.heap.size #[.slice ta tn tc, .slice na nn nc, .slice la ln lc, .int .i64 st, .slice pa n pc]) := HX1.out.kept hg2
  have HO2 : Hid (w2.ownsRow (w.heap.size + 1) 69 2 (.slice a5 ll c5) ll (itsV I)) := keep0 HO1.out hg2
  clear hg2 k0 k1 k2 k3 k4 HX1 HO1 HX0 HSRC HBS HNIL HIA
  go_wp2_with (at_make; refine wpList_make_full _ rfl _ _ 47 rfl w2.heap.size 4 i1 (.bool false) 1 Tryz.underlying47 hi1 hy0 hy1 .i64 .i64 _ _ S rfl rfl (by simp) (by simp) (by rw [hy2]; omega) (by unfold maxLen; omega) (by simp) ?_)
  intro w3 hown hgrow
  have hval : ValAt w3 w2.heap.size S 4 (fun _ => .bool false) := made_rowK (B := w2.heap.size) rfl (by simpa [Value.cells] using hown)
  obtain ⟨mb, hmb⟩ : ∃ mb, mb = w2.heap.size := ⟨_, rfl⟩
  rw [← hmb] at hval
  rw [← hmb]
  have HC0 : Hid (ClAt w w3 #[.slice ta tn tc, .slice na nn nc, .slice la ln lc, .int .i64 st, .slice pa n pc] mb S (fun _ => false) a5 ll c5 I) := by
    refine ⟨grown_trans HX2.out.grown hgrow, box_kept HX2.out.box hgrow, hval, ?_, ?_⟩
    · have := (Array.getElem?_eq_some_iff.1 HX2.out.box).1; omega
    · have h7 := keep0 HO2.out hgrow
      refine ⟨h7.1, ?_⟩
      rcases h7.2 with h | ⟨g, cap, cur, hv, hB, hr⟩
      · exact .inl h
      · exact .inr ⟨g, cap, cur, hv, by omega, hr⟩
  have HW0 : Hid (CwP tn n L R I I (fun _ => false) 0) := CwP.start
  have HU0 : Hid (ll + unm S (fun _ => false) * 97 ≤ ll + 12610) := by have := unm_le S (fun _ => false); show _ ≤ _; omega
  clear hown hgrow hval hmb HX2 HO2
  go_wp2_with fail
  go_loopg [5, 7] (unm S (fun _ => false) * 98 + ll) (fun gk v5 v7 wr => ∃ (i q c' : Nat) (a' : Option Addr) (b : Nat → Bool) (A : List It), v5 = .slice a' q c' ∧ v7 = .int .i64 i ∧ q = A.length ∧ i ≤ q ∧ gk = unm S b * 98 + (q - i) ∧ q + unm S b * 97 ≤ ll + 12610 ∧ CwP tn n L R I A b i ∧ ClAt w wr #[.slice ta tn tc, .slice na nn nc, .slice la ln lc, .int .i64 st, .slice pa n pc] mb S b a' q c' A)
  case atStart => exact ⟨0, ll, c5, a5, fun _ => false, I, rfl, rfl, HLE.out, Nat.zero_le _, rfl, HU0.out, HW0.out, HC0.out⟩
  case round =>
    obtain ⟨i, q, c', a', b, A, rfl, rfl, hq, hiq, hgk, hub, hW, hC⟩ := hrel
    have HQ : Hid (q = A.length) := hq
    have HGK : Hid (gk = unm S b * 98 + (q - i)) := hgk
    have HUB : Hid (q + unm S b * 97 ≤ ll + 12610) := hub
    have HW : Hid (CwP tn n L R I A b i) := hW
    have HC : Hid (ClAt w wr #[.slice ta tn tc, .slice na nn nc, .slice la ln lc, .int .i64 st, .slice pa n pc] mb S b a' q c' A) := hC
    have hqb : q ≤ 8796093084818 := by omega
    clear hq hgk hub hW hC HC0 HW0 HU0
    obtain ⟨k0, k1, k2, k3, k4⟩ := HC.out.ph.cells
    by_cases hlt : i < q
    · have hi0' : (0 : Int) ≤ (i : Int) := by omega
      have hi1' : (i : Int) < (q : Int) := by omega
      have hid : decide (i < q) = true := decide_eq_true hlt
      have hiA : i < A.length := by rw [← HQ.out]; exact hlt
      obtain ⟨gb, rfl, c0, c1⟩ : ∃ gb, a' = some ⟨gb, 0, none⟩ ∧ wr.cell? ⟨gb, i * 2, none⟩ = some (.int .i64 (A.getD i (0, 0)).1) ∧ wr.cell? ⟨gb, i * 2 + 1, none⟩ = some (.int .i64 (A.getD i (0, 0)).2) := by
        have ho := HC.out.own
        rcases ho.2 with ⟨_, h⟩ | ⟨g, cap, cur, hv, hB, hh, _, _, hs, ht⟩
        · omega
        · simp only [Value.slice.injEq] at hv
          refine ⟨g, hv.1, ?_⟩
          obtain ⟨h3, h4⟩ := itsV_at A i hiA
          rw [← ht, List.getElem?_take, if_pos (by omega)] at h3 h4
          rw [cell_of_row _ _ _ _ _ _ hh, cell_of_row _ _ _ _ _ _ hh]
          exact ⟨by simpa using h3, by simpa using h4⟩
      have hxi : itB n R (A.getD i (0, 0)) = true := by
        refine (HW.out.mem _ ?_).item HIT.out
        rw [List.getD_eq_getElem?_getD, List.getElem?_eq_getElem hiA]; exact List.getElem_mem hiA
      have hrg := HAR.out _ hxi
      have HAC : Hid (∀ X, wr.grownBy X none → Calls Tryz.prog 78 #[.agg #[.slice ta tn tc, .slice na nn nc, .slice la ln lc, .int .i64 st, .slice pa n pc], .agg #[.int .i64 (A.getD i (0, 0)).1, .int .i64 (A.getD i (0, 0)).2]] X fun e y => e = .returned (.int .i64 (aheadV R (A.getD i (0, 0)))) ∧ X.grownBy y none) := fun X hX => HAH.out X _ (grown_trans HC.out.grown hX) hxi
      obtain ⟨sv, hsv⟩ : ∃ s, s = aheadV R (A.getD i (0, 0)) := ⟨_, rfl⟩
      have HSV : Hid (sv = aheadV R (A.getD i (0, 0))) := hsv
      rw [← hsv] at HAC hrg
      obtain ⟨x, hx⟩ : ∃ x, x = A.getD i (0, 0) := ⟨_, rfl⟩
      rw [← hx] at HAC c0 c1
      clear hsv hx hxi
      obtain ⟨p, d⟩ := x
      simp only at HAC c0 c1
      have HUP : Hid (wr.grownBy wr.drew none) := grown_drewN wr 1
      have HKS : Hid (∀ Y, wr.grownBy Y none → (Y.cell? ⟨w.heap.size, 0, none⟩ = some (.slice ta tn tc) ∧ Y.cell? ⟨w.heap.size, 1, none⟩ = some (.slice na nn nc) ∧ Y.cell? ⟨w.heap.size, 2, none⟩ = some (.slice la ln lc) ∧ Y.cell? ⟨w.heap.size, 3, none⟩ = some (.int .i64 st) ∧ Y.cell? ⟨w.heap.size, 4, none⟩ = some (.slice pa n pc)) ∧ Y.cell? ⟨gb, i * 2, none⟩ = some (.int .i64 p) ∧ Y.cell? ⟨gb, i * 2 + 1, none⟩ = some (.int .i64 d)) := fun Y hY => ⟨(HC.out.kept hY).ph.cells, hY.cell c0 (by simp), hY.cell c1 (by simp)⟩
      clear k0 k1 k2 k3 k4 c0 c1
      go_wp2_with fail
      go_region_held3 (fun Y => (Y.cell? ⟨w.heap.size, 0, none⟩ = some (.slice ta tn tc) ∧ Y.cell? ⟨w.heap.size, 1, none⟩ = some (.slice na nn nc) ∧ Y.cell? ⟨w.heap.size, 2, none⟩ = some (.slice la ln lc) ∧ Y.cell? ⟨w.heap.size, 3, none⟩ = some (.int .i64 st) ∧ Y.cell? ⟨w.heap.size, 4, none⟩ = some (.slice pa n pc)) ∧ Y.cell? ⟨gb, i * 2, none⟩ = some (.int .i64 p) ∧ Y.cell? ⟨gb, i * 2 + 1, none⟩ = some (.int .i64 d)) (first | exact HKS.out _ HUP.out | exact HKS.out _ HG4.out | go_keep)
        ((first
          | (go_at_call 78; refine Calls.mono (HAC.out _ HUP.out) ?_; rintro e w4 ⟨rfl, hg4⟩; have HG4 : Hid (wr.grownBy w4 none) := grown_trans HUP.out hg4; clear hg4)
          | fail))
      have HC4 : Hid (ClAt w w4 #[.slice ta tn tc, .slice na nn nc, .slice la ln lc, .int .i64 st, .slice pa n pc] mb S b (some ⟨gb, 0, none⟩) q c' A) := HC.out.kept HG4.out
      clear HKS HUP HAC HC
      obtain ⟨k0, k1, k2, k3, k4⟩ := HC4.out.ph.cells
      by_cases hst : sv < (tn : Int)
      · have hd : decide (sv < (tn : Int)) = true := decide_eq_true hst
        have HSK : Hid (CwP tn n L R I A b (i + 1)) := HW.out.skip fun h => absurd h (by rw [← HSV.out]; omega)
        clear hst hrg
        go_wp2_with fail
        go_roundg (unm S b * 98 + (q - (i + 1)))
        case measure => have := HGK.out; omega
        case rel => exact ⟨i + 1, q, c', _, b, A, rfl, by go_num, HQ.out, by omega, rfl, HUB.out, HSK.out, HC4.out⟩
      · obtain ⟨s, rfl⟩ : ∃ s : Nat, sv = (s : Int) := ⟨sv.toNat, by omega⟩
        have hsS : s < S := by omega
        have hts : tn ≤ s := by omega
        have hd : decide (s < tn) = false := decide_eq_false (by omega)
        have hd2 : decide ((s : Int) < (tn : Int)) = false := decide_eq_false (by omega)
        have hs0 : (0 : Int) ≤ (s : Int) := by omega
        have hs1 : (s : Int) < (S : Int) := by omega
        have m0 := HC4.out.mark.cell s hsS
        have m1 := HC4.out.mark.free s
        obtain ⟨bs, hbs⟩ : ∃ x, x = b s := ⟨_, rfl⟩
        have HBSV : Hid (bs = b s) := hbs
        rw [← hbs] at m0
        clear hst hrg hbs
        cases bs with
        | true =>
          have HSK : Hid (CwP tn n L R I A b (i + 1)) := HW.out.skip fun _ => by rw [← HSV.out, Int.toNat_natCast]; exact HBSV.out.symm
          go_wp2_with fail
          go_roundg (unm S b * 98 + (q - (i + 1)))
          case measure => have := HGK.out; omega
          case rel => exact ⟨i + 1, q, c', _, b, A, rfl, by go_num, HQ.out, by omega, rfl, HUB.out, HSK.out, HC4.out⟩
        | false =>
          have HBR : Hid (CwP tn n L R I (A ++ begL L (s : Int) n) (markT b s) (i + 1)) := HW.out.bring (by rw [← HQ.out]; exact hlt) HSV.out.symm hts (fun j => by
            unfold markT
            by_cases e : j = s
            · simp [e]
            · simp [e])
          have HUM : Hid (unm S (markT b s) + 1 = unm S b) := unm_mark b s HBSV.out.symm S hsS
          have HCT : Hid (ClAt w (w4.setCell ⟨mb, s, none⟩ (.bool true)) #[.slice ta tn tc, .slice na nn nc, .slice la ln lc, .int .i64 st, .slice pa n pc] mb S (markT b s) (some ⟨gb, 0, none⟩) q c' A) := HC4.out.tick
          obtain ⟨X5, hX5⟩ : ∃ X5, X5 = w4.setCell ⟨mb, s, none⟩ (.bool true) := ⟨_, rfl⟩
          have HX5 : Hid (X5 = w4.setCell ⟨mb, s, none⟩ (.bool true)) := hX5
          rw [← hX5] at HCT
          obtain ⟨j0, j1, j2, j3, j4⟩ := HCT.out.ph.cells
          rw [hX5] at j0 j1 j2 j3 j4
          clear hX5 HC4
          go_wp2_with fail
          rw [← HX5.out]
          refine Calls.mono (HBG.out X5 (s : Int) HCT.out.grown) ?_
          rintro e w6 ⟨a6, c6, rfl, ho6, hg6⟩
          have HC6 : Hid (ClAt w w6 #[.slice ta tn tc, .slice na nn nc, .slice la ln lc, .int .i64 st, .slice pa n pc] mb S (markT b s) (some ⟨gb, 0, none⟩) q c' A) := HCT.out.kept hg6
          have HI6 : Hid (ItsAt w6 a6 (begL L (s : Int) n)) := ItsAt.of ho6
          have HNL : Hid (a6 = none → (begL L (s : Int) n).length = 0 ∧ c6 = 0) := (owns_bounds ho6).2
          obtain ⟨bl, hbl⟩ : ∃ x, x = (begL L (s : Int) n).length := ⟨_, rfl⟩
          have HBL : Hid (bl = (begL L (s : Int) n).length) := hbl
          rw [← hbl] at HNL
          rw [← hbl]
          have hbl2 : bl ≤ 97 := by rw [hbl]; exact Nat.le_trans (begL_len L _ n) hn
          clear ho6 hg6 hbl j0 j1 j2 j3 j4 k0 k1 k2 k3 k4 m0 m1 HCT
          go_wp2_with (at_builtin; refine wpList_append_srcW rfl (.tmp 40) (.tmp 43) 62 rfl w.heap.size 69 i0 (.agg #[.int .i64 0, .int .i64 0]) 2 16 Tryz.underlying62 hi0 hz0 hz1 hz2 rfl (by decide) (.slice (some ⟨gb, 0, none⟩) q c') q (itsV A) rfl HC6.out.own a6 bl c6 (itsV (begL L (s : Int) n)) rfl HNL.out (by rw [itsV_length, HBL.out]) (its_cells HI6.out) (itsV_one _) (by unfold maxLen; omega) (by omega) HC6.out.grown.size ?_; intro v7 wB hoB hgB; rw [← itsV_append] at hoB; obtain ⟨a7, c7, rfl, hC7⟩ := HC6.out.more hgB hoB; have HC7 : Hid (ClAt w wB #[.slice ta tn tc, .slice na nn nc, .slice la ln lc, .int .i64 st, .slice pa n pc] mb S (markT b s) a7 (q + bl) c7 (A ++ begL L (s : Int) n)) := hC7; clear hoB hgB hC7)
          go_roundg (unm S (markT b s) * 98 + (q + bl - (i + 1)))
          case measure => have h1 := HGK.out; have h2 := HUM.out; omega
          case rel => exact ⟨i + 1, q + bl, c7, a7, markT b s, A ++ begL L (s : Int) n, rfl, by go_num, by rw [List.length_append, ← HQ.out, ← HBL.out], by omega, rfl, by have h1 := HUB.out; have h2 := HUM.out; omega, HBR.out, HC7.out⟩
    · have hin : q = i := by omega
      subst hin
      have hid : decide (q < q) = false := decide_eq_false (by omega)
      have HMEM : Hid (∀ x, x ∈ A ↔ Clo tn n L R I x) := HW.out.fin (by rw [HQ.out]; exact Nat.le_refl _)
      have HSO : Hid (Calls Tryz.prog 80 #[.slice a' q c', .func (.func 81) #[] #[]] wr fun e y => SortTold w.heap.size a' c' A wr e y) := by
        have ho := HC.out.own
        rw [HQ.out] at ho ⊢
        exact sort_any wr w.heap.size a' c' A ho (by rw [← HQ.out]; omega)
      clear k0 k1 k2 k3 k4
      go_wp2_with fail
      refine Calls.mono HSO.out ?_
      rintro e w4 ⟨rfl, l', hp, hs, ho4, hg4⟩
      have HLL : Hid (l'.length = q) := by show _ = _; rw [hp.length_eq, HQ.out]
      have HIC : Hid (IsClo tn n L R I (ddT l' l'.length)) := isClo_of HMEM.out hp hs
      have HG4 : Hid (w.grownBy w4 none) := by
        have ho := HC.out.own
        rw [HQ.out] at ho
        exact grown_row HC.out.grown ho (Nat.le_refl _) hg4
      have HO4 : Hid (w4.ownsRow w.heap.size 69 2 (.slice a' l'.length c') l'.length (itsV l')) := by rw [HLL.out, HQ.out]; exact ho4
      have HCO : Hid (Calls Tryz.prog 82 #[.slice a' q c'] w4 fun e y => CompTold w.heap.size a' c' l' w4 e y) := by
        have := compact_any w4 w.heap.size a' c' l' HO4.out (by rw [HLL.out]; omega)
        rwa [HLL.out] at this
      clear hp hs ho4 hg4 HSO HC HW
      go_wp2_with fail
      refine Calls.mono HCO.out ?_
      rintro e w5 ⟨m, hm, rfl, ho5, hg5⟩
      have HO5 : Hid (w5.ownsRow w.heap.size 69 2 (.slice a' m c') m (itsV (ddT l' l'.length))) := ho5
      have HM : Hid (m = (ddT l' l'.length).length) := hm
      have HG5 : Hid (w.grownBy w5 none) := grown_row HG4.out HO4.out (Nat.le_refl _) hg5
      clear hm ho5 hg5 HCO
      go_wp2_with fail
      go_ret
      refine ⟨ddT l' l'.length, HIC.out, ?_, a', c', by rw [← HM.out]; rfl, by rw [← HM.out]; exact HO5.out, HG5.out⟩
      have h1 := ddT_len l' l'.length
      have h2 := HLL.out
      have h3 := HUB.out
      rw [← HLE.out]
      omega

end Go.Proofs.YthoamlahbnphkaaGreat.J

/-
  append onto a row of one's own, wide, and where the new slice lies.
-/
namespace Go.Proofs.YthoamlahbnphkaaGreat.J
open Go.RowKit Go.Maps Go.Shelf

section
variable {P : Program} (w : World)
theorem run_append_liesW (t ty : TypeId) (base : Nat) (e : TypeId) (i : TypeInfo) (z : Value) (size bytes : Nat) (ht : P.underlying t = some (.slice e)) (hi : P.info? e = some i) (hz : i.zero = some z)
    (hsize : i.size = size) (hby : i.bytes = bytes) (hzs : z.cells.size = size) (hsz : 0 < size)
    (v : Value) (n : Nat) (xs : List Value) (hown : w.ownsRow base e size v n xs)
    (ad : Addr) (m c : Nat) (news : List Value) (hl : news.length = m * size) (hnews : ∀ j u, news[j]? = some u → w.cell? (ad.add j) = some u) (h1 : ∀ u ∈ news, u.oneCell' = true)
    (hm : 0 < m) (h63 : n + m ≤ maxLen) (hbytes : ((n + m) + (n + m) / 4 + 192) * bytes ≤ 281474976710656) (hbase : base ≤ w.heap.size) :
    ∃ g cap w', (Builtin.append_ #[t, t] ty #[v, .slice (some ad) m c]).run P w = .ok (.slice (some ⟨g, 0, none⟩) (n + m) cap) w' ∧
      w'.ownsRow base e size (.slice (some ⟨g, 0, none⟩) (n + m) cap) (n + m) (xs ++ news) ∧ w.grownBy w' v.ownBlock ∧ (v.ownBlock = some g ∨ g = w.heap.size) := by
  obtain ⟨v', w', hr, h2, h3, _⟩ := run_append_own_wide (P := P) w base t ty e i z size bytes ht hi hz hsize hby hzs hsz v n xs hown ad m c news hl hnews h1 h63 hbytes hbase
  obtain ⟨g, cap, rfl, _, hlt⟩ := h2.form (by omega)
  refine ⟨g, cap, w', hr, h2, h3, ?_⟩
  subst hsize
  subst hby
  rcases hown.2 with ⟨rfl, rfl⟩ | ⟨g', cap', cur, rfl, hbg, hg, hnc, hcm, hcs, htake⟩
  · right
    have hr2 := run_append_nil (P := P) w t ty e i z ht hi hz ad m c news hl hnews hm (by simp only [maxLen] at h63; omega) (by have hb := hbytes; simp only [Nat.zero_add] at hb; exact Nat.le_trans (Nat.mul_le_mul_right _ (by omega)) hb)
    rw [hr] at hr2
    simp only [Result.ok.injEq, Value.slice.injEq, Option.some.injEq, Addr.mk.injEq] at hr2
    exact hr2.1.1.1
  · by_cases hroom : n + m ≤ cap'
    · left
      have hfit : n * i.size + news.length ≤ cur.size := by rw [hl, hcs, ← Nat.add_mul]; exact Nat.mul_le_mul_right _ hroom
      have hr2 := run_append_room (P := P) w t ty e i ht hi g' n cap' cur hg ad m c news hl hnews h1 hroom hfit
      rw [hr] at hr2
      simp only [Result.ok.injEq, Value.slice.injEq, Option.some.injEq, Addr.mk.injEq] at hr2
      rw [hr2.1.1.1]; rfl
    · right
      have holds : ∀ j u, xs[j]? = some u → w.cell? ((⟨g', 0, none⟩ : Addr).add j) = some u := hown.cells (g := g') rfl
      have hr2 := run_append_grow (P := P) w t ty e i z ht hi hz ⟨g', 0, none⟩ n cap' xs hown.1 holds ad m c news hl hnews (by omega) (by simp only [maxLen] at h63; omega) (growslice_fits_wide (by omega) hbytes)
      rw [hr] at hr2
      simp only [Result.ok.injEq, Value.slice.injEq, Option.some.injEq, Addr.mk.injEq] at hr2
      exact hr2.1.1.1

theorem wp_append_liesW {o : Oper} {a : Act} {K : Act → World → Prop} {Q : Exit → Act → World → Prop} (s x : Operand) (t : TypeId)
    (ho : o.op = .call { callee := .builtin .append, args := #[s, x], argTypes := #[t, t] })
    (base : Nat) (e : TypeId) (i : TypeInfo) (z : Value) (size bytes : Nat) (ht : P.underlying t = some (.slice e)) (hi : P.info? e = some i) (hz : i.zero = some z)
    (hsize : i.size = size) (hby : i.bytes = bytes) (hzs : z.cells.size = size) (hsz : 0 < size)
    (v : Value) (n : Nat) (xs : List Value) (hs : a.eval s = v) (hown : w.ownsRow base e size v n xs)
    (ad : Addr) (m c : Nat) (news : List Value) (hx : a.eval x = .slice (some ad) m c) (hl : news.length = m * size) (hnews : ∀ j u, news[j]? = some u → w.cell? (ad.add j) = some u) (h1 : ∀ u ∈ news, u.oneCell' = true)
    (hm : 0 < m) (h63 : n + m ≤ maxLen) (hbytes : ((n + m) + (n + m) / 4 + 192) * bytes ≤ 281474976710656) (hbase : base ≤ w.heap.size)
    (h : ∀ g cap w', w'.ownsRow base e size (.slice (some ⟨g, 0, none⟩) (n + m) cap) (n + m) (xs ++ news) → w.grownBy w' v.ownBlock → (v.ownBlock = some g ∨ g = w.heap.size) → K (a.put o.dst (.slice (some ⟨g, 0, none⟩) (n + m) cap)) w') : o.wp P a w K Q := by
  obtain ⟨g, cap, w', hr, h2, h3, h4⟩ := run_append_liesW (P := P) w t o.type base e i z size bytes ht hi hz hsize hby hzs hsz v n xs hown ad m c news hl hnews h1 hm h63 hbytes hbase
  unfold Oper.wp execOp
  simp only [ho, resolve, invoke, builtin, Sem.run_bind, Sem.run_pure, Result.andThen_ok, List.map_toArray, List.map_cons, List.map_nil, hs, hx, hr]
  exact h g cap w' h2 h3 h4

theorem step_append_liesW {ops : Array Oper} {o : Oper} {a : Act} {K : Act → World → Prop} {Q : Exit → Act → World → Prop} {E : Prop} (hgd : o.guard = none) (s x : Operand) (t : TypeId)
    (ho : o.op = .call { callee := .builtin .append, args := #[s, x], argTypes := #[t, t] })
    (base : Nat) (e : TypeId) (i : TypeInfo) (z : Value) (size bytes : Nat) (ht : P.underlying t = some (.slice e)) (hi : P.info? e = some i) (hz : i.zero = some z)
    (hsize : i.size = size) (hby : i.bytes = bytes) (hzs : z.cells.size = size) (hsz : 0 < size)
    (v : Value) (n : Nat) (xs : List Value) (hs : a.eval s = v) (hown : w.ownsRow base e size v n xs)
    (ad : Addr) (m c : Nat) (news : List Value) (hx : a.eval x = .slice (some ad) m c) (hl : news.length = m * size) (hnews : ∀ j u, news[j]? = some u → w.cell? (ad.add j) = some u) (h1 : ∀ u ∈ news, u.oneCell' = true)
    (hm : 0 < m) (h63 : n + m ≤ maxLen) (hbytes : ((n + m) + (n + m) / 4 + 192) * bytes ≤ 281474976710656) (hbase : base ≤ w.heap.size)
    (h : ∀ g cap w', w'.ownsRow base e size (.slice (some ⟨g, 0, none⟩) (n + m) cap) (n + m) (xs ++ news) → w.grownBy w' v.ownBlock → (v.ownBlock = some g ∨ g = w.heap.size) → K (a.put o.dst (.slice (some ⟨g, 0, none⟩) (n + m) cap)) w') :
    if Region.wanted o (yielded ops a.tmps) = true then Oper.wp P o a w K Q else E := by
  have hw : Region.wanted o (yielded ops a.tmps) = true := by simp [Region.wanted, hgd]
  rw [if_pos hw]
  exact wp_append_liesW w s x t ho base e i z size bytes ht hi hz hsize hby hzs hsz v n xs hs hown ad m c news hx hl hnews h1 hm h63 hbytes hbase h
end

end Go.Proofs.YthoamlahbnphkaaGreat.J
