import Derived.Test.YtjijagnpcmonbaaDoorQckginphinmhf
import Derived.Test.YtjijagnpcmonbaaDoorQipaapgffmmbn
import Derived.Test.YtjijagnpcmonbaaDoorQkkakppaacpni
import Derived.Deep.DeepAppendWide
import Derived.Deep.AppendLies
import Derived.Deep.RegionHeld3
import Derived.Deep.RegionLaw
import Derived.BigQuiet
import Derived.Test.YtjijagnpcmonbaaDoorQdjehjbldmkcj

/-
  lr0: rows of values; marks counted; append, wide.
-/
namespace Go.Proofs.YtjijagnpcmonbaaDoor.J
open Go.RowKit Go.Maps Go.Shelf

/-- A row of values, whole in block k. -/
def ValAt (w : World) (k len : Nat) (t : TypeId) (c : Nat → Value) : Prop := w.heap[k]? = some (.cells ((List.range len).map c).toArray t (0, 0))
section
variable {w w' : World} {k len : Nat} {t : TypeId} {c : Nat → Value}
theorem ValAt.cell (h : ValAt w k len t c) (i : Nat) (hi : i < len) : w.cell? ⟨k, i, none⟩ = some (c i) := by
  rw [cell_of_row _ _ _ _ _ _ h]; simp [hi]
theorem ValAt.free (h : ValAt w k len t c) (i : Nat) : w.frozen? ⟨k, i, none⟩ = false := frozen_of_row _ _ _ _ _ h
theorem ValAt.lt (h : ValAt w k len t c) : k < w.heap.size := (Array.getElem?_eq_some_iff.1 h).1
theorem ValAt.kept (h : ValAt w k len t c) (hg : w.grownBy w' none) : ValAt w' k len t c := (hg.block k h.lt (by simp)).trans h
theorem ValAt.at {b : Nat} (h : ValAt w k len t c) (hg : w.grownBy w' (some b)) (hne : k ≠ b) : ValAt w' k len t c := (hg.block k h.lt (by simpa using hne)).trans h
/-- The cells with one turned. -/
def put (c : Nat → Value) (x : Nat) (v : Value) : Nat → Value := fun i => if i = x then v else c i
theorem ValAt.set (h : ValAt w k len t c) (x : Nat) (v : Value) : ValAt (w.setCell ⟨k, x, none⟩ v) k len t (put c x v) := by
  unfold ValAt
  rw [heap_setCell_same _ _ _ _ _ _ h]
  congr 2
  apply Array.ext'
  apply List.ext_getElem?
  intro i
  simp only [Array.toList_setIfInBounds, List.getElem?_set, List.getElem?_map]
  by_cases hi : i < len
  · by_cases e : x = i
    · subst e; simp [hi, put]
    · have e2 : ¬ i = x := fun h => e h.symm
      simp [e, e2, hi, put]
  · by_cases e : x = i
    · subst e; simp [hi]
    · simp [e, hi]
end
theorem made_rowK {w1 : World} {B g n : Nat} {t : TypeId} {z : Value} (hz : z.cells = #[z]) (h : w1.ownsRow B t 1 (.slice (some ⟨g, 0, none⟩) n n) n (madeCells z.cells (n * 1)).toList) : ValAt w1 g n t (fun _ => z) := by
  rcases h.2 with ⟨h', _⟩ | ⟨g', cap, cur, hv, _, hh, _, _, hs, ht⟩
  · cases h'
  · simp only [Value.slice.injEq, Option.some.injEq, Addr.mk.injEq, and_true, true_and] at hv
    obtain ⟨rfl, rfl⟩ := hv
    have e : cur = ((List.range n).map fun _ => z).toArray := by
      apply Array.ext'
      rw [show cur.toList = cur.toList.take (n * 1) by rw [List.take_of_length_le (by simp; omega)], ht]
      rw [hz, toList_madeCells_one, Nat.mul_one]
      rw [List.map_const', List.length_range]
    unfold ValAt
    rw [hh, e]
theorem ValAt.ext {w : World} {k len : Nat} {t : TypeId} {c d : Nat → Value} (h : ValAt w k len t c) (e : ∀ i, i < len → c i = d i) : ValAt w k len t d := by
  unfold ValAt at *
  rw [h, List.map_congr_left fun i hi => e i (by simpa using hi)]

set_option maxRecDepth 100000 in
set_option maxHeartbeats 1000000 in

/-- One mark more. -/
def markT (f : Nat → Bool) (x : Nat) : Nat → Bool := fun i => if i = x then true else f i
/-- How many of the first n are not marked. -/
def unm : Nat → (Nat → Bool) → Nat
  | 0, _ => 0
  | n + 1, f => unm n f + (if f n then 0 else 1)
theorem unm_out (f : Nat → Bool) (x : Nat) : ∀ n, n ≤ x → unm n (markT f x) = unm n f
  | 0, _ => rfl
  | n + 1, h => by
    have e : markT f x n = f n := by unfold markT; rw [if_neg (by omega)]
    simp only [unm, unm_out f x n (by omega), e]
theorem unm_mark (f : Nat → Bool) (x : Nat) (hf : f x = false) : ∀ n, x < n → unm n (markT f x) + 1 = unm n f
  | 0, h => by omega
  | n + 1, h => by
    by_cases e : x = n
    · subst e
      have e1 : markT f x x = true := by simp [markT]
      simp [unm, unm_out f x x (Nat.le_refl _), e1, hf]
    · have e1 : markT f x n = f n := by unfold markT; rw [if_neg (fun h => e h.symm)]
      have ih := unm_mark f x hf n (by omega)
      simp only [unm, e1]
      omega


theorem wpList_append_srcW {w : World} {ops : Array Oper} {rest : List Oper} {o : Oper} {a : Act} {Q : Exit → Act → World → Prop} (hgd : o.guard = none) (s x : Operand) (t : TypeId)
    (ho : o.op = .call { callee := .builtin .append, args := #[s, x], argTypes := #[t, t] })
    (base : Nat) (e : TypeId) (i : TypeInfo) (z : Value) (size bytes : Nat) (ht : Tryd.prog.underlying t = some (.slice e)) (hi : Tryd.prog.info? e = some i) (hz : i.zero = some z)
    (hsize : i.size = size) (hby : i.bytes = bytes) (hzs : z.cells.size = size) (hsz : 0 < size)
    (v : Value) (n : Nat) (xs : List Value) (hs : a.eval s = v) (hown : w.ownsRow base e size v n xs)
    (xo : Option Addr) (m c : Nat) (news : List Value) (hx : a.eval x = .slice xo m c) (hnil : xo = none → m = 0 ∧ c = 0) (hl : news.length = m * size) (hnews : ∀ ad, xo = some ad → ∀ j u, news[j]? = some u → w.cell? (ad.add j) = some u) (h1 : ∀ u ∈ news, u.oneCell' = true)
    (h63 : n + m ≤ maxLen) (hbytes : ((n + m) + (n + m) / 4 + 192) * bytes ≤ 281474976710656) (hbase : base ≤ w.heap.size)
    (h : ∀ v' w', w'.ownsRow base e size v' (n + m) (xs ++ news) → w.grownBy w' v.ownBlock → wpList Tryd.prog ops Q rest (a.put o.dst v') w') : wpList Tryd.prog ops Q (o :: rest) a w := by
  refine wpList_plain hgd fun K hK => ?_
  cases xo with
  | some ad => exact wp_append_own_wide w s x t ho base e i z size bytes ht hi hz hsize hby hzs hsz v n xs hs hown ad m c news hx hl (hnews ad rfl) h1 h63 hbytes hbase fun v' w' h2 h3 _ => hK _ _ (h v' w' h2 h3)
  | none =>
    obtain ⟨rfl, rfl⟩ := hnil rfl
    have hn0 : news = [] := List.eq_nil_of_length_eq_zero (by simpa using hl)
    subst hn0
    have hrun := run_append_owned_none (P := Tryd.prog) (w := w) base t o.type e i size ht hi v n xs hown
    have hk := hK _ _ (h v w (by simpa using hown) ⟨rfl, rfl, rfl, Nat.le_refl _, fun _ _ _ => rfl⟩)
    unfold Oper.wp
    simp [execOp, ho, resolve, invoke, builtin, hs, hx, hrun, Result.andThen]
    exact hk


end Go.Proofs.YtjijagnpcmonbaaDoor.J

/-
  append onto a row of one's own, wide, and where the new slice lies.
-/
namespace Go.Proofs.YtjijagnpcmonbaaDoor.J
open Go.RowKit Go.Maps Go.Shelf

section
variable {P : Program} (w : World)
theorem run_append_liesW (t ty : TypeId) (base : Nat) (e : TypeId) (i : TypeInfo) (z : Value) (size bytes : Nat) (ht : P.underlying t = some (.slice e)) (hi : P.info? e = some i) (hz : i.zero = some z)
    (hsize : i.size = size) (hby : i.bytes = bytes) (hzs : z.cells.size = size) (hsz : 0 < size)
    (v : Value) (n : Nat) (xs : List Value) (hown : w.ownsRow base e size v n xs)
    (ad : Addr) (m c : Nat) (news : List Value) (hl : news.length = m * size) (hnews : ∀ j u, news[j]? = some u → w.cell? (ad.add j) = some u) (h1 : ∀ u ∈ news, u.oneCell' = true)
    (hm : 0 < m) (h63 : n + m ≤ maxLen) (hbytes : ((n + m) + (n + m) / 4 + 192) * bytes ≤ 281474976710656) (hbase : base ≤ w.heap.size) :
    ∃ g cap w', (Builtin.append_ #[t, t] ty #[v, .slice (some ad) m c]).run P w = .ok (.slice (some ⟨g, 0, none⟩) (n + m) cap) w' ∧
      w'.ownsRow base e size (.slice (some ⟨g, 0, none⟩) (n + m) cap) (n + m) (xs ++ news) ∧ w.grownBy w' v.ownBlock ∧ (v.ownBlock = some g ∨ g = w.heap.size) := by
  obtain ⟨v', w', hr, h2, h3, _⟩ := run_append_own_wide (P := P) w base t ty e i z size bytes ht hi hz hsize hby hzs hsz v n xs hown ad m c news hl hnews h1 h63 hbytes hbase
  obtain ⟨g, cap, rfl, _, hlt⟩ := h2.form (by omega)
  refine ⟨g, cap, w', hr, h2, h3, ?_⟩
  subst hsize
  subst hby
  rcases hown.2 with ⟨rfl, rfl⟩ | ⟨g', cap', cur, rfl, hbg, hg, hnc, hcm, hcs, htake⟩
  · right
    have hr2 := run_append_nil (P := P) w t ty e i z ht hi hz ad m c news hl hnews hm (by simp only [maxLen] at h63; omega) (by have hb := hbytes; simp only [Nat.zero_add] at hb; exact Nat.le_trans (Nat.mul_le_mul_right _ (by omega)) hb)
    rw [hr] at hr2
    simp only [Result.ok.injEq, Value.slice.injEq, Option.some.injEq, Addr.mk.injEq] at hr2
    exact hr2.1.1.1
  · by_cases hroom : n + m ≤ cap'
    · left
      have hfit : n * i.size + news.length ≤ cur.size := by rw [hl, hcs, ← Nat.add_mul]; exact Nat.mul_le_mul_right _ hroom
      have hr2 := run_append_room (P := P) w t ty e i ht hi g' n cap' cur hg ad m c news hl hnews h1 hroom hfit
      rw [hr] at hr2
      simp only [Result.ok.injEq, Value.slice.injEq, Option.some.injEq, Addr.mk.injEq] at hr2
      rw [hr2.1.1.1]; rfl
    · right
      have holds : ∀ j u, xs[j]? = some u → w.cell? ((⟨g', 0, none⟩ : Addr).add j) = some u := hown.cells (g := g') rfl
      have hr2 := run_append_grow (P := P) w t ty e i z ht hi hz ⟨g', 0, none⟩ n cap' xs hown.1 holds ad m c news hl hnews (by omega) (by simp only [maxLen] at h63; omega) (growslice_fits_wide (by omega) hbytes)
      rw [hr] at hr2
      simp only [Result.ok.injEq, Value.slice.injEq, Option.some.injEq, Addr.mk.injEq] at hr2
      exact hr2.1.1.1

theorem wp_append_liesW {o : Oper} {a : Act} {K : Act → World → Prop} {Q : Exit → Act → World → Prop} (s x : Operand) (t : TypeId)
    (ho : o.op = .call { callee := .builtin .append, args := #[s, x], argTypes := #[t, t] })
    (base : Nat) (e : TypeId) (i : TypeInfo) (z : Value) (size bytes : Nat) (ht : P.underlying t = some (.slice e)) (hi : P.info? e = some i) (hz : i.zero = some z)
    (hsize : i.size = size) (hby : i.bytes = bytes) (hzs : z.cells.size = size) (hsz : 0 < size)
    (v : Value) (n : Nat) (xs : List Value) (hs : a.eval s = v) (hown : w.ownsRow base e size v n xs)
    (ad : Addr) (m c : Nat) (news : List Value) (hx : a.eval x = .slice (some ad) m c) (hl : news.length = m * size) (hnews : ∀ j u, news[j]? = some u → w.cell? (ad.add j) = some u) (h1 : ∀ u ∈ news, u.oneCell' = true)
    (hm : 0 < m) (h63 : n + m ≤ maxLen) (hbytes : ((n + m) + (n + m) / 4 + 192) * bytes ≤ 281474976710656) (hbase : base ≤ w.heap.size)
    (h : ∀ g cap w', w'.ownsRow base e size (.slice (some ⟨g, 0, none⟩) (n + m) cap) (n + m) (xs ++ news) → w.grownBy w' v.ownBlock → (v.ownBlock = some g ∨ g = w.heap.size) → K (a.put o.dst (.slice (some ⟨g, 0, none⟩) (n + m) cap)) w') : o.wp P a w K Q := by
  obtain ⟨g, cap, w', hr, h2, h3, h4⟩ := run_append_liesW (P := P) w t o.type base e i z size bytes ht hi hz hsize hby hzs hsz v n xs hown ad m c news hl hnews h1 hm h63 hbytes hbase
  unfold Oper.wp execOp
  simp only [ho, resolve, invoke, builtin, Sem.run_bind, Sem.run_pure, Result.andThen_ok, List.map_toArray, List.map_cons, List.map_nil, hs, hx, hr]
  exact h g cap w' h2 h3 h4

theorem step_append_liesW {ops : Array Oper} {o : Oper} {a : Act} {K : Act → World → Prop} {Q : Exit → Act → World → Prop} {E : Prop} (hgd : o.guard = none) (s x : Operand) (t : TypeId)
    (ho : o.op = .call { callee := .builtin .append, args := #[s, x], argTypes := #[t, t] })
    (base : Nat) (e : TypeId) (i : TypeInfo) (z : Value) (size bytes : Nat) (ht : P.underlying t = some (.slice e)) (hi : P.info? e = some i) (hz : i.zero = some z)
    (hsize : i.size = size) (hby : i.bytes = bytes) (hzs : z.cells.size = size) (hsz : 0 < size)
    (v : Value) (n : Nat) (xs : List Value) (hs : a.eval s = v) (hown : w.ownsRow base e size v n xs)
    (ad : Addr) (m c : Nat) (news : List Value) (hx : a.eval x = .slice (some ad) m c) (hl : news.length = m * size) (hnews : ∀ j u, news[j]? = some u → w.cell? (ad.add j) = some u) (h1 : ∀ u ∈ news, u.oneCell' = true)
    (hm : 0 < m) (h63 : n + m ≤ maxLen) (hbytes : ((n + m) + (n + m) / 4 + 192) * bytes ≤ 281474976710656) (hbase : base ≤ w.heap.size)
    (h : ∀ g cap w', w'.ownsRow base e size (.slice (some ⟨g, 0, none⟩) (n + m) cap) (n + m) (xs ++ news) → w.grownBy w' v.ownBlock → (v.ownBlock = some g ∨ g = w.heap.size) → K (a.put o.dst (.slice (some ⟨g, 0, none⟩) (n + m) cap)) w') :
    if Region.wanted o (yielded ops a.tmps) = true then Oper.wp P o a w K Q else E := by
  have hw : Region.wanted o (yielded ops a.tmps) = true := by simp [Region.wanted, hgd]
  rw [if_pos hw]
  exact wp_append_liesW w s x t ho base e i z size bytes ht hi hz hsize hby hzs hsz v n xs hs hown ad m c news hx hl hnews h1 hm h63 hbytes hbase h
end

end Go.Proofs.YtjijagnpcmonbaaDoor.J

/-
  lr0: the document's SameItems; items laid in order, pure.
-/
namespace Go.Proofs.YtjijagnpcmonbaaDoor.J
open Go.RowKit Go.Maps Go.Shelf

attribute [local go_sem] Oper.semAt_some

theorem ItsAt.at {X : World} {a : Option Addr} {l : List It} (h : ItsAt X a l) {i : Nat} (hi : i < l.length) : ∃ b off, a = some ⟨b, off, none⟩ ∧ X.cell? ⟨b, off + i * 2, none⟩ = some (.int .i64 (l.getD i (0, 0)).1) ∧ X.cell? ⟨b, off + i * 2 + 1, none⟩ = some (.int .i64 (l.getD i (0, 0)).2) := by
  rcases h with h | ⟨b, off, e, h⟩
  · rw [h] at hi; cases hi
  · exact ⟨b, off, e, h i hi⟩

/-- Where x belongs in a list in order. -/
structure Spot (x : It) (l : List It) (k : Nat) : Prop where
  le : k ≤ l.length
  lt : ∀ j, j < k → ltI (l.getD j (0, 0)) x
  ge : k < l.length → ¬ ltI (l.getD k (0, 0)) x
end Go.Proofs.YtjijagnpcmonbaaDoor.J

/-
  lr0: closures in memory.
-/
namespace Go.Proofs.YtjijagnpcmonbaaDoor.J
open Go.RowKit Go.Maps Go.Shelf

attribute [local go_sem] Oper.semAt_some

section
variable {w X Y : World} {cs : Array Value} {mb S : Nat} {b : Nat → Bool} {a : Option Addr} {q c : Nat} {A : List It}
end

end Go.Proofs.YtjijagnpcmonbaaDoor.J

/-
  lr0: what items bring along, in memory; bring.
-/
namespace Go.Proofs.YtjijagnpcmonbaaDoor.J
open Go.RowKit Go.Maps Go.Shelf

attribute [local go_sem] Oper.semAt_some

/-- Symbols, as cells. -/
def brV (T : List Nat) : List Value := T.map fun s : Nat => .int .i64 (s : Int)
/-- Whether a symbol is brought now: marks, and what is left. -/
def brB (tn : Nat) (b : Nat → Bool) (sv : Int) : Nat → Bool := if (tn : Int) ≤ sv ∧ b sv.toNat = false then markT b sv.toNat else b
def brT (tn : Nat) (b : Nat → Bool) (T : List Nat) (sv : Int) : List Nat := if (tn : Int) ≤ sv ∧ b sv.toNat = false then T ++ [sv.toNat] else T

/-- Blocks of other things than marks, numbers and what is left stay. -/
def KeepB (X Y : World) : Prop := X.heap.size ≤ Y.heap.size ∧ ∀ (k : Nat) (cs : Array Value) (t : TypeId), X.heap[k]? = some (.cells cs t (0, 0)) → t ≠ 4 → t ≠ 3 → t ≠ 28 → Y.heap[k]? = some (.cells cs t (0, 0))
theorem KeepB.refl (X : World) : KeepB X X := ⟨Nat.le_refl _, fun _ _ _ h _ _ _ => h⟩
theorem KeepB.trans {X Y Z : World} (h : KeepB X Y) (k : KeepB Y Z) : KeepB X Z := ⟨Nat.le_trans h.1 k.1, fun b cs t h1 h2 h3 h4 => k.2 b cs t (h.2 b cs t h1 h2 h3 h4) h2 h3 h4⟩
theorem KeepB.none_ {X Y : World} (h : X.grownBy Y none) : KeepB X Y := ⟨h.size, fun _ _ _ h1 _ _ _ => box_kept h1 h⟩

theorem br_set {X : World} {k k2 x : Nat} {v : Value} {cs cs2 : Array Value} {t t2 : TypeId} (h : X.heap[k]? = some (.cells cs t (0, 0))) (h2 : X.heap[k2]? = some (.cells cs2 t2 (0, 0))) (hne : t ≠ t2) : (X.setCell ⟨k2, x, none⟩ v).heap[k]? = some (.cells cs t (0, 0)) := by
  have hg : X.grownBy (X.setCell ⟨k2, x, none⟩ v) (some k2) := grown_setCell _ _ _
  refine (hg.block k (Array.getElem?_eq_some_iff.1 h).1 ?_).trans h
  intro e
  have e2 : k = k2 := by simpa using e
  rw [e2, h2] at h
  simp only [Option.some.injEq, Obj.cells.injEq] at h
  exact hne h.2.1.symm
section
variable {w X Y : World} {gb : Nat} {cs : Array Value} {vb lb mb S : Nat} {b : Nat → Bool} {a : Option Addr} {q c : Nat} {T : List Nat}
theorem KeepB.store {x : Nat} {v : Value} (h4 : Y.heap[lb]? = some (.cells #[.slice a q c] 28 (0, 0))) : KeepB Y (Y.setCell ⟨lb, x, none⟩ v) := by
  have G : Y.grownBy (Y.setCell ⟨lb, x, none⟩ v) (some lb) := grown_setCell _ _ _
  exact ⟨G.size, fun k cs t h1 _ _ h2 => br_set h1 h4 h2⟩
end

end Go.Proofs.YtjijagnpcmonbaaDoor.J

/-
  lr0: broughtBy.
-/
namespace Go.Proofs.YtjijagnpcmonbaaDoor.J
open Go.RowKit Go.Maps Go.Shelf

attribute [local go_sem] Oper.semAt_some

section
variable {tn n : Nat} {L : Nat → Int} {R : Nat → List Int} {I : List It} {b : Nat → Bool} {T : List Nat} {i k S : Nat} {non sv : Int}
theorem BrP.rest (h : BrP tn n L R I b T i (-1) 0) (hL : ∀ p, p < n → 0 ≤ L p) : BrP tn n L R I b T i (-1) n := ⟨h.snd, h.tin, h.its, h.done, fun p _ hp hl _ => by have := hL p hp; omega⟩
end

/-- What broughtBy tells. -/
def BrgTold (tn n S : Nat) (L : Nat → Int) (R : Nat → List Int) (I : List It) (w : World) (e : Ending) (y : World) : Prop := ∃ (mb : Nat) (b : Nat → Bool) (non : Int), e = .returned (.slice (some ⟨mb, 0, none⟩) S S) ∧ ValAt y mb S 4 (fun i => .bool (b i)) ∧ w.heap.size ≤ mb ∧ w.grownBy y none ∧ BrP tn n L R I b [] I.length non n

end Go.Proofs.YtjijagnpcmonbaaDoor.J

/-
  lr0: closure.
-/
namespace Go.Proofs.YtjijagnpcmonbaaDoor.J
open Go.RowKit Go.Maps Go.Shelf

attribute [local go_sem] Oper.semAt_some

section
variable {w X Y : World} {B : Nat} {cs : Array Value} {mb S : Nat} {b : Nat → Bool} {ga : Option Addr} {gc : Nat} {G : List It} {a : Option Addr} {q c : Nat} {A : List It}
end

end Go.Proofs.YtjijagnpcmonbaaDoor.J

/-
  lr0: kernels.
-/
namespace Go.Proofs.YtjijagnpcmonbaaDoor.J
open Go.RowKit Go.Maps Go.Shelf

attribute [local go_sem] Oper.semAt_some

/-- The kernel behind s of items in order. -/
def kerT (R : Nat → List Int) (l : List It) (s : Int) : List It := (l.filter fun x => aheadV R x == s).map fun x => (x.1, x.2 + 1)
theorem kerT_len (R : Nat → List Int) (l : List It) (s : Int) : (kerT R l s).length ≤ l.length := by
  unfold kerT
  rw [List.length_map]
  exact List.length_filter_le _ _

section
variable {w P X Y Z : World} {cs : Array Value} {rb S : Nat} {K : Nat → List It} {ua : Nat → Option Addr} {uc : Nat → Nat}
def updL {α : Type} (f : Nat → α) (s : Nat) (x : α) : Nat → α := fun i => if i = s then x else f i
end

end Go.Proofs.YtjijagnpcmonbaaDoor.J

/-
  lr0: the walk over the kernels, pure.
-/
namespace Go.Proofs.YtjijagnpcmonbaaDoor.J
open Go.RowKit Go.Maps Go.Shelf

/-- The state of a kernel, and the kernels afterwards; none: one too many. -/
def askF (ks : List (List It)) (k : List It) : Option (Nat × List (List It)) := if k ∈ ks then some (ks.idxOf k, ks) else if ks.length < 256 then some (ks.length, ks ++ [k]) else none
/-- The edges of a state, by the symbols below S. -/
def leaveF (G : Nat → List It) (ks : List (List It)) : Nat → Option (List (List It) × List (Nat × Nat))
  | 0 => some (ks, [])
  | s + 1 => match leaveF G ks s with
    | none => none
    | some (ks', ed) => if G s = [] then some (ks', ed) else match askF ks' (G s) with
      | none => none
      | some (t, ks'') => some (ks'', ed ++ [(s, t)])
/-- The automaton, once the states below i have been left. -/
def autoF (G : List It → Nat → List It) (S : Nat) : Nat → Option (List (List It) × List (List (Nat × Nat)))
  | 0 => some ([[(0, 0)]], [])
  | i + 1 => match autoF G S i with
    | none => none
    | some (ks, es) => if i < ks.length then match leaveF (G (ks.getD i [])) ks S with
        | none => none
        | some (ks', ed) => some (ks', es ++ [ed])
      else some (ks, es)

/-- What always holds of the kernels: none twice, 256 at most; each is in P. -/
structure KsOK (P : Nat → List It → Prop) (ks : List (List It)) : Prop where
  nodup : ks.Nodup
  le : ks.length ≤ 256
  each : ∀ j, j < ks.length → P j (ks.getD j [])

theorem getD_snoc_old {α : Type} {l : List α} {x d : α} {j : Nat} (h : j < l.length) : (l ++ [x]).getD j d = l.getD j d := by
  rw [List.getD_eq_getElem?_getD, List.getD_eq_getElem?_getD, List.getElem?_append_left h]
theorem getD_snoc_new {α : Type} {l : List α} {x d : α} : (l ++ [x]).getD l.length d = x := by
  rw [List.getD_eq_getElem?_getD, List.getElem?_append_right (Nat.le_refl _), Nat.sub_self]; rfl

theorem getD_prefix {α : Type} {l m : List α} {d : α} {j : Nat} (h : l <+: m) (hj : j < l.length) : m.getD j d = l.getD j d := by
  obtain ⟨t, rfl⟩ := h
  rw [List.getD_eq_getElem?_getD, List.getD_eq_getElem?_getD, List.getElem?_append_left hj]

theorem KsOK.ask {P : Nat → List It → Prop} {ks ks' : List (List It)} {k : List It} {t : Nat} (h : KsOK P ks) (hP : P ks.length k) (e : askF ks k = some (t, ks')) : KsOK P ks' ∧ ks <+: ks' ∧ t < ks'.length ∧ ks'.getD t [] = k := by
  unfold askF at e
  by_cases hk : k ∈ ks
  · rw [if_pos hk] at e
    cases e
    have h1 := List.idxOf_lt_length_iff.2 hk
    refine ⟨h, List.prefix_refl _, h1, ?_⟩
    rw [List.getD_eq_getElem?_getD, List.getElem?_eq_getElem h1]
    simp
  · rw [if_neg hk] at e
    by_cases hl : ks.length < 256
    · rw [if_pos hl] at e
      cases e
      refine ⟨⟨?_, by rw [List.length_append]; exact hl, fun j hj => ?_⟩, List.prefix_append _ _, by rw [List.length_append]; exact Nat.lt_succ_self _, getD_snoc_new⟩
      · rw [List.nodup_append]
        exact ⟨h.nodup, by simp, fun a ha b hb => by rw [List.mem_singleton.1 hb]; intro e; exact hk (e ▸ ha)⟩
      · rw [List.length_append] at hj
        simp only [List.length_singleton] at hj
        by_cases e : j < ks.length
        · rw [getD_snoc_old e]; exact h.each j e
        · have : j = ks.length := by omega
          subst this
          rw [getD_snoc_new]; exact hP
    · rw [if_neg hl] at e; cases e

theorem KsOK.leave {P : Nat → List It → Prop} {G : Nat → List It} {ks : List (List It)} (h : KsOK P ks) (hP : ∀ m s, ks.length ≤ m → P m (G s)) : ∀ (s : Nat) {ks' : List (List It)} {ed : List (Nat × Nat)}, leaveF G ks s = some (ks', ed) → KsOK P ks' ∧ ks <+: ks' ∧ ed.length ≤ s ∧ ∀ x ∈ ed, x.1 < s ∧ x.2 < ks'.length ∧ ks'.getD x.2 [] = G x.1
  | 0, ks', ed, e => by
    unfold leaveF at e
    cases e
    exact ⟨h, List.prefix_refl _, Nat.le_refl _, fun x hx => by cases hx⟩
  | s + 1, ks', ed, e => by
    unfold leaveF at e
    cases h1 : leaveF G ks s with
    | none => rw [h1] at e; cases e
    | some q =>
      obtain ⟨k1, e1⟩ := q
      obtain ⟨i1, i2, i3, i4⟩ := KsOK.leave h hP s h1
      rw [h1] at e
      simp only at e
      by_cases hg : G s = []
      · rw [if_pos hg] at e
        cases e
        exact ⟨i1, i2, by omega, fun x hx => ⟨by have := (i4 x hx).1; omega, (i4 x hx).2⟩⟩
      · rw [if_neg hg] at e
        cases h2 : askF k1 (G s) with
        | none => rw [h2] at e; cases e
        | some q2 =>
          obtain ⟨t, k2⟩ := q2
          rw [h2] at e
          cases e
          obtain ⟨j1, j2, j3, j4⟩ := i1.ask (hP _ s i2.length_le) h2
          refine ⟨j1, i2.trans j2, by rw [List.length_append]; exact Nat.succ_le_succ i3, fun x hx => ?_⟩
          rcases List.mem_append.1 hx with hx | hx
          · obtain ⟨q1, q2, q3⟩ := i4 x hx
            refine ⟨by omega, Nat.lt_of_lt_of_le q2 j2.length_le, ?_⟩
            rw [← q3, getD_prefix j2 q2]
          · rw [List.mem_singleton.1 hx]
            exact ⟨Nat.lt_succ_self _, j3, j4⟩

/-- What always holds of the automaton under way. -/
structure AuOK (P : Nat → List It → Prop) (G : List It → Nat → List It) (S i : Nat) (ks : List (List It)) (es : List (List (Nat × Nat))) : Prop where
  kok : KsOK P ks
  pos : 0 < ks.length
  head : ks.getD 0 [] = [(0, 0)]
  len : es.length = min i ks.length
  edges : ∀ q, q < es.length → (es.getD q []).length ≤ S ∧ ∀ x ∈ es.getD q [], x.1 < S ∧ x.2 < ks.length ∧ ks.getD x.2 [] = G (ks.getD q []) x.1

end Go.Proofs.YtjijagnpcmonbaaDoor.J

/-
  lr0: states in memory; the document's place.
-/
namespace Go.Proofs.YtjijagnpcmonbaaDoor.J
open Go.RowKit Go.Maps Go.Shelf

attribute [local go_sem] Oper.semAt_some

/-- The kernels of states in memory: ka and kc say where they lie and what room they have. -/
def KersAt (X : World) (a : Option Addr) (ks : List (List It)) (ka : Nat → Option Addr) (kc : Nat → Nat) : Prop := ks = [] ∨ ∃ b off, a = some ⟨b, off, none⟩ ∧ ∀ i, i < ks.length → X.cell? ⟨b, off + i * 2, none⟩ = some (.slice (ka i) (ks.getD i []).length (kc i)) ∧ ItsAt X (ka i) (ks.getD i [])
theorem KersAt.kept {X Y : World} {a : Option Addr} {ks : List (List It)} {ka : Nat → Option Addr} {kc : Nat → Nat} (h : KersAt X a ks ka kc) (hg : X.grownBy Y none) : KersAt Y a ks ka kc := by
  rcases h with h | ⟨b, off, e, h⟩
  · exact .inl h
  · exact .inr ⟨b, off, e, fun i hi => ⟨hg.cell (h i hi).1 (by simp), (h i hi).2.kept hg⟩⟩
theorem KersAt.at {X : World} {a : Option Addr} {ks : List (List It)} {ka : Nat → Option Addr} {kc : Nat → Nat} (h : KersAt X a ks ka kc) {i : Nat} (hi : i < ks.length) : ∃ b off, a = some ⟨b, off, none⟩ ∧ X.cell? ⟨b, off + i * 2, none⟩ = some (.slice (ka i) (ks.getD i []).length (kc i)) ∧ ItsAt X (ka i) (ks.getD i []) := by
  rcases h with h | ⟨b, off, e, h⟩
  · rw [h] at hi; cases hi
  · exact ⟨b, off, e, h i hi⟩

/-- The place of a kernel, -1: there is none. -/
def placeV (ks : List (List It)) (k : List It) : Int := if k ∈ ks then (ks.idxOf k : Int) else -1
end Go.Proofs.YtjijagnpcmonbaaDoor.J

/-
  lr0: slices.Equal of items.
-/
namespace Go.Proofs.YtjijagnpcmonbaaDoor.J
open Go.RowKit Go.Maps Go.Shelf

attribute [local go_sem] Oper.semAt_some

end Go.Proofs.YtjijagnpcmonbaaDoor.J

/-
  Lists of numbers that are the same.
-/
namespace Go.Proofs.YtjijagnpcmonbaaDoor.J
open Go.RowKit Go.Maps Go.Shelf

attribute [local go_sem] Oper.semAt_some

/-- Lists of numbers in memory. -/
def LsAt (X : World) (a : Option Addr) (N : Nat) (Q : Nat → List Int) (ua : Nat → Option Addr) (uc : Nat → Nat) : Prop := (N = 0 ∨ ∃ k, a = some ⟨k, 0, none⟩ ∧ ∀ i, i < N → X.cell? ⟨k, i, none⟩ = some (.slice (ua i) (Q i).length (uc i))) ∧ ∀ i, i < N → IntsAt X (ua i) (Q i)
theorem LsAt.kept {X Y : World} {a : Option Addr} {N : Nat} {Q : Nat → List Int} {ua : Nat → Option Addr} {uc : Nat → Nat} (h : LsAt X a N Q ua uc) (hg : X.grownBy Y none) : LsAt Y a N Q ua uc := by
  refine ⟨?_, fun i hi => (h.2 i hi).kept hg⟩
  rcases h.1 with h | ⟨k, e, h1⟩
  · exact .inl h
  · exact .inr ⟨k, e, fun i hi => hg.cell (h1 i hi) (by simp)⟩


set_option maxRecDepth 100000 in
theorem ints_same (a1 a2 : Option Addr) (c1 c2 : Nat) (l : List Int) (w : World) (h1 : IntsAt w a1 l) (h2 : IntsAt w a2 l) (hn : l.length ≤ 17592186044416) :
    Calls Tryd.prog 13 #[.slice a1 l.length c1, .slice a2 l.length c2] w fun e y => e = .returned (.bool true) ∧ w.grownBy y none := by
  have H1 : Hid (∀ X, w.grownBy X none → IntsAt X a1 l ∧ IntsAt X a2 l) := fun X hX => ⟨h1.kept hX, h2.kept hX⟩
  obtain ⟨n, he⟩ : ∃ n, n = l.length := ⟨_, rfl⟩
  have HE : Hid (n = l.length) := he
  rw [← he] at hn
  rw [← he]
  have hnn : ((n : Int) != (n : Int)) = false := bne_self_eq_false _
  clear h1 h2 he
  go_enter Tryd.func13, Tryd.ntmps13
  go_wp2_with fail
  go_loopg [5] n (fun gk v5 wr => ∃ (j : Nat), j ≤ n ∧ gk = n - j ∧ v5 = .int .i64 j ∧ w.grownBy wr none)
  case atStart => exact ⟨0, Nat.zero_le _, rfl, rfl, grown_refl _ _⟩
  case round =>
    obtain ⟨j, hj, hgj, rfl, hg⟩ := hrel
    have HGJ : Hid (gk = n - j) := hgj
    have HG : Hid (w.grownBy wr none) := hg
    clear hgj hg
    by_cases hjl : j < n
    · have hjl2 : j < l.length := by rw [← HE.out]; exact hjl
      obtain ⟨ab, ao, rfl, hc1⟩ : ∃ ab ao, a1 = some ⟨ab, ao, none⟩ ∧ wr.cell? ⟨ab, ao + j, none⟩ = some (.int .i64 (l.getD j 0)) := by
        rcases (H1.out wr HG.out).1 with h | ⟨ab, ao, e, h⟩
        · rw [h] at hjl2; cases hjl2
        · exact ⟨ab, ao, e, h j hjl2⟩
      obtain ⟨bb, bo, rfl, hc2⟩ : ∃ ab ao, a2 = some ⟨ab, ao, none⟩ ∧ wr.cell? ⟨ab, ao + j, none⟩ = some (.int .i64 (l.getD j 0)) := by
        rcases (H1.out wr HG.out).2 with h | ⟨ab, ao, e, h⟩
        · rw [h] at hjl2; cases hjl2
        · exact ⟨ab, ao, e, h j hjl2⟩
      obtain ⟨x, hx⟩ : ∃ x, x = l.getD j 0 := ⟨_, rfl⟩
      rw [← hx] at hc1 hc2
      have hxx : (x != x) = false := bne_self_eq_false _
      have hj0 : (0 : Int) ≤ (j : Int) := by omega
      have hj1 : (j : Int) < (n : Int) := by omega
      have hjd : decide (j < n) = true := decide_eq_true hjl
      clear hx
      go_wp2_with fail
      go_quiet (fail)
      go_wp2_with fail
      go_roundg (n - (j + 1))
      case measure => have := HGJ.out; omega
      case rel => exact ⟨j + 1, by omega, rfl, by go_num, by first | exact HG.out | exact grown_trans HG.out (grown_drewN _ _)⟩
    · have hjn : n = j := by omega
      subst hjn
      have hjd : decide (n < n) = false := decide_eq_false (by omega)
      go_wp2_with fail
      go_ret
      exact ⟨rfl, HG.out⟩


set_option maxRecDepth 100000 in
theorem lists_same (a1 a2 : Option Addr) (c1 c2 n : Nat) (Q : Nat → List Int) (u1 u2 : Nat → Option Addr) (k1 k2 : Nat → Nat) (w : World) (h1 : LsAt w a1 n Q u1 k1) (h2 : LsAt w a2 n Q u2 k2) (hn : n ≤ 1000000) (hQ : ∀ i, (Q i).length ≤ 1024) :
    Calls Tryd.prog 8 #[.slice a1 n c1, .slice a2 n c2] w fun e y => e = .returned (.bool true) ∧ w.grownBy y none := by
  have H1 : Hid (∀ X, w.grownBy X none → LsAt X a1 n Q u1 k1 ∧ LsAt X a2 n Q u2 k2) := fun X hX => ⟨h1.kept hX, h2.kept hX⟩
  have HQ : Hid (∀ i, (Q i).length ≤ 1024) := hQ
  have hnn : ((n : Int) != (n : Int)) = false := bne_self_eq_false _
  clear h1 h2 hQ
  go_enter Tryd.func8, Tryd.ntmps8
  go_wp2_with fail
  go_loopg [5] n (fun gk v5 wr => ∃ (j : Nat), j ≤ n ∧ gk = n - j ∧ v5 = .int .i64 j ∧ w.grownBy wr none)
  case atStart => exact ⟨0, Nat.zero_le _, rfl, rfl, grown_refl _ _⟩
  case round =>
    obtain ⟨j, hj, hgj, rfl, hg⟩ := hrel
    have HGJ : Hid (gk = n - j) := hgj
    have HG : Hid (w.grownBy wr none) := hg
    clear hgj hg
    by_cases hjl : j < n
    · obtain ⟨ab, rfl, hc1⟩ : ∃ ab, a1 = some ⟨ab, 0, none⟩ ∧ wr.cell? ⟨ab, j, none⟩ = some (.slice (u1 j) (Q j).length (k1 j)) := by
        rcases (H1.out wr HG.out).1.1 with h | ⟨k, e, h⟩
        · omega
        · exact ⟨k, e, h j hjl⟩
      obtain ⟨bb, rfl, hc2⟩ : ∃ ab, a2 = some ⟨ab, 0, none⟩ ∧ wr.cell? ⟨ab, j, none⟩ = some (.slice (u2 j) (Q j).length (k2 j)) := by
        rcases (H1.out wr HG.out).2.1 with h | ⟨k, e, h⟩
        · omega
        · exact ⟨k, e, h j hjl⟩
      have HIN : Hid (∀ X, wr.grownBy X none → Calls Tryd.prog 13 #[.slice (u1 j) (Q j).length (k1 j), .slice (u2 j) (Q j).length (k2 j)] X fun e y => e = .returned (.bool true) ∧ X.grownBy y none) := fun X hX => ints_same _ _ _ _ (Q j) X (((H1.out wr HG.out).1.2 j hjl).kept hX) (((H1.out wr HG.out).2.2 j hjl).kept hX) (Nat.le_trans (HQ.out j) (by decide))
      obtain ⟨ql, hql⟩ : ∃ q, q = (Q j).length := ⟨_, rfl⟩
      rw [← hql] at HIN hc1 hc2
      have hj0 : (0 : Int) ≤ (j : Int) := by omega
      have hj1 : (j : Int) < (n : Int) := by omega
      have hjd : decide (j < n) = true := decide_eq_true hjl
      clear hql
      go_wp2_with fail
      have HUP : Hid (wr.grownBy wr.drew none) := grown_drewN wr 1
      have HKS : Hid (∀ X, wr.grownBy X none → X.cell? ⟨ab, j, none⟩ = some (.slice (u1 j) ql (k1 j)) ∧ X.cell? ⟨bb, j, none⟩ = some (.slice (u2 j) ql (k2 j))) := fun X hX => ⟨hX.cell hc1 (by simp), hX.cell hc2 (by simp)⟩
      go_region_held3 (fun X => X.cell? ⟨ab, j, none⟩ = some (.slice (u1 j) ql (k1 j)) ∧ X.cell? ⟨bb, j, none⟩ = some (.slice (u2 j) ql (k2 j))) (first | exact HKS.out _ HUP.out | exact HKS.out _ HG4.out | go_keep)
        ((first
          | (go_at_call 13; refine Calls.mono (HIN.out _ HUP.out) ?_; rintro e w3 ⟨rfl, hg3⟩; have HG4 : Hid (wr.grownBy w3 none) := grown_trans HUP.out hg3; clear hg3)
          | fail))
      have HG3 : Hid (w.grownBy w3 none) := grown_trans HG.out HG4.out
      clear hc1 hc2 HIN
      go_wp2_with fail
      go_roundg (n - (j + 1))
      case measure => have := HGJ.out; omega
      case rel => exact ⟨j + 1, by omega, rfl, by go_num, HG3.out⟩
    · have hjn : n = j := by omega
      subst hjn
      have hjd : decide (n < n) = false := decide_eq_false (by omega)
      go_wp2_with fail
      go_ret
      exact ⟨rfl, HG.out⟩


end Go.Proofs.YtjijagnpcmonbaaDoor.J

/-
  digraph: areBelow.
-/
namespace Go.Proofs.YtjijagnpcmonbaaDoor.J
open Go.RowKit Go.Maps Go.Shelf

attribute [local go_sem] Oper.semAt_some

set_option maxRecDepth 100000 in
set_option maxHeartbeats 2000000 in
theorem below_any (bd : Int) (ea : Option Addr) (N ec : Nat) (Q : Nat → List Int) (ua : Nat → Option Addr) (uc : Nat → Nat) (w : World) (hL : LsAt w ea N Q ua uc) (hN : N ≤ 17592186044416) (hQ : ∀ i, i < N → (Q i).length ≤ 17592186044416) (r : Bool) (hr : r = true ↔ ∀ i, i < N → ∀ x ∈ Q i, 0 ≤ x ∧ x < bd) :
    Calls Tryd.prog 14 #[.int .i64 bd, .slice ea N ec] w fun e y => e = .returned (.bool r) ∧ y = w := by
  have HL := show Hid _ from hL
  have HQ := show Hid _ from hQ
  have HR : Hid (r = true ↔ ∀ i, i < N → ∀ x ∈ Q i, 0 ≤ x ∧ x < bd) := hr
  clear hL hQ hr
  go_enter Tryd.func14, Tryd.ntmps14
  go_wp2_with fail
  go_loopg [11] N (fun gk v11 wr => ∃ (i : Nat), i ≤ N ∧ gk = N - i ∧ v11 = .int .i64 i ∧ wr = w ∧ ∀ j, j < i → ∀ x ∈ Q j, 0 ≤ x ∧ x < bd)
  case atStart => exact ⟨0, Nat.zero_le _, rfl, rfl, rfl, fun j hj => absurd hj (Nat.not_lt_zero _)⟩
  case round =>
    obtain ⟨i, hi, hgk, rfl, hw, hA⟩ := hrel
    subst hw
    have HGK : Hid (gk = N - i) := hgk
    have HA : Hid (∀ j, j < i → ∀ x ∈ Q j, 0 ≤ x ∧ x < bd) := hA
    clear hgk hA
    by_cases hlt : i < N
    · have hid : decide (i < N) = true := decide_eq_true hlt
      have hi0 : (0 : Int) ≤ (i : Int) := by omega
      have hi1 : (i : Int) < (N : Int) := by omega
      obtain ⟨kb, hkb, hke, hkI⟩ : ∃ kb, ea = some ⟨kb, 0, none⟩ ∧ wr.cell? ⟨kb, i, none⟩ = some (.slice (ua i) (Q i).length (uc i)) ∧ IntsAt wr (ua i) (Q i) := by
        obtain ⟨h1, h2⟩ := HL.out
        rcases h1 with h1 | ⟨kb, e, h1⟩
        · omega
        · exact ⟨kb, e, h1 i hlt, h2 i hlt⟩
      subst hkb
      obtain ⟨m, hm⟩ : ∃ m, m = (Q i).length := ⟨_, rfl⟩
      obtain ⟨uai, huai⟩ : ∃ m, m = ua i := ⟨_, rfl⟩
      obtain ⟨uci, huci⟩ : ∃ m, m = uc i := ⟨_, rfl⟩
      rw [← hm, ← huai, ← huci] at hke
      rw [← huai] at hkI
      have HM : Hid (m = (Q i).length) := hm
      have hmb : m ≤ 17592186044416 := by rw [hm]; exact HQ.out i hlt
      have HKI := show Hid _ from hkI
      clear hm huai huci hkI
      go_wp2_with fail
      go_loopg [17] m (fun gk v17 wr' => ∃ (j : Nat), j ≤ m ∧ gk = m - j ∧ v17 = .int .i64 j ∧ wr' = wr ∧ ∀ k, k < j → 0 ≤ (Q i).getD k 0 ∧ (Q i).getD k 0 < bd)
      case atStart => exact ⟨0, Nat.zero_le _, rfl, rfl, rfl, fun j hj => absurd hj (Nat.not_lt_zero _)⟩
      case round =>
        obtain ⟨j, hj, hgj, rfl, hw, hB⟩ := hrel
        subst hw
        have HGJ : Hid (gk = m - j) := hgj
        have HB : Hid (∀ k, k < j → 0 ≤ (Q i).getD k 0 ∧ (Q i).getD k 0 < bd) := hB
        clear hgj hB
        by_cases hjl : j < m
        · have hjd : decide (j < m) = true := decide_eq_true hjl
          have hj0 : (0 : Int) ≤ (j : Int) := by omega
          have hj1 : (j : Int) < (m : Int) := by omega
          have hjl2 : j < (Q i).length := by rw [← HM.out]; exact hjl
          obtain ⟨rb, ro, hrb, c0⟩ : ∃ rb ro, uai = some ⟨rb, ro, none⟩ ∧ wr.cell? ⟨rb, ro + j, none⟩ = some (.int .i64 ((Q i).getD j 0)) := by
            rcases HKI.out with h | ⟨rb, ro, e, h⟩
            · rw [h] at hjl2; cases hjl2
            · exact ⟨rb, ro, e, h j hjl2⟩
          subst hrb
          have hxm : (Q i).getD j 0 ∈ Q i := by rw [List.getD_eq_getElem?_getD, List.getElem?_eq_getElem hjl2]; exact List.getElem_mem hjl2
          obtain ⟨x, hx⟩ : ∃ x, x = (Q i).getD j 0 := ⟨_, rfl⟩
          have HX : Hid (x = (Q i).getD j 0) := hx
          rw [← hx] at c0 hxm
          clear hx
          by_cases h0 : x < 0
          · have hd0 : decide (x < 0) = true := decide_eq_true h0
            have HF : Hid (false = r) := by
              show _ = _
              cases hrr : r with
              | false => rfl
              | true => have := HR.out.1 hrr i hlt x hxm; omega
            clear h0 hxm
            go_wp2_with fail
            go_ret
            exact ⟨congrArg (fun b => Ending.returned (Value.bool b)) HF.out, rfl⟩
          · have hd0 : decide (x < 0) = false := decide_eq_false h0
            by_cases h1 : x < bd
            · have hd1 : decide (bd ≤ x) = false := decide_eq_false (by omega)
              have HB2 : Hid (∀ k, k < j + 1 → 0 ≤ (Q i).getD k 0 ∧ (Q i).getD k 0 < bd) := fun k hk => by
                by_cases e : k = j
                · rw [e, ← HX.out]; exact ⟨by omega, h1⟩
                · exact HB.out k (by omega)
              clear h0 h1 hxm
              go_wp2_with fail
              go_roundg (m - (j + 1))
              case measure => have := HGJ.out; omega
              case rel => exact ⟨j + 1, by omega, rfl, by go_num, rfl, HB2.out⟩
            · have hd1 : decide (bd ≤ x) = true := decide_eq_true (by omega)
              have HF : Hid (false = r) := by
                show _ = _
                cases hrr : r with
                | false => rfl
                | true => have := HR.out.1 hrr i hlt x hxm; omega
              clear h0 h1 hxm
              go_wp2_with fail
              go_ret
              exact ⟨congrArg (fun b => Ending.returned (Value.bool b)) HF.out, rfl⟩
        · have hjm : m = j := by omega
          subst hjm
          have hjd : decide (m < m) = false := decide_eq_false (by omega)
          have HA2 : Hid (∀ j, j < i + 1 → ∀ x ∈ Q j, 0 ≤ x ∧ x < bd) := fun j hj x hx => by
            by_cases e : j = i
            · subst e
              obtain ⟨k, hk, e2⟩ := List.getElem_of_mem hx
              have := HB.out k (by rw [HM.out]; exact hk)
              rw [List.getD_eq_getElem?_getD, List.getElem?_eq_getElem hk, e2] at this
              exact this
            · exact HA.out j (by omega) x hx
          go_wp2_with fail
          go_roundg (N - (i + 1))
          case measure => have := HGK.out; omega
          case rel => exact ⟨i + 1, by omega, rfl, by go_num, rfl, HA2.out⟩
    · have hin : N = i := by omega
      subst hin
      have hid : decide (N < N) = false := decide_eq_false (by omega)
      have HF : Hid (true = r) := (HR.out.2 HA.out).symm
      go_wp2_with fail
      go_ret
      exact ⟨congrArg (fun b => Ending.returned (Value.bool b)) HF.out, rfl⟩

end Go.Proofs.YtjijagnpcmonbaaDoor.J

/-
  digraph: the least of some numbers (slices.Min).
-/
namespace Go.Proofs.YtjijagnpcmonbaaDoor.J
open Go.RowKit Go.Maps Go.Shelf

attribute [local go_sem] Oper.semAt_some

/-- The least of the first k + 1. -/
def minL (l : List Int) : Nat → Int
  | 0 => l.getD 0 0
  | k + 1 => min (minL l k) (l.getD (k + 1) 0)
theorem minL_spec (l : List Int) : ∀ k, k < l.length → minL l k ∈ l ∧ ∀ i, i ≤ k → minL l k ≤ l.getD i 0
  | 0, h => by
    refine ⟨?_, fun i hi => by have : i = 0 := by omega
                               subst this; exact Int.le_refl _⟩
    show l.getD 0 0 ∈ l
    rw [List.getD_eq_getElem?_getD, List.getElem?_eq_getElem h]; exact List.getElem_mem h
  | k + 1, h => by
    obtain ⟨h1, h2⟩ := minL_spec l k (by omega)
    have h3 : l.getD (k + 1) 0 ∈ l := by rw [List.getD_eq_getElem?_getD, List.getElem?_eq_getElem h]; exact List.getElem_mem h
    refine ⟨?_, fun i hi => ?_⟩
    · show min (minL l k) (l.getD (k + 1) 0) ∈ l
      by_cases e : minL l k ≤ l.getD (k + 1) 0
      · rw [Int.min_eq_left e]; exact h1
      · rw [Int.min_eq_right (by omega)]; exact h3
    · show min (minL l k) (l.getD (k + 1) 0) ≤ _
      by_cases e : i = k + 1
      · rw [e]; exact Int.min_le_right _ _
      · have := h2 i (by omega); have := Int.min_le_left (minL l k) (l.getD (k + 1) 0); omega

set_option maxRecDepth 100000 in
set_option maxHeartbeats 1000000 in
theorem min_any (a : Option Addr) (c n : Nat) (l : List Int) (w : World) (h : IntsAt w a l) (hn : n + 1 = l.length) (hb : n ≤ 17592186044416) :
    Calls Tryd.prog 17 #[.slice a (n + 1) c] w fun e y => e = .returned (.int .i64 (minL l n)) ∧ y = w := by
  obtain ⟨rb, ro, rfl, hc⟩ : ∃ rb ro, a = some ⟨rb, ro, none⟩ ∧ ∀ i, i < l.length → w.cell? ⟨rb, ro + i, none⟩ = some (.int .i64 (l.getD i 0)) := by
    rcases h with h | ⟨rb, ro, e, h⟩
    · rw [h] at hn; simp at hn
    · exact ⟨rb, ro, e, h⟩
  have HC := show Hid _ from hc
  have HN : Hid (n + 1 = l.length) := hn
  have c0 := hc 0 (by omega)
  rw [Nat.add_zero] at c0
  obtain ⟨x0, hx0⟩ : ∃ x, x = l.getD 0 0 := ⟨_, rfl⟩
  rw [← hx0] at c0
  have HX0 : Hid (x0 = minL l 0) := hx0
  clear h hn hc hx0
  go_enter Tryd.func17, Tryd.ntmps17
  go_wp2_with fail
  go_loopg [3, 4] n (fun gk v3 v4 wr => ∃ (i : Nat) (x : Int), i ≤ n ∧ gk = n - i ∧ v4 = .int .i64 ((i : Int) + 1) ∧ v3 = .int .i64 x ∧ x = minL l i ∧ wr = w)
  case atStart => exact ⟨0, x0, Nat.zero_le _, rfl, rfl, rfl, HX0.out, rfl⟩
  case round =>
    obtain ⟨i, x, hi, hgk, rfl, rfl, hx, hw⟩ := hrel
    subst hw
    have HGK : Hid (gk = n - i) := hgk
    have HX : Hid (x = minL l i) := hx
    clear hgk hx HX0 c0
    by_cases hlt : i < n
    · have hid : decide ((i : Int) + 1 < (n : Int) + 1) = true := decide_eq_true (by omega)
      have hid2 : decide (i + 1 < n + 1) = true := decide_eq_true (by omega)
      have hid3 : decide (i < n) = true := decide_eq_true hlt
      have hi0 : (0 : Int) ≤ (i : Int) + 1 := by omega
      have hi1 : (i : Int) + 1 < (n : Int) + 1 := by omega
      have hi2 : ((i : Int) + 1).toNat = i + 1 := by omega
      have hi3 : IntKind.i64.wrap ((i : Int) + 1 + 1) = (i : Int) + 1 + 1 := by rw [IntKind.wrap_i64]; omega
      have c1 := HC.out (i + 1) (by rw [← HN.out]; omega)
      obtain ⟨y, hy⟩ : ∃ y, y = l.getD (i + 1) 0 := ⟨_, rfl⟩
      rw [← hy] at c1
      have HY : Hid (min x y = minL l (i + 1)) := by
        show _ = min (minL l i) (l.getD (i + 1) 0)
        rw [HX.out, hy]
      clear hy
      go_wp2_with fail
      go_roundg (n - (i + 1))
      case measure => have := HGK.out; omega
      case rel => exact ⟨i + 1, _, by omega, rfl, by go_num, rfl, HY.out, rfl⟩
    · have hin : n = i := by omega
      subst hin
      have hid : decide ((n : Int) + 1 < (n : Int) + 1) = false := decide_eq_false (by omega)
      have hid2 : decide (n + 1 < n + 1) = false := decide_eq_false (by omega)
      go_wp2_with fail
      go_ret
      exact ⟨by rw [← HX.out]; rfl, rfl⟩

end Go.Proofs.YtjijagnpcmonbaaDoor.J

/-
  lr0: kernels, walked.
-/
namespace Go.Proofs.YtjijagnpcmonbaaDoor.J
open Go.RowKit Go.Maps Go.Shelf

attribute [local go_sem] Oper.semAt_some

end Go.Proofs.YtjijagnpcmonbaaDoor.J

/-
  lr0: Closure and Goto.
-/
namespace Go.Proofs.YtjijagnpcmonbaaDoor.J
open Go.RowKit Go.Maps Go.Shelf

attribute [local go_sem] Oper.semAt_some

structure MayOK (tn nn n : Nat) (st : Int) (L : Nat → Int) (R : Nat → List Int) (cl : Bool) : Prop where
  t0 : 0 < tn
  tmax : tn ≤ 65
  n0 : 0 < nn
  nmax : nn ≤ 65
  pmax : n ≤ 97
  p0 : 0 < n
  left : ∀ k, k < n → (tn : Int) ≤ L k ∧ L k < ((tn + nn : Nat) : Int)
  right : ∀ k, k < n → ∀ x ∈ R k, (0 : Int) < x ∧ x < ((tn + nn : Nat) : Int)
  start : (tn : Int) ≤ st ∧ st < ((tn + nn : Nat) : Int)
  added : cl = true → L 0 = tn ∧ R 0 = [st]

/-- Is x one of S symbols? -/
def symB (S : Nat) (x : Int) : Bool := decide (0 ≤ x) && decide (x < (S : Int))
section
variable (ta na la pa : Option Addr) (tc nc lc pc : Nat) (ts : List (ByteArray × Int)) (ns : List ByteArray) (lv : List Int) (n : Nat) (L : Nat → Int) (R : Nat → List Int) (ra : Nat → Option Addr) (rc : Nat → Nat) (V : Nat → Int) (st : Int) (w : World) (tn nn ln : Nat) (hlen : ts.length = tn ∧ ns.length = nn ∧ lv.length = ln) (hG : GAt w ta na la pa tc nc lc pc ts ns lv n L R ra rc V) (a : Option Addr) (cap : Nat) (I : List It) (hI : ItsAt w a I)
include hlen hG hI
end

end Go.Proofs.YtjijagnpcmonbaaDoor.J

/-
  lr0: the law's small grammar.
-/
namespace Go.Proofs.YtjijagnpcmonbaaDoor.J
open Go.RowKit Go.Maps Go.Shelf

attribute [local go_sem] Oper.semAt_some

def kTs : List (ByteArray × Int) := [(⟨#[]⟩, 0), (⟨#[43]⟩, 0), (⟨#[110]⟩, 0)]
def kNs : List ByteArray := [⟨#[]⟩, ⟨#[101]⟩]
def kL (i : Nat) : Int := if i = 0 then 3 else 4
def kR (i : Nat) : List Int := if i = 0 then [4] else if i = 1 then [4, 1, 2] else [2]

end Go.Proofs.YtjijagnpcmonbaaDoor.J

/-
  lr0: the law's small grammar is closed.
-/
namespace Go.Proofs.YtjijagnpcmonbaaDoor.J
open Go.RowKit Go.Maps Go.Shelf

end Go.Proofs.YtjijagnpcmonbaaDoor.J

/-
  lr0: the automaton of the law's small grammar, pure.
-/
namespace Go.Proofs.YtjijagnpcmonbaaDoor.J
open Go.RowKit Go.Maps Go.Shelf

def kCl (k : List It) : List It := if k = [(0, 0)] then [(0, 0), (1, 0), (2, 0)] else k
def kKs : List (List It) := [[(0, 0)], [(2, 1)], [(0, 1), (1, 1)], [(1, 2)], [(1, 3)]]
def kEs : List (List (Nat × Nat)) := [[(2, 1), (4, 2)], [], [(1, 3)], [(2, 4)], []]

end Go.Proofs.YtjijagnpcmonbaaDoor.J

/-
  A region of a function as a declaration of its own.
-/
namespace Go.Proofs.YtjijagnpcmonbaaDoor.J
open Go.RowKit Go.Maps Go.Shelf

/-- The regions of a number. -/
def regionsJ (n : Nat) : Code → List Code
  | .region i ops b => if i = n then [.region i ops b] else []
  | .loop c => regionsJ n c
  | .seq a b => regionsJ n a ++ regionsJ n b
  | .block _ c => regionsJ n c
  | .scope c => regionsJ n c
  | .cond _ a b => regionsJ n a ++ regionsJ n b
  | _ => []
/-- The loops of a piece of code, the outer ahead of the inner. -/
def loopsJ : Code → List Code
  | .loop c => .loop c :: loopsJ c
  | .seq a b => loopsJ a ++ loopsJ b
  | .block _ c => loopsJ c
  | .scope c => loopsJ c
  | .cond _ a b => loopsJ a ++ loopsJ b
  | _ => []
def OnEndJ (P : Act → World → Prop) : Exit → Act → World → Prop
  | .normal, a, w => P a w
  | _, _, _ => False

end Go.Proofs.YtjijagnpcmonbaaDoor.J
