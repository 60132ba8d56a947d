import Derived.Test.YtgmljpkenipgjaaQdbcpfdejdllb
import Derived.Test.YtgmljpkenipgjaaQcmibdnfammdj
import Derived.Test.YtgmljpkenipgjaaQdbcepnhobgmb
import Derived.Deep.DeepAppendWide
import Derived.BigQuiet
import Derived.Test.YtgmljpkenipgjaaQbcofglccpmfn
import Derived.Test.YtgmljpkenipgjaaQgehhcgfoljml
import Derived.Deep.AppendLies
import Derived.Deep.RegionHeld3
import Derived.Deep.RegionLaw
import Derived.Test.YtgmljpkenipgjaaQjdpgjgiamlcc

/-
  lr0: rows of values; marks counted; append, wide.
-/
namespace Go.Proofs.Ytgmljpkenipgjaa.J
open Go.RowKit Go.Maps Go.Shelf

/-- A row of values, whole in block k. -/
def ValAt (w : World) (k len : Nat) (t : TypeId) (c : Nat → Value) : Prop := w.heap[k]? = some (.cells ((List.range len).map c).toArray t (0, 0))
section
variable {w w' : World} {k len : Nat} {t : TypeId} {c : Nat → Value}
theorem ValAt.cell (h : ValAt w k len t c) (i : Nat) (hi : i < len) : w.cell? ⟨k, i, none⟩ = some (c i) := by
  rw [cell_of_row _ _ _ _ _ _ h]; simp [hi]
theorem ValAt.free (h : ValAt w k len t c) (i : Nat) : w.frozen? ⟨k, i, none⟩ = false := frozen_of_row _ _ _ _ _ h
theorem ValAt.lt (h : ValAt w k len t c) : k < w.heap.size := (Array.getElem?_eq_some_iff.1 h).1
theorem ValAt.kept (h : ValAt w k len t c) (hg : w.grownBy w' none) : ValAt w' k len t c := (hg.block k h.lt (by simp)).trans h
theorem ValAt.at {b : Nat} (h : ValAt w k len t c) (hg : w.grownBy w' (some b)) (hne : k ≠ b) : ValAt w' k len t c := (hg.block k h.lt (by simpa using hne)).trans h
/-- The cells with one turned. -/
def put (c : Nat → Value) (x : Nat) (v : Value) : Nat → Value := fun i => if i = x then v else c i
theorem ValAt.set (h : ValAt w k len t c) (x : Nat) (v : Value) : ValAt (w.setCell ⟨k, x, none⟩ v) k len t (put c x v) := by
  unfold ValAt
  rw [heap_setCell_same _ _ _ _ _ _ h]
  congr 2
  apply Array.ext'
  apply List.ext_getElem?
  intro i
  simp only [Array.toList_setIfInBounds, List.getElem?_set, List.getElem?_map]
  by_cases hi : i < len
  · by_cases e : x = i
    · subst e; simp [hi, put]
    · have e2 : ¬ i = x := fun h => e h.symm
      simp [e, e2, hi, put]
  · by_cases e : x = i
    · subst e; simp [hi]
    · simp [e, hi]
end
theorem made_rowK {w1 : World} {B g n : Nat} {t : TypeId} {z : Value} (hz : z.cells = #[z]) (h : w1.ownsRow B t 1 (.slice (some ⟨g, 0, none⟩) n n) n (madeCells z.cells (n * 1)).toList) : ValAt w1 g n t (fun _ => z) := by
  rcases h.2 with ⟨h', _⟩ | ⟨g', cap, cur, hv, _, hh, _, _, hs, ht⟩
  · cases h'
  · simp only [Value.slice.injEq, Option.some.injEq, Addr.mk.injEq, and_true, true_and] at hv
    obtain ⟨rfl, rfl⟩ := hv
    have e : cur = ((List.range n).map fun _ => z).toArray := by
      apply Array.ext'
      rw [show cur.toList = cur.toList.take (n * 1) by rw [List.take_of_length_le (by simp; omega)], ht]
      rw [hz, toList_madeCells_one, Nat.mul_one]
      rw [List.map_const', List.length_range]
    unfold ValAt
    rw [hh, e]
theorem ValAt.ext {w : World} {k len : Nat} {t : TypeId} {c d : Nat → Value} (h : ValAt w k len t c) (e : ∀ i, i < len → c i = d i) : ValAt w k len t d := by
  unfold ValAt at *
  rw [h, List.map_congr_left fun i hi => e i (by simpa using hi)]

set_option maxRecDepth 100000 in
set_option maxHeartbeats 1000000 in

/-- One mark more. -/
def markT (f : Nat → Bool) (x : Nat) : Nat → Bool := fun i => if i = x then true else f i
/-- How many of the first n are not marked. -/
def unm : Nat → (Nat → Bool) → Nat
  | 0, _ => 0
  | n + 1, f => unm n f + (if f n then 0 else 1)
theorem wpList_append_srcW {w : World} {ops : Array Oper} {rest : List Oper} {o : Oper} {a : Act} {Q : Exit → Act → World → Prop} (hgd : o.guard = none) (s x : Operand) (t : TypeId)
    (ho : o.op = .call { callee := .builtin .append, args := #[s, x], argTypes := #[t, t] })
    (base : Nat) (e : TypeId) (i : TypeInfo) (z : Value) (size bytes : Nat) (ht : Try.prog.underlying t = some (.slice e)) (hi : Try.prog.info? e = some i) (hz : i.zero = some z)
    (hsize : i.size = size) (hby : i.bytes = bytes) (hzs : z.cells.size = size) (hsz : 0 < size)
    (v : Value) (n : Nat) (xs : List Value) (hs : a.eval s = v) (hown : w.ownsRow base e size v n xs)
    (xo : Option Addr) (m c : Nat) (news : List Value) (hx : a.eval x = .slice xo m c) (hnil : xo = none → m = 0 ∧ c = 0) (hl : news.length = m * size) (hnews : ∀ ad, xo = some ad → ∀ j u, news[j]? = some u → w.cell? (ad.add j) = some u) (h1 : ∀ u ∈ news, u.oneCell' = true)
    (h63 : n + m ≤ maxLen) (hbytes : ((n + m) + (n + m) / 4 + 192) * bytes ≤ 281474976710656) (hbase : base ≤ w.heap.size)
    (h : ∀ v' w', w'.ownsRow base e size v' (n + m) (xs ++ news) → w.grownBy w' v.ownBlock → wpList Try.prog ops Q rest (a.put o.dst v') w') : wpList Try.prog ops Q (o :: rest) a w := by
  refine wpList_plain hgd fun K hK => ?_
  cases xo with
  | some ad => exact wp_append_own_wide w s x t ho base e i z size bytes ht hi hz hsize hby hzs hsz v n xs hs hown ad m c news hx hl (hnews ad rfl) h1 h63 hbytes hbase fun v' w' h2 h3 _ => hK _ _ (h v' w' h2 h3)
  | none =>
    obtain ⟨rfl, rfl⟩ := hnil rfl
    have hn0 : news = [] := List.eq_nil_of_length_eq_zero (by simpa using hl)
    subst hn0
    have hrun := run_append_owned_none (P := Try.prog) (w := w) base t o.type e i size ht hi v n xs hown
    have hk := hK _ _ (h v w (by simpa using hown) ⟨rfl, rfl, rfl, Nat.le_refl _, fun _ _ _ => rfl⟩)
    unfold Oper.wp
    simp [execOp, ho, resolve, invoke, builtin, hs, hx, hrun, Result.andThen]
    exact hk


theorem its_cells {w : World} {a : Option Addr} {l : List It} (h : ItsAt w a l) : ∀ x, a = some x → ∀ j u, (itsV l)[j]? = some u → w.cell? (x.add j) = some u := by
  intro x hx j u hu
  rcases h with h | ⟨b, off, e, hc⟩
  · rw [h] at hu; simp [itsV] at hu
  · rw [hx] at e
    simp only [Option.some.injEq] at e
    subst e
    rw [Addr.add_mid]
    have hj : j < l.length * 2 := by have := (List.getElem?_eq_some_iff.1 hu).1; rwa [itsV_length] at this
    have h1 := hc (j / 2) (by omega)
    have h2 := itsV_at l (j / 2) (by omega)
    have hm : j % 2 = 0 ∨ j % 2 = 1 := by omega
    rcases hm with hm | hm
    · have e : j = j / 2 * 2 := by omega
      rw [← e] at h1 h2
      rw [h1.1, ← hu, h2.1]
    · have e : j = j / 2 * 2 + 1 := by omega
      rw [Nat.add_assoc, ← e] at h1
      rw [← e] at h2
      rw [h1.2, ← hu, h2.2]

end Go.Proofs.Ytgmljpkenipgjaa.J

/-
  Lists of numbers that are the same.
-/
namespace Go.Proofs.Ytgmljpkenipgjaa.J
open Go.RowKit Go.Maps Go.Shelf

attribute [local go_sem] Oper.semAt_some

/-- Lists of numbers in memory. -/
def LsAt (X : World) (a : Option Addr) (N : Nat) (Q : Nat → List Int) (ua : Nat → Option Addr) (uc : Nat → Nat) : Prop := (N = 0 ∨ ∃ k, a = some ⟨k, 0, none⟩ ∧ ∀ i, i < N → X.cell? ⟨k, i, none⟩ = some (.slice (ua i) (Q i).length (uc i))) ∧ ∀ i, i < N → IntsAt X (ua i) (Q i)
theorem LsAt.kept {X Y : World} {a : Option Addr} {N : Nat} {Q : Nat → List Int} {ua : Nat → Option Addr} {uc : Nat → Nat} (h : LsAt X a N Q ua uc) (hg : X.grownBy Y none) : LsAt Y a N Q ua uc := by
  refine ⟨?_, fun i hi => (h.2 i hi).kept hg⟩
  rcases h.1 with h | ⟨k, e, h1⟩
  · exact .inl h
  · exact .inr ⟨k, e, fun i hi => hg.cell (h1 i hi) (by simp)⟩


end Go.Proofs.Ytgmljpkenipgjaa.J

/-
  pack: the document's isRow and fits.
-/
namespace Go.Proofs.Ytgmljpkenipgjaa.J
open Go.RowKit Go.Maps Go.Shelf Pk

attribute [local go_sem] Oper.semAt_some

theorem RowTo.pre {l : List Ed} {k m : Nat} (h : RowTo l m) (hk : k ≤ m) : RowTo l k := by
  have e : l.take k = (l.take m).take k := by rw [List.take_take, Nat.min_eq_left hk]
  refine ⟨fun a ha => h.1 a ?_, ?_⟩
  · rw [e] at ha; exact List.mem_of_mem_take ha
  · rw [e, List.map_take]; exact h.2.sublist (List.take_sublist _ _)

theorem infoBoolP : (Try.prog.info? 4).map (fun i => (i.zero, i.size, i.bytes)) = some (some (.bool false), 1, 1) := by kernel_rfl

end Go.Proofs.Ytgmljpkenipgjaa.J

/-
  pack: the document's fits.
-/
namespace Go.Proofs.Ytgmljpkenipgjaa.J
open Go.RowKit Go.Maps Go.Shelf Pk

attribute [local go_sem] Oper.semAt_some

theorem fitsB_append (ow : List Int) (l m : List Ed) (b : Nat) : fitsB ow (l ++ m) b = (fitsB ow l b && fitsB ow m b) := by unfold fitsB; rw [List.all_append]
theorem fitsB_false {ow : List Int} {l : List Ed} {b k : Nat} (h : fitsB ow (l.take k) b = false) : fitsB ow l b = false := by
  rw [← List.take_append_drop k l, fitsB_append, h, Bool.false_and]
theorem fitsB_one (ow : List Int) (e : Ed) (b : Nat) : fitsB ow [e] b = !(decide (b + e.1.toNat < ow.length) && decide (0 ≤ ow.getD (b + e.1.toNat) 0)) := by unfold fitsB; simp

end Go.Proofs.Ytgmljpkenipgjaa.J

/-
  pack: three rows of numbers in a box: bases, values, owners.
-/
namespace Go.Proofs.Ytgmljpkenipgjaa.J
open Go.RowKit Go.Maps Go.Shelf Pk

def zV (l : List Int) : List Value := l.map (Value.int .i64)
theorem zV_length (l : List Int) : (zV l).length = l.length := by unfold zV; simp
theorem zV_append (l m : List Int) : zV (l ++ m) = zV l ++ zV m := by unfold zV; simp
theorem zV_set (l : List Int) (q : Nat) (v : Int) : zV (l.set q v) = (zV l).set q (.int .i64 v) := by unfold zV; rw [List.map_set]
theorem zV_at {l : List Int} {q : Nat} (h : q < l.length) : (zV l)[q]? = some (.int .i64 (l.getD q 0)) := by
  unfold zV
  rw [List.getElem?_map, List.getElem?_eq_getElem h, List.getD_eq_getElem?_getD, List.getElem?_eq_getElem h]; rfl

/-- A function with one value turned. -/
def upZ {α : Type} (f : Nat → α) (k : Nat) (v : α) : Nat → α := fun i => if i = k then v else f i
theorem upZ_same {α : Type} (f : Nat → α) (k : Nat) (v : α) : upZ f k v k = v := if_pos rfl
theorem upZ_other {α : Type} (f : Nat → α) {k i : Nat} (v : α) (h : i ≠ k) : upZ f k v i = f i := if_neg h
theorem upZ_self {α : Type} (f : Nat → α) (k : Nat) : upZ f k (f k) = f := by
  funext i
  by_cases e : i = k
  · subst e; rw [upZ_same]
  · rw [upZ_other _ _ e]

/-- Rows of numbers, each in a block of its own. -/
structure TrZ (X : World) (B n : Nat) (Q : Nat → List Int) (ua : Nat → Option Addr) (uc : Nat → Nat) : Prop where
  inn : ∀ j, j < n → X.ownsRow B 3 1 (.slice (ua j) (Q j).length (uc j)) (Q j).length (zV (Q j))
  sep : ∀ i j, i < n → j < n → i ≠ j → (Value.slice (ua i) (Q i).length (uc i)).ownBlock = none ∨ (Value.slice (ua i) (Q i).length (uc i)).ownBlock ≠ (Value.slice (ua j) (Q j).length (uc j)).ownBlock
section
variable {X Y : World} {B n : Nat} {Q : Nat → List Int} {ua : Nat → Option Addr} {uc : Nat → Nat}
theorem TrZ.kept (h : TrZ X B n Q ua uc) (hg : X.grownBy Y none) : TrZ Y B n Q ua uc := ⟨fun j hj => keep0 (h.inn j hj) hg, h.sep⟩
/-- A block of another kind turns. -/
theorem TrZ.beside {b : Nat} {cs : Array Value} {t : TypeId} (h : TrZ X B n Q ua uc) (hb : X.heap[b]? = some (.cells cs t (0, 0))) (ht : t ≠ 3) (hg : X.grownBy Y (some b)) : TrZ Y B n Q ua uc := ⟨fun j hj => (h.inn j hj).kept hg (by
  rcases (h.inn j hj).2 with ⟨hv, _⟩ | ⟨g, cap, cur, hv, _, hh, _⟩
  · rw [hv]; exact .inl rfl
  · rw [hv]
    right
    intro e2
    have e3 : g = b := by simpa [Value.ownBlock] using e2
    subst e3
    rw [hb] at hh
    simp only [Option.some.injEq, Obj.cells.injEq] at hh
    exact ht hh.2.1), h.sep⟩
/-- One of the rows turns. -/
theorem TrZ.turn {f c' m : Nat} {a' : Option Addr} {L' : List Int} (h : TrZ X B n Q ua uc) (hf : f < n) (hm : m = L'.length) (hg : X.grownBy Y (Value.slice (ua f) (Q f).length (uc f)).ownBlock) (ho : Y.ownsRow B 3 1 (.slice a' m c') m (zV L')) (hat : ∀ g, (Value.slice a' m c').ownBlock = some g → (Value.slice (ua f) (Q f).length (uc f)).ownBlock = some g ∨ X.heap.size ≤ g) : TrZ Y B n (upZ Q f L') (upZ ua f a') (upZ uc f c') := by
  subst hm
  have key : ∀ k, k < n → k ≠ f → ∀ g, (Value.slice a' L'.length c').ownBlock = some g → (Value.slice (ua k) (Q k).length (uc k)).ownBlock ≠ some g := fun k hk e g hgg h2 => by
    rcases hat g hgg with h1 | h1
    · rcases h.sep k f hk hf e with h3 | h3
      · rw [h3] at h2; cases h2
      · exact h3 (h2.trans h1.symm)
    · have := ((h.inn k hk).lt g h2).2
      omega
  refine ⟨fun j hj => ?_, fun i j hi hj e => ?_⟩
  · by_cases e : j = f
    · subst e
      rw [upZ_same, upZ_same, upZ_same]
      exact ho
    · rw [upZ_other _ _ e, upZ_other _ _ e, upZ_other _ _ e]
      exact (h.inn j hj).kept hg (h.sep j f hj hf e)
  · by_cases e1 : i = f
    · subst e1
      have e2 : j ≠ i := fun h => e h.symm
      rw [upZ_same, upZ_same, upZ_same, upZ_other _ _ e2, upZ_other _ _ e2, upZ_other _ _ e2]
      cases hv : (Value.slice a' L'.length c').ownBlock with
      | none => exact .inl rfl
      | some g => exact .inr fun h2 => key j hj e2 g hv h2.symm
    · rw [upZ_other _ _ e1, upZ_other _ _ e1, upZ_other _ _ e1]
      by_cases e2 : j = f
      · subst e2
        rw [upZ_same, upZ_same, upZ_same]
        cases hv : (Value.slice (ua i) (Q i).length (uc i)).ownBlock with
        | none => exact .inl rfl
        | some g => exact .inr fun h2 => key i hi e1 g h2.symm hv
      · rw [upZ_other _ _ e2, upZ_other _ _ e2, upZ_other _ _ e2]
        exact h.sep i j hi hj e
/-- A number of a row turns. -/
theorem TrZ.put {f g q : Nat} (h : TrZ X B n Q ua uc) (hf : f < n) (ha : ua f = some ⟨g, 0, none⟩) (v : Int) : TrZ (X.setCell ⟨g, q, none⟩ (.int .i64 v)) B n (upZ Q f ((Q f).set q v)) ua uc := by
  have h0 := h.inn f hf
  rw [ha] at h0
  have h1 := owns_set (j := q) h0 (.int .i64 v)
  rw [← zV_set] at h1
  have e : (Value.slice (ua f) (Q f).length (uc f)).ownBlock = some g := by rw [ha]; rfl
  have h2 := h.turn (Y := X.setCell ⟨g, q, none⟩ (.int .i64 v)) (L' := (Q f).set q v) (a' := some ⟨g, 0, none⟩) (c' := uc f) hf rfl (by rw [e]; exact grown_setCell _ _ _) (by rw [List.length_set]; exact h1) (fun g2 hg2 => .inl (by rw [e]; simpa [Value.ownBlock] using hg2))
  have e1 : upZ ua f (some ⟨g, 0, none⟩) = ua := by rw [← ha]; exact upZ_self ua f
  have e2 : upZ uc f (uc f) = uc := upZ_self uc f
  rw [e1, e2] at h2
  exact h2
theorem TrZ.ext {Q' : Nat → List Int} (h : TrZ X B n Q ua uc) (e : ∀ j, j < n → Q j = Q' j) : TrZ X B n Q' ua uc :=
  ⟨fun j hj => by rw [← e j hj]; exact h.inn j hj, fun i j hi hj hne => by rw [← e i hi, ← e j hj]; exact h.sep i j hi hj hne⟩
theorem TrZ.ints (h : TrZ X B n Q ua uc) {j : Nat} (hj : j < n) : IntsAt X (ua j) (Q j) := by
  rcases (h.inn j hj).2 with ⟨hv, h0⟩ | ⟨g, cap, cur, hv, _, hh, _, _, hs, ht⟩
  · exact .inl (List.eq_nil_of_length_eq_zero h0)
  · simp only [Value.slice.injEq] at hv
    refine .inr ⟨g, 0, hv.1, fun i hi => ?_⟩
    rw [Nat.zero_add]
    have h1 := h.inn j hj
    rw [hv.1] at h1
    exact owns_cell h1 (zV_at hi)
end

/-- The box: bases, values, owners. -/
structure LyAt (w X : World) (rb : Nat) (Q : Nat → List Int) (ua : Nat → Option Addr) (uc : Nat → Nat) : Prop where
  grown : w.grownBy X none
  res : X.heap[w.heap.size]? = some (.cells #[.slice none 0 0, .slice none 0 0, .slice none 0 0] 26 (0, 0))
  box : X.heap[rb]? = some (.cells #[.slice (ua 0) (Q 0).length (uc 0), .slice (ua 1) (Q 1).length (uc 1), .slice (ua 2) (Q 2).length (uc 2)] 26 (0, 0))
  rows : TrZ X w.heap.size 3 Q ua uc
  lo : w.heap.size < rb
section
variable {w X Y : World} {rb : Nat} {Q : Nat → List Int} {ua : Nat → Option Addr} {uc : Nat → Nat}
theorem LyAt.kept (h : LyAt w X rb Q ua uc) (hg : X.grownBy Y none) : LyAt w Y rb Q ua uc := ⟨grown_trans h.grown hg, box_kept h.res hg, box_kept h.box hg, h.rows.kept hg, h.lo⟩
theorem LyAt.cell (h : LyAt w X rb Q ua uc) : X.cell? ⟨rb, 0, none⟩ = some (.slice (ua 0) (Q 0).length (uc 0)) ∧ X.cell? ⟨rb, 1, none⟩ = some (.slice (ua 1) (Q 1).length (uc 1)) ∧ X.cell? ⟨rb, 2, none⟩ = some (.slice (ua 2) (Q 2).length (uc 2)) :=
  ⟨by rw [cell_of_row _ _ _ _ _ _ h.box]; rfl, by rw [cell_of_row _ _ _ _ _ _ h.box]; rfl, by rw [cell_of_row _ _ _ _ _ _ h.box]; rfl⟩
theorem LyAt.free (h : LyAt w X rb Q ua uc) (o : Nat) : X.frozen? ⟨rb, o, none⟩ = false := frozen_of_row _ _ _ _ _ h.box
/-- A box of one's own stays where one of the rows turns. -/
theorem LyAt.boxes (h : LyAt w X rb Q ua uc) {f b : Nat} (hf : f < 3) {cs : Array Value} {t : TypeId} (hb : X.heap[b]? = some (.cells cs t (0, 0))) (ht : t ≠ 3) (hg : X.grownBy Y (Value.slice (ua f) (Q f).length (uc f)).ownBlock) : Y.heap[b]? = some (.cells cs t (0, 0)) := by
  rw [hg.block b (Array.getElem?_eq_some_iff.1 hb).1 ?_]
  · exact hb
  · rcases (h.rows.inn f hf).2 with ⟨hv, _⟩ | ⟨g, cap, cur, hv, _, hh, _⟩
    · rw [hv]; simp [Value.ownBlock]
    · rw [hv]
      intro e2
      have e3 : g = b := Eq.symm (by simpa [Value.ownBlock] using e2)
      subst e3
      rw [hb] at hh
      simp only [Option.some.injEq, Obj.cells.injEq] at hh
      exact ht hh.2.1
theorem LyAt.news (h : LyAt w X rb Q ua uc) {f : Nat} (hf : f < 3) (hg : X.grownBy Y (Value.slice (ua f) (Q f).length (uc f)).ownBlock) : w.grownBy Y none := by
  cases hv : (Value.slice (ua f) (Q f).length (uc f)).ownBlock with
  | none => rw [hv] at hg; exact grown_trans h.grown hg
  | some g => rw [hv] at hg; exact grown_new h.grown hg ((h.rows.inn f hf).lt g hv).1
/-- One of the rows turns, and the box is told. -/
theorem LyAt.turn {f c' m : Nat} {a' : Option Addr} {L' : List Int} (h : LyAt w X rb Q ua uc) (hf : f < 3) (hm : m = L'.length) (hg : X.grownBy Y (Value.slice (ua f) (Q f).length (uc f)).ownBlock) (ho : Y.ownsRow w.heap.size 3 1 (.slice a' m c') m (zV L')) (hat : ∀ g, (Value.slice a' m c').ownBlock = some g → (Value.slice (ua f) (Q f).length (uc f)).ownBlock = some g ∨ X.heap.size ≤ g) :
    LyAt w (Y.setCell ⟨rb, f, none⟩ (.slice a' m c')) rb (upZ Q f L') (upZ ua f a') (upZ uc f c') := by
  have hY := h.boxes hf h.box (by decide) hg
  have hR := h.boxes hf h.res (by decide) hg
  have hn := h.news hf hg
  have gs : Y.grownBy (Y.setCell ⟨rb, f, none⟩ (.slice a' m c')) (some rb) := grown_setCell _ _ _
  refine ⟨grown_new hn gs (by have := h.lo; omega), ?_, ?_, (h.rows.turn hf hm hg ho hat).beside hY (by decide) gs, h.lo⟩
  · rw [gs.block _ (Array.getElem?_eq_some_iff.1 hR).1 (by have := h.lo; simp; omega)]; exact hR
  · rw [heap_setCell_same _ _ _ _ _ _ hY]
    subst hm
    match f, hf with
    | 0, _ => rfl
    | 1, _ => rfl
    | 2, _ => rfl
/-- A number of a row turns. -/
theorem LyAt.put {f g q : Nat} (h : LyAt w X rb Q ua uc) (hf : f < 3) (ha : ua f = some ⟨g, 0, none⟩) (v : Int) : LyAt w (X.setCell ⟨g, q, none⟩ (.int .i64 v)) rb (upZ Q f ((Q f).set q v)) ua uc := by
  have e : (Value.slice (ua f) (Q f).length (uc f)).ownBlock = some g := by rw [ha]; rfl
  have hg : X.grownBy (X.setCell ⟨g, q, none⟩ (.int .i64 v)) (Value.slice (ua f) (Q f).length (uc f)).ownBlock := by rw [e]; exact grown_setCell _ _ _
  have hl : ∀ j, (upZ Q f ((Q f).set q v) j).length = (Q j).length := fun j => by
    by_cases e : j = f
    · subst e; rw [upZ_same, List.length_set]
    · rw [upZ_other _ _ e]
  refine ⟨h.news hf hg, h.boxes hf h.res (by decide) hg, ?_, h.rows.put hf ha v, h.lo⟩
  rw [hl, hl, hl]
  exact h.boxes hf h.box (by decide) hg
end

end Go.Proofs.Ytgmljpkenipgjaa.J

/-
  append onto a row of one's own, wide, and where the new slice lies.
-/
namespace Go.Proofs.Ytgmljpkenipgjaa.J
open Go.RowKit Go.Maps Go.Shelf

section
variable {P : Program} (w : World)
theorem run_append_liesW (t ty : TypeId) (base : Nat) (e : TypeId) (i : TypeInfo) (z : Value) (size bytes : Nat) (ht : P.underlying t = some (.slice e)) (hi : P.info? e = some i) (hz : i.zero = some z)
    (hsize : i.size = size) (hby : i.bytes = bytes) (hzs : z.cells.size = size) (hsz : 0 < size)
    (v : Value) (n : Nat) (xs : List Value) (hown : w.ownsRow base e size v n xs)
    (ad : Addr) (m c : Nat) (news : List Value) (hl : news.length = m * size) (hnews : ∀ j u, news[j]? = some u → w.cell? (ad.add j) = some u) (h1 : ∀ u ∈ news, u.oneCell' = true)
    (hm : 0 < m) (h63 : n + m ≤ maxLen) (hbytes : ((n + m) + (n + m) / 4 + 192) * bytes ≤ 281474976710656) (hbase : base ≤ w.heap.size) :
    ∃ g cap w', (Builtin.append_ #[t, t] ty #[v, .slice (some ad) m c]).run P w = .ok (.slice (some ⟨g, 0, none⟩) (n + m) cap) w' ∧
      w'.ownsRow base e size (.slice (some ⟨g, 0, none⟩) (n + m) cap) (n + m) (xs ++ news) ∧ w.grownBy w' v.ownBlock ∧ (v.ownBlock = some g ∨ g = w.heap.size) := by
  obtain ⟨v', w', hr, h2, h3, _⟩ := run_append_own_wide (P := P) w base t ty e i z size bytes ht hi hz hsize hby hzs hsz v n xs hown ad m c news hl hnews h1 h63 hbytes hbase
  obtain ⟨g, cap, rfl, _, hlt⟩ := h2.form (by omega)
  refine ⟨g, cap, w', hr, h2, h3, ?_⟩
  subst hsize
  subst hby
  rcases hown.2 with ⟨rfl, rfl⟩ | ⟨g', cap', cur, rfl, hbg, hg, hnc, hcm, hcs, htake⟩
  · right
    have hr2 := run_append_nil (P := P) w t ty e i z ht hi hz ad m c news hl hnews hm (by simp only [maxLen] at h63; omega) (by have hb := hbytes; simp only [Nat.zero_add] at hb; exact Nat.le_trans (Nat.mul_le_mul_right _ (by omega)) hb)
    rw [hr] at hr2
    simp only [Result.ok.injEq, Value.slice.injEq, Option.some.injEq, Addr.mk.injEq] at hr2
    exact hr2.1.1.1
  · by_cases hroom : n + m ≤ cap'
    · left
      have hfit : n * i.size + news.length ≤ cur.size := by rw [hl, hcs, ← Nat.add_mul]; exact Nat.mul_le_mul_right _ hroom
      have hr2 := run_append_room (P := P) w t ty e i ht hi g' n cap' cur hg ad m c news hl hnews h1 hroom hfit
      rw [hr] at hr2
      simp only [Result.ok.injEq, Value.slice.injEq, Option.some.injEq, Addr.mk.injEq] at hr2
      rw [hr2.1.1.1]; rfl
    · right
      have holds : ∀ j u, xs[j]? = some u → w.cell? ((⟨g', 0, none⟩ : Addr).add j) = some u := hown.cells (g := g') rfl
      have hr2 := run_append_grow (P := P) w t ty e i z ht hi hz ⟨g', 0, none⟩ n cap' xs hown.1 holds ad m c news hl hnews (by omega) (by simp only [maxLen] at h63; omega) (growslice_fits_wide (by omega) hbytes)
      rw [hr] at hr2
      simp only [Result.ok.injEq, Value.slice.injEq, Option.some.injEq, Addr.mk.injEq] at hr2
      exact hr2.1.1.1

theorem wp_append_liesW {o : Oper} {a : Act} {K : Act → World → Prop} {Q : Exit → Act → World → Prop} (s x : Operand) (t : TypeId)
    (ho : o.op = .call { callee := .builtin .append, args := #[s, x], argTypes := #[t, t] })
    (base : Nat) (e : TypeId) (i : TypeInfo) (z : Value) (size bytes : Nat) (ht : P.underlying t = some (.slice e)) (hi : P.info? e = some i) (hz : i.zero = some z)
    (hsize : i.size = size) (hby : i.bytes = bytes) (hzs : z.cells.size = size) (hsz : 0 < size)
    (v : Value) (n : Nat) (xs : List Value) (hs : a.eval s = v) (hown : w.ownsRow base e size v n xs)
    (ad : Addr) (m c : Nat) (news : List Value) (hx : a.eval x = .slice (some ad) m c) (hl : news.length = m * size) (hnews : ∀ j u, news[j]? = some u → w.cell? (ad.add j) = some u) (h1 : ∀ u ∈ news, u.oneCell' = true)
    (hm : 0 < m) (h63 : n + m ≤ maxLen) (hbytes : ((n + m) + (n + m) / 4 + 192) * bytes ≤ 281474976710656) (hbase : base ≤ w.heap.size)
    (h : ∀ g cap w', w'.ownsRow base e size (.slice (some ⟨g, 0, none⟩) (n + m) cap) (n + m) (xs ++ news) → w.grownBy w' v.ownBlock → (v.ownBlock = some g ∨ g = w.heap.size) → K (a.put o.dst (.slice (some ⟨g, 0, none⟩) (n + m) cap)) w') : o.wp P a w K Q := by
  obtain ⟨g, cap, w', hr, h2, h3, h4⟩ := run_append_liesW (P := P) w t o.type base e i z size bytes ht hi hz hsize hby hzs hsz v n xs hown ad m c news hl hnews h1 hm h63 hbytes hbase
  unfold Oper.wp execOp
  simp only [ho, resolve, invoke, builtin, Sem.run_bind, Sem.run_pure, Result.andThen_ok, List.map_toArray, List.map_cons, List.map_nil, hs, hx, hr]
  exact h g cap w' h2 h3 h4

theorem step_append_liesW {ops : Array Oper} {o : Oper} {a : Act} {K : Act → World → Prop} {Q : Exit → Act → World → Prop} {E : Prop} (hgd : o.guard = none) (s x : Operand) (t : TypeId)
    (ho : o.op = .call { callee := .builtin .append, args := #[s, x], argTypes := #[t, t] })
    (base : Nat) (e : TypeId) (i : TypeInfo) (z : Value) (size bytes : Nat) (ht : P.underlying t = some (.slice e)) (hi : P.info? e = some i) (hz : i.zero = some z)
    (hsize : i.size = size) (hby : i.bytes = bytes) (hzs : z.cells.size = size) (hsz : 0 < size)
    (v : Value) (n : Nat) (xs : List Value) (hs : a.eval s = v) (hown : w.ownsRow base e size v n xs)
    (ad : Addr) (m c : Nat) (news : List Value) (hx : a.eval x = .slice (some ad) m c) (hl : news.length = m * size) (hnews : ∀ j u, news[j]? = some u → w.cell? (ad.add j) = some u) (h1 : ∀ u ∈ news, u.oneCell' = true)
    (hm : 0 < m) (h63 : n + m ≤ maxLen) (hbytes : ((n + m) + (n + m) / 4 + 192) * bytes ≤ 281474976710656) (hbase : base ≤ w.heap.size)
    (h : ∀ g cap w', w'.ownsRow base e size (.slice (some ⟨g, 0, none⟩) (n + m) cap) (n + m) (xs ++ news) → w.grownBy w' v.ownBlock → (v.ownBlock = some g ∨ g = w.heap.size) → K (a.put o.dst (.slice (some ⟨g, 0, none⟩) (n + m) cap)) w') :
    if Region.wanted o (yielded ops a.tmps) = true then Oper.wp P o a w K Q else E := by
  have hw : Region.wanted o (yielded ops a.tmps) = true := by simp [Region.wanted, hgd]
  rw [if_pos hw]
  exact wp_append_liesW w s x t ho base e i z size bytes ht hi hz hsize hby hzs hsz v n xs hs hown ad m c news hx hl hnews h1 hm h63 hbytes hbase h
end

end Go.Proofs.Ytgmljpkenipgjaa.J

/-
  lr0: the document's SameItems; items laid in order, pure.
-/
namespace Go.Proofs.Ytgmljpkenipgjaa.J
open Go.RowKit Go.Maps Go.Shelf

attribute [local go_sem] Oper.semAt_some

theorem ItsAt.at {X : World} {a : Option Addr} {l : List It} (h : ItsAt X a l) {i : Nat} (hi : i < l.length) : ∃ b off, a = some ⟨b, off, none⟩ ∧ X.cell? ⟨b, off + i * 2, none⟩ = some (.int .i64 (l.getD i (0, 0)).1) ∧ X.cell? ⟨b, off + i * 2 + 1, none⟩ = some (.int .i64 (l.getD i (0, 0)).2) := by
  rcases h with h | ⟨b, off, e, h⟩
  · rw [h] at hi; cases hi
  · exact ⟨b, off, e, h i hi⟩

/-- Where x belongs in a list in order. -/
structure Spot (x : It) (l : List It) (k : Nat) : Prop where
  le : k ≤ l.length
  lt : ∀ j, j < k → ltI (l.getD j (0, 0)) x
  ge : k < l.length → ¬ ltI (l.getD k (0, 0)) x
end Go.Proofs.Ytgmljpkenipgjaa.J

/-
  lr0: closures in memory.
-/
namespace Go.Proofs.Ytgmljpkenipgjaa.J
open Go.RowKit Go.Maps Go.Shelf

attribute [local go_sem] Oper.semAt_some

section
variable {w X Y : World} {cs : Array Value} {mb S : Nat} {b : Nat → Bool} {a : Option Addr} {q c : Nat} {A : List It}
end

end Go.Proofs.Ytgmljpkenipgjaa.J

/-
  lr0: what items bring along, in memory; bring.
-/
namespace Go.Proofs.Ytgmljpkenipgjaa.J
open Go.RowKit Go.Maps Go.Shelf

attribute [local go_sem] Oper.semAt_some

/-- Symbols, as cells. -/
def brV (T : List Nat) : List Value := T.map fun s : Nat => .int .i64 (s : Int)
/-- Whether a symbol is brought now: marks, and what is left. -/
def brB (tn : Nat) (b : Nat → Bool) (sv : Int) : Nat → Bool := if (tn : Int) ≤ sv ∧ b sv.toNat = false then markT b sv.toNat else b
def brT (tn : Nat) (b : Nat → Bool) (T : List Nat) (sv : Int) : List Nat := if (tn : Int) ≤ sv ∧ b sv.toNat = false then T ++ [sv.toNat] else T

/-- Blocks of other things than marks, numbers and what is left stay. -/
def KeepB (X Y : World) : Prop := X.heap.size ≤ Y.heap.size ∧ ∀ (k : Nat) (cs : Array Value) (t : TypeId), X.heap[k]? = some (.cells cs t (0, 0)) → t ≠ 4 → t ≠ 3 → t ≠ 24 → Y.heap[k]? = some (.cells cs t (0, 0))
theorem KeepB.refl (X : World) : KeepB X X := ⟨Nat.le_refl _, fun _ _ _ h _ _ _ => h⟩
theorem KeepB.trans {X Y Z : World} (h : KeepB X Y) (k : KeepB Y Z) : KeepB X Z := ⟨Nat.le_trans h.1 k.1, fun b cs t h1 h2 h3 h4 => k.2 b cs t (h.2 b cs t h1 h2 h3 h4) h2 h3 h4⟩
theorem br_set {X : World} {k k2 x : Nat} {v : Value} {cs cs2 : Array Value} {t t2 : TypeId} (h : X.heap[k]? = some (.cells cs t (0, 0))) (h2 : X.heap[k2]? = some (.cells cs2 t2 (0, 0))) (hne : t ≠ t2) : (X.setCell ⟨k2, x, none⟩ v).heap[k]? = some (.cells cs t (0, 0)) := by
  have hg : X.grownBy (X.setCell ⟨k2, x, none⟩ v) (some k2) := grown_setCell _ _ _
  refine (hg.block k (Array.getElem?_eq_some_iff.1 h).1 ?_).trans h
  intro e
  have e2 : k = k2 := by simpa using e
  rw [e2, h2] at h
  simp only [Option.some.injEq, Obj.cells.injEq] at h
  exact hne h.2.1.symm
section
variable {w X Y : World} {gb : Nat} {cs : Array Value} {vb lb mb S : Nat} {b : Nat → Bool} {a : Option Addr} {q c : Nat} {T : List Nat}
theorem KeepB.store {x : Nat} {v : Value} (h4 : Y.heap[lb]? = some (.cells #[.slice a q c] 24 (0, 0))) : KeepB Y (Y.setCell ⟨lb, x, none⟩ v) := by
  have G : Y.grownBy (Y.setCell ⟨lb, x, none⟩ v) (some lb) := grown_setCell _ _ _
  exact ⟨G.size, fun k cs t h1 _ _ h2 => br_set h1 h4 h2⟩
end

end Go.Proofs.Ytgmljpkenipgjaa.J

/-
  lr0: broughtBy.
-/
namespace Go.Proofs.Ytgmljpkenipgjaa.J
open Go.RowKit Go.Maps Go.Shelf

attribute [local go_sem] Oper.semAt_some

section
variable {tn n : Nat} {L : Nat → Int} {R : Nat → List Int} {I : List It} {b : Nat → Bool} {T : List Nat} {i k S : Nat} {non sv : Int}
theorem BrP.rest (h : BrP tn n L R I b T i (-1) 0) (hL : ∀ p, p < n → 0 ≤ L p) : BrP tn n L R I b T i (-1) n := ⟨h.snd, h.tin, h.its, h.done, fun p _ hp hl _ => by have := hL p hp; omega⟩
end

/-- What broughtBy tells. -/
def BrgTold (tn n S : Nat) (L : Nat → Int) (R : Nat → List Int) (I : List It) (w : World) (e : Ending) (y : World) : Prop := ∃ (mb : Nat) (b : Nat → Bool) (non : Int), e = .returned (.slice (some ⟨mb, 0, none⟩) S S) ∧ ValAt y mb S 4 (fun i => .bool (b i)) ∧ w.heap.size ≤ mb ∧ w.grownBy y none ∧ BrP tn n L R I b [] I.length non n

end Go.Proofs.Ytgmljpkenipgjaa.J

/-
  lr0: closure.
-/
namespace Go.Proofs.Ytgmljpkenipgjaa.J
open Go.RowKit Go.Maps Go.Shelf

attribute [local go_sem] Oper.semAt_some

section
variable {w X Y : World} {B : Nat} {cs : Array Value} {mb S : Nat} {b : Nat → Bool} {ga : Option Addr} {gc : Nat} {G : List It} {a : Option Addr} {q c : Nat} {A : List It}
end

end Go.Proofs.Ytgmljpkenipgjaa.J

/-
  lr0: kernels.
-/
namespace Go.Proofs.Ytgmljpkenipgjaa.J
open Go.RowKit Go.Maps Go.Shelf

attribute [local go_sem] Oper.semAt_some

/-- The kernel behind s of items in order. -/
def kerT (R : Nat → List Int) (l : List It) (s : Int) : List It := (l.filter fun x => aheadV R x == s).map fun x => (x.1, x.2 + 1)
theorem kerT_len (R : Nat → List Int) (l : List It) (s : Int) : (kerT R l s).length ≤ l.length := by
  unfold kerT
  rw [List.length_map]
  exact List.length_filter_le _ _

section
variable {w P X Y Z : World} {cs : Array Value} {rb S : Nat} {K : Nat → List It} {ua : Nat → Option Addr} {uc : Nat → Nat}
def updL {α : Type} (f : Nat → α) (s : Nat) (x : α) : Nat → α := fun i => if i = s then x else f i
end

end Go.Proofs.Ytgmljpkenipgjaa.J

/-
  lr0: the walk over the kernels, pure.
-/
namespace Go.Proofs.Ytgmljpkenipgjaa.J
open Go.RowKit Go.Maps Go.Shelf

/-- The state of a kernel, and the kernels afterwards; none: one too many. -/
def askF (ks : List (List It)) (k : List It) : Option (Nat × List (List It)) := if k ∈ ks then some (ks.idxOf k, ks) else if ks.length < 256 then some (ks.length, ks ++ [k]) else none
/-- The edges of a state, by the symbols below S. -/
def leaveF (G : Nat → List It) (ks : List (List It)) : Nat → Option (List (List It) × List (Nat × Nat))
  | 0 => some (ks, [])
  | s + 1 => match leaveF G ks s with
    | none => none
    | some (ks', ed) => if G s = [] then some (ks', ed) else match askF ks' (G s) with
      | none => none
      | some (t, ks'') => some (ks'', ed ++ [(s, t)])
/-- The automaton, once the states below i have been left. -/
def autoF (G : List It → Nat → List It) (S : Nat) : Nat → Option (List (List It) × List (List (Nat × Nat)))
  | 0 => some ([[(0, 0)]], [])
  | i + 1 => match autoF G S i with
    | none => none
    | some (ks, es) => if i < ks.length then match leaveF (G (ks.getD i [])) ks S with
        | none => none
        | some (ks', ed) => some (ks', es ++ [ed])
      else some (ks, es)

/-- What always holds of the kernels: none twice, 256 at most; each is in P. -/
structure KsOK (P : Nat → List It → Prop) (ks : List (List It)) : Prop where
  nodup : ks.Nodup
  le : ks.length ≤ 256
  each : ∀ j, j < ks.length → P j (ks.getD j [])

theorem getD_snoc_new {α : Type} {l : List α} {x d : α} : (l ++ [x]).getD l.length d = x := by
  rw [List.getD_eq_getElem?_getD, List.getElem?_append_right (Nat.le_refl _), Nat.sub_self]; rfl

theorem getD_prefix {α : Type} {l m : List α} {d : α} {j : Nat} (h : l <+: m) (hj : j < l.length) : m.getD j d = l.getD j d := by
  obtain ⟨t, rfl⟩ := h
  rw [List.getD_eq_getElem?_getD, List.getD_eq_getElem?_getD, List.getElem?_append_left hj]

/-- What always holds of the automaton under way. -/
structure AuOK (P : Nat → List It → Prop) (G : List It → Nat → List It) (S i : Nat) (ks : List (List It)) (es : List (List (Nat × Nat))) : Prop where
  kok : KsOK P ks
  pos : 0 < ks.length
  head : ks.getD 0 [] = [(0, 0)]
  len : es.length = min i ks.length
  edges : ∀ q, q < es.length → (es.getD q []).length ≤ S ∧ ∀ x ∈ es.getD q [], x.1 < S ∧ x.2 < ks.length ∧ ks.getD x.2 [] = G (ks.getD q []) x.1

end Go.Proofs.Ytgmljpkenipgjaa.J

/-
  lr0: states in memory; the document's place.
-/
namespace Go.Proofs.Ytgmljpkenipgjaa.J
open Go.RowKit Go.Maps Go.Shelf

attribute [local go_sem] Oper.semAt_some

/-- The kernels of states in memory: ka and kc say where they lie and what room they have. -/
def KersAt (X : World) (a : Option Addr) (ks : List (List It)) (ka : Nat → Option Addr) (kc : Nat → Nat) : Prop := ks = [] ∨ ∃ b off, a = some ⟨b, off, none⟩ ∧ ∀ i, i < ks.length → X.cell? ⟨b, off + i * 2, none⟩ = some (.slice (ka i) (ks.getD i []).length (kc i)) ∧ ItsAt X (ka i) (ks.getD i [])
theorem KersAt.kept {X Y : World} {a : Option Addr} {ks : List (List It)} {ka : Nat → Option Addr} {kc : Nat → Nat} (h : KersAt X a ks ka kc) (hg : X.grownBy Y none) : KersAt Y a ks ka kc := by
  rcases h with h | ⟨b, off, e, h⟩
  · exact .inl h
  · exact .inr ⟨b, off, e, fun i hi => ⟨hg.cell (h i hi).1 (by simp), (h i hi).2.kept hg⟩⟩
theorem KersAt.at {X : World} {a : Option Addr} {ks : List (List It)} {ka : Nat → Option Addr} {kc : Nat → Nat} (h : KersAt X a ks ka kc) {i : Nat} (hi : i < ks.length) : ∃ b off, a = some ⟨b, off, none⟩ ∧ X.cell? ⟨b, off + i * 2, none⟩ = some (.slice (ka i) (ks.getD i []).length (kc i)) ∧ ItsAt X (ka i) (ks.getD i []) := by
  rcases h with h | ⟨b, off, e, h⟩
  · rw [h] at hi; cases hi
  · exact ⟨b, off, e, h i hi⟩

/-- The place of a kernel, -1: there is none. -/
def placeV (ks : List (List It)) (k : List It) : Int := if k ∈ ks then (ks.idxOf k : Int) else -1
end Go.Proofs.Ytgmljpkenipgjaa.J

/-
  lr0: slices.Equal of items.
-/
namespace Go.Proofs.Ytgmljpkenipgjaa.J
open Go.RowKit Go.Maps Go.Shelf

attribute [local go_sem] Oper.semAt_some

end Go.Proofs.Ytgmljpkenipgjaa.J

/-
  A region of a function as a declaration of its own.
-/
namespace Go.Proofs.Ytgmljpkenipgjaa.J
open Go.RowKit Go.Maps Go.Shelf

/-- The regions of a number. -/
def regionsJ (n : Nat) : Code → List Code
  | .region i ops b => if i = n then [.region i ops b] else []
  | .loop c => regionsJ n c
  | .seq a b => regionsJ n a ++ regionsJ n b
  | .block _ c => regionsJ n c
  | .scope c => regionsJ n c
  | .cond _ a b => regionsJ n a ++ regionsJ n b
  | _ => []
/-- The loops of a piece of code, the outer ahead of the inner. -/
def loopsJ : Code → List Code
  | .loop c => .loop c :: loopsJ c
  | .seq a b => loopsJ a ++ loopsJ b
  | .block _ c => loopsJ c
  | .scope c => loopsJ c
  | .cond _ a b => loopsJ a ++ loopsJ b
  | _ => []
def OnEndJ (P : Act → World → Prop) : Exit → Act → World → Prop
  | .normal, a, w => P a w
  | _, _, _ => False

end Go.Proofs.Ytgmljpkenipgjaa.J

/-
  pack: the program's isRow and areRows.
-/
namespace Go.Proofs.Ytgmljpkenipgjaa.J
open Go.RowKit Go.Maps Go.Shelf Pk

attribute [local go_sem] Oper.semAt_some

theorem zeroBools (w : World) : (zeroValue 84).run Try.prog w = .ok (.agg ((List.range 256).map fun _ => Value.bool false).toArray) w := by kernel_rfl
theorem ints_short : ∀ (l m : List Int), l.Nodup → (∀ x ∈ l, x ∈ m) → l.length ≤ m.length
  | [], _, _, _ => Nat.zero_le _
  | a :: l, m, hn, hs => by
    rw [List.nodup_cons] at hn
    have ha := hs a (by simp)
    have h := ints_short l (m.erase a) hn.2 (fun x hx => (List.mem_erase_of_ne (fun e => hn.1 (by rw [← e]; exact hx))).2 (hs x (by simp [hx])))
    rw [List.length_erase_of_mem ha] at h
    have : 0 < m.length := List.length_pos_of_mem ha
    simp only [List.length_cons]
    omega
theorem row_short {l : List Ed} (h : RowTo l l.length) : l.length ≤ 256 := by
  obtain ⟨h1, h2⟩ := (RowTo.all l).1 h
  have h3 := ints_short (l.map (·.1)) ((List.range 256).map fun i : Nat => (i : Int)) h2 (fun x hx => by
    rw [List.mem_map] at hx
    obtain ⟨e, he, rfl⟩ := hx
    have := h1 e he
    rw [List.mem_map]
    exact ⟨e.1.toNat, by rw [List.mem_range]; omega, by omega⟩)
  simpa using h3

set_option maxRecDepth 100000 in
set_option maxHeartbeats 4000000 in
theorem isRow_any (a : Option Addr) (c : Nat) (l : List It) (w : World) (hl : ItsAt w a l) (hlen : l.length ≤ 17592186044416) (r : Bool) (hr : r = true ↔ IsRow l) :
    Calls Try.prog 40 #[.slice a l.length c] w fun e y => e = .returned (.bool r) ∧ w.grownBy y none := by
  obtain ⟨n, hn⟩ : ∃ v, v = l.length := ⟨_, rfl⟩
  have HN : Hid (n = l.length) := hn
  have HR : Hid (r = true ↔ IsRow l) := hr
  have HL : Hid (∀ X, w.grownBy X none → ItsAt X a l) := fun X hX => hl.kept hX
  obtain ⟨zs, hzs, hze⟩ : ∃ cs : Array Value, (∀ w, (zeroValue 84).run Try.prog w = .ok (.agg cs) w) ∧ cs = ((List.range 256).map fun _ => Value.bool false).toArray := ⟨_, zeroBools, rfl⟩
  rw [← hn] at hlen ⊢
  clear hn hr hl
  have HV0 : Hid (ValAt (w.alloc (.cells zs 84)) w.heap.size 256 84 (fun p => .bool (((l.take 0).map (·.1)).contains (p : Int)))) := by
    have h := heap_alloc_last w (.cells zs 84)
    rw [hze] at h
    have h2 : ValAt (w.alloc (.cells ((List.range 256).map fun _ => Value.bool false).toArray 84)) w.heap.size 256 84 (fun _ => .bool false) := h
    rw [← hze] at h2
    exact h2.ext fun p _ => by simp
  have HG0 : Hid (w.grownBy (w.alloc (.cells zs 84)) none) := World.grownBy_alloc _ _ none
  clear hze
  obtain ⟨sb, hsb⟩ : ∃ b, b = w.heap.size := ⟨_, rfl⟩
  rw [← hsb] at HV0
  have HSB : Hid (w.heap.size ≤ sb) := by show _ ≤ _; omega
  go_enter Try.func40, Try.ntmps40
  go_wp2_with fail
  rw [← hsb]
  clear hsb
  go_loopg [8] n (fun gk v4 wr => ∃ (j : Nat), j ≤ n ∧ gk = n - j ∧ v4 = .int .i64 j ∧ RowTo l j ∧ ValAt wr sb 256 84 (fun p => .bool (((l.take j).map (·.1)).contains (p : Int))) ∧ w.grownBy wr none)
  case atStart => exact ⟨0, Nat.zero_le _, rfl, rfl, RowTo.zero l, HV0.out, HG0.out⟩
  case round =>
    clear HV0 HG0
    obtain ⟨j, hj, hgj, rfl, hrt, hv, hg⟩ := hrel
    have HGJ : Hid (gk = n - j) := hgj
    have HG : Hid (w.grownBy wr none) := hg
    have HRT : Hid (RowTo l j) := hrt
    have HV : Hid (ValAt wr sb 256 84 (fun p => .bool (((l.take j).map (·.1)).contains (p : Int)))) := hv
    clear hgj hg hrt hv
    by_cases hjl : j < n
    · have hjl2 : j < l.length := by rw [← HN.out]; exact hjl
      obtain ⟨ab, ao, rfl, hc1, hc1b⟩ : ∃ ab ao, a = some ⟨ab, ao, none⟩ ∧ wr.cell? ⟨ab, ao + j * 2, none⟩ = some (.int .i64 (l.getD j (0, 0)).1) ∧ wr.cell? ⟨ab, ao + j * 2 + 1, none⟩ = some (.int .i64 (l.getD j (0, 0)).2) := by
        rcases HL.out wr HG.out with h | ⟨ab, ao, e, h⟩
        · rw [h] at hjl2; cases hjl2
        · exact ⟨ab, ao, e, (h j hjl2).1, (h j hjl2).2⟩
      obtain ⟨x, hx⟩ : ∃ x, x = (l.getD j (0, 0)).1 := ⟨_, rfl⟩
      have HX : Hid (x = (l.getD j (0, 0)).1) := hx
      rw [← hx] at hc1
      obtain ⟨tv, htv⟩ : ∃ x, x = (l.getD j (0, 0)).2 := ⟨_, rfl⟩
      rw [← htv] at hc1b
      clear htv
      have hj0 : (0 : Int) ≤ (j : Int) := by omega
      have hj1 : (j : Int) < (n : Int) := by omega
      have hjd : decide (j < n) = true := decide_eq_true hjl
      have HNO : Hid (¬ ((0 ≤ x ∧ x < 256) ∧ x ∉ (l.take j).map (·.1)) → false = r) := fun h => by
        cases hrr : r with
        | false => rfl
        | true =>
          refine absurd ?_ h
          have h1 := (RowTo.all l).2 (HR.out.1 hrr).2
          have h2 := (RowTo.step hjl2).1 (RowTo.pre h1 (by omega : j + 1 ≤ l.length))
          rw [← HX.out] at h2
          exact h2.2
      clear hx
      by_cases k0 : x < 0
      · have e0 : decide (x < 0) = true := decide_eq_true k0
        have HF : Hid (false = r) := HNO.out (fun h => by omega)
        clear k0
        go_wp2_with fail
        go_ret
        exact ⟨congrArg (fun b => Ending.returned (Value.bool b)) HF.out, by first | exact HG.out | exact grown_trans HG.out (World.grownBy_alloc _ _ none)⟩
      · have e0 : decide (x < 0) = false := decide_eq_false k0
        by_cases k1 : 256 ≤ x
        · have e1 : decide ((256 : Int) ≤ x) = true := decide_eq_true k1
          have HF : Hid (false = r) := HNO.out (fun h => by omega)
          clear k0 k1
          go_wp2_with fail
          go_ret
          exact ⟨congrArg (fun b => Ending.returned (Value.bool b)) HF.out, by first | exact HG.out | exact grown_trans HG.out (World.grownBy_alloc _ _ none)⟩
        · have e1 : decide ((256 : Int) ≤ x) = false := decide_eq_false k1
          obtain ⟨p, rfl⟩ := Int.eq_ofNat_of_zero_le (by omega : 0 ≤ x)
          have hp : p < 256 := by omega
          have hp0 : (0 : Int) ≤ (p : Int) := by omega
          have hp1 : (p : Int) < (256 : Nat) := by omega
          have hc2 : ∀ o', (wr.alloc o').cell? ⟨sb, p, none⟩ = some (.bool (((l.take j).map (·.1)).contains (p : Int))) := fun o' => (ValAt.kept HV.out (World.grownBy_alloc _ o' none)).cell p hp
          have hc3 : ∀ o', (wr.alloc o').frozen? ⟨sb, p, none⟩ = false := fun o' => (ValAt.kept HV.out (World.grownBy_alloc _ o' none)).free p
          cases hm : ((l.take j).map (·.1)).contains (p : Int) with
          | true =>
            have HF : Hid (false = r) := HNO.out (fun h => h.2 (by simpa using hm))
            simp only [hm] at hc2
            clear k0 k1 hm
            go_wp2_with fail
            go_ret
            exact ⟨congrArg (fun b => Ending.returned (Value.bool b)) HF.out, by first | exact HG.out | exact grown_trans HG.out (World.grownBy_alloc _ _ none)⟩
          | false =>
            simp only [hm] at hc2
            have HM : Hid ((p : Int) ∉ (l.take j).map (·.1)) := fun h => by
              have : ((l.take j).map (·.1)).contains (p : Int) = true := by simpa using h
              rw [hm] at this; cases this
            clear k0 k1 hm
            go_wp2_with fail
            go_roundg (n - (j + 1))
            case measure => have := HGJ.out; omega
            case rel =>
              refine ⟨j + 1, by omega, rfl, by go_num, (RowTo.step hjl2).2 ⟨HRT.out, ?_⟩, ((ValAt.kept HV.out (World.grownBy_alloc _ _ none)).set p _).ext fun q hq => ?_, grown_new (grown_trans HG.out (World.grownBy_alloc _ _ none)) (grown_setCell _ _ _) HSB.out⟩
              · rw [← HX.out]; exact ⟨⟨hp0, by omega⟩, HM.out⟩
              · rw [take_snoc hjl2, List.map_append, List.contains_append]
                unfold J.put
                rw [List.map_cons, List.map_nil, ← HX.out]
                by_cases e : q = p
                · subst e; simp
                · rw [if_neg e]
                  have e3 : ([(p : Int)] : List Int).contains (q : Int) = false := by simp; omega
                  rw [e3, Bool.or_false]
    · have hjn : n = j := by omega
      subst hjn
      have hjd : decide (n < n) = false := decide_eq_false (by omega)
      have HF : Hid (true = r) := (HR.out.2 ⟨row_short (by rw [← HN.out]; exact HRT.out), (RowTo.all l).1 (by rw [← HN.out]; exact HRT.out)⟩).symm
      go_wp2_with fail
      go_ret
      exact ⟨congrArg (fun b => Ending.returned (Value.bool b)) HF.out, by first | exact HG.out | exact grown_trans HG.out (World.grownBy_alloc _ _ none)⟩

end Go.Proofs.Ytgmljpkenipgjaa.J

/-
  pack: the document's At.
-/
namespace Go.Proofs.Ytgmljpkenipgjaa.J
open Go.RowKit Go.Maps Go.Shelf Pk

attribute [local go_sem] Oper.semAt_some

theorem atF_no {bs va ow : List Int} {row place : Int} (h : ¬ (0 ≤ row ∧ row < bs.length ∧ 0 ≤ place ∧ 0 ≤ bs.getD row.toNat 0 ∧ bs.getD row.toNat 0 < (min va.length ow.length : Nat) ∧ place < (min va.length ow.length : Nat) - bs.getD row.toNat 0 ∧ ow.getD (bs.getD row.toNat 0 + place).toNat 0 = row)) : atF bs va ow row place = (0, false) := if_neg h
theorem atF_yes {bs va ow : List Int} {row place : Int} (h : 0 ≤ row ∧ row < bs.length ∧ 0 ≤ place ∧ 0 ≤ bs.getD row.toNat 0 ∧ bs.getD row.toNat 0 < (min va.length ow.length : Nat) ∧ place < (min va.length ow.length : Nat) - bs.getD row.toNat 0 ∧ ow.getD (bs.getD row.toNat 0 + place).toNat 0 = row) : atF bs va ow row place = (va.getD (bs.getD row.toNat 0 + place).toNat 0, true) := if_pos h

end Go.Proofs.Ytgmljpkenipgjaa.J

/-
  pack: the program's At.
-/
namespace Go.Proofs.Ytgmljpkenipgjaa.J
open Go.RowKit Go.Maps Go.Shelf Pk

attribute [local go_sem] Oper.semAt_some

set_option maxRecDepth 100000 in
theorem isPlace_any (a : Option Addr) (n c : Nat) (i : Int) (w : World) : Calls Try.prog 33 #[.slice a n c, .int .i64 i] w fun e y => e = .returned (.bool (decide (0 ≤ i ∧ i < (n : Int)))) ∧ y = w := by
  by_cases h0 : 0 ≤ i
  · have d0 : decide (0 ≤ i) = true := decide_eq_true h0
    by_cases h1 : i < (n : Int)
    · have d1 : decide (i < (n : Int)) = true := decide_eq_true h1
      rw [decide_eq_true ⟨h0, h1⟩]
      go_enter Try.func33, Try.ntmps33
      go_wp2_with fail
      go_ret
      exact ⟨rfl, rfl⟩
    · have d1 : decide (i < (n : Int)) = false := decide_eq_false h1
      rw [decide_eq_false (fun h => h1 h.2)]
      go_enter Try.func33, Try.ntmps33
      go_wp2_with fail
      go_ret
      exact ⟨rfl, rfl⟩
  · have d0 : decide (0 ≤ i) = false := decide_eq_false h0
    rw [decide_eq_false (fun h => h0 h.1)]
    go_enter Try.func33, Try.ntmps33
    go_wp2_with fail
    go_ret
    exact ⟨rfl, rfl⟩

set_option maxRecDepth 100000 in
set_option maxHeartbeats 2000000 in
theorem pkAt_any (ba va oa : Option Addr) (bc vc oc : Nat) (bs vs os : List Int) (row place : Int) (w : World) (hb : IntsAt w ba bs) (hv : IntsAt w va vs) (ho : IntsAt w oa os)
    (hbr : ∀ x ∈ bs, -9223372036854775808 ≤ x ∧ x ≤ 9223372036854775807) (h2 : vs.length ≤ 17592186044416) (h3 : os.length ≤ 17592186044416) :
    Calls Try.prog 16 #[.agg #[.slice ba bs.length bc, .slice va vs.length vc, .slice oa os.length oc], .int .i64 row, .int .i64 place] w fun e y => e = .returned (.tuple #[.int .i64 (atF bs vs os row place).1, .bool (atF bs vs os row place).2]) ∧ w.grownBy y none := by
  have mixed : Try.prog.follows .mixedOrders = true := by kernel_rfl
  obtain ⟨X, hX⟩ : ∃ X, X = w.alloc (.cells #[.slice ba bs.length bc, .slice va vs.length vc, .slice oa os.length oc] 26) := ⟨_, rfl⟩
  have hg : w.grownBy X none := by rw [hX]; exact World.grownBy_alloc _ _ none
  have HX : Hid (X = w.alloc (.cells #[.slice ba bs.length bc, .slice va vs.length vc, .slice oa os.length oc] 26)) := hX
  have HG : Hid (w.grownBy X none) := hg
  have HBI : Hid (IntsAt X ba bs ∧ IntsAt X va vs ∧ IntsAt X oa os) := ⟨hb.kept hg, hv.kept hg, ho.kept hg⟩
  obtain ⟨bl, hbl⟩ : ∃ v, v = bs.length := ⟨_, rfl⟩
  obtain ⟨vl, hvl⟩ : ∃ v, v = vs.length := ⟨_, rfl⟩
  obtain ⟨ol, hol⟩ : ∃ v, v = os.length := ⟨_, rfl⟩
  have HBL : Hid (bl = bs.length) := hbl
  have HVL : Hid (vl = vs.length) := hvl
  have HOL : Hid (ol = os.length) := hol
  by_cases c1 : 0 ≤ row ∧ row < (bl : Int) ∧ 0 ≤ place
  · skip
    rw [← hvl] at h2
    rw [← hol] at h3
    rw [← hbl, ← hvl, ← hol] at hX HX ⊢
    obtain ⟨p0, p1, p2⟩ := c1
    obtain ⟨R, rfl⟩ := Int.eq_ofNat_of_zero_le p0
    have hRl : R < bs.length := by rw [← hbl]; omega
    have d0 : decide ((R : Int) < 0) = false := decide_eq_false (by omega)
    have d1 : decide ((bl : Int) ≤ (R : Int)) = false := decide_eq_false (by omega)
    have d1' : decide (bl ≤ R) = false := decide_eq_false (by omega)
    have d2 : decide (place < 0) = false := decide_eq_false (by omega)
    have hR1 : (R : Int) < (bl : Int) := by omega
    have HIP : Hid (∀ W, Calls Try.prog 33 #[.slice ba bl bc, .int .i64 (R : Int)] W fun e y => e = .returned (.bool true) ∧ y = W) := fun W => (isPlace_any ba bl bc (R : Int) W).mono fun e y h => by rw [h.1, h.2]; exact ⟨by rw [decide_eq_true (by omega : 0 ≤ (R : Int) ∧ (R : Int) < (bl : Int))], rfl⟩
    obtain ⟨bb, bo, rfl, c0⟩ : ∃ bb bo, ba = some ⟨bb, bo, none⟩ ∧ X.cell? ⟨bb, bo + R, none⟩ = some (.int .i64 (bs.getD R 0)) := by
      rcases HBI.out.1 with h | ⟨bb, bo, e, h⟩
      · rw [h] at hRl; exact absurd hRl (Nat.not_lt_zero _)
      · exact ⟨bb, bo, e, h R hRl⟩
    obtain ⟨b, hbe⟩ : ∃ v, v = bs.getD R 0 := ⟨_, rfl⟩
    have HBE : Hid (b = bs.getD R 0) := hbe
    rw [← hbe] at c0
    obtain ⟨m, hm⟩ : ∃ v, v = min vl ol := ⟨_, rfl⟩
    have HM : Hid (m = min vl ol) := hm
    have hmm : min (vl : Int) (ol : Int) = (m : Int) := by rw [hm]; omega
    have hge : bs.getD ((R : Nat) : Int).toNat 0 = b := by rw [hbe]; rfl
    have HGE : Hid (bs.getD ((R : Nat) : Int).toNat 0 = b) := hge
    have HN : Hid (∀ (z : Int), (¬ (0 ≤ b ∧ b < (m : Int) ∧ place < (m : Int) - b ∧ os.getD (b + place).toNat 0 = (R : Int))) → z = (R : Int) → atF bs vs os z place = (0, false)) := fun z h e => by
      subst e
      refine atF_no fun h2 => h ?_
      rw [hge, ← hvl, ← hol, ← hm] at h2
      exact ⟨h2.2.2.2.1, h2.2.2.2.2.1, h2.2.2.2.2.2.1, h2.2.2.2.2.2.2⟩
    have HO : Hid (IntsAt X oa os) := HBI.out.2.2
    have HV : Hid (IntsAt X va vs) := HBI.out.2.1
    rw [hX] at HG c0
    by_cases k0 : b < 0
    · rw [HN.out _ (fun h => by omega) rfl]
      have e0 : decide (b < 0) = true := decide_eq_true k0
      clear hbr hb hv ho hX hg HX HBI hbl hvl hol HBL HVL HOL k0 hbe HBE hm HM hge HGE HN HO HV p0 p1 p2
      go_enter Try.func16, Try.ntmps16
      go_wp2_with fail
      refine Calls.mono (HIP.out _) ?_
      rintro e y ⟨rfl, rfl⟩
      go_wp2_with fail
      go_ret2
      exact ⟨rfl, HG.out⟩
    · have e0 : decide (b < 0) = false := decide_eq_false k0
      by_cases k1 : b < (m : Int)
      · have e1 : decide ((m : Int) ≤ b) = false := decide_eq_false (by omega)
        have hwr : IntKind.i64.wrap ((m : Int) - b) = (m : Int) - b := by rw [IntKind.wrap_i64]; omega
        by_cases k2 : place < (m : Int) - b
        · have e2 : decide ((m : Int) - b ≤ place) = false := decide_eq_false (by omega)
          have hws : IntKind.i64.wrap (b + place) = b + place := by rw [IntKind.wrap_i64]; omega
          obtain ⟨q, hq⟩ : ∃ q : Nat, b + place = (q : Int) := ⟨(b + place).toNat, by omega⟩
          have hqo : q < os.length := by rw [← hol]; omega
          have hqv : q < vs.length := by rw [← hvl]; omega
          obtain ⟨ob, oo, rfl, c1⟩ : ∃ ob oo, oa = some ⟨ob, oo, none⟩ ∧ X.cell? ⟨ob, oo + q, none⟩ = some (.int .i64 (os.getD q 0)) := by
            rcases HO.out with h | ⟨ob, oo, e, h⟩
            · rw [h] at hqo; exact absurd hqo (Nat.not_lt_zero _)
            · exact ⟨ob, oo, e, h q hqo⟩
          obtain ⟨vb, vo, rfl, c2⟩ : ∃ ob oo, va = some ⟨ob, oo, none⟩ ∧ X.cell? ⟨ob, oo + q, none⟩ = some (.int .i64 (vs.getD q 0)) := by
            rcases HV.out with h | ⟨ob, oo, e, h⟩
            · rw [h] at hqv; exact absurd hqv (Nat.not_lt_zero _)
            · exact ⟨ob, oo, e, h q hqv⟩
          rw [hX] at c1 c2
          have hq0 : (0 : Int) ≤ (q : Int) := by omega
          have hq1 : (q : Int) < (ol : Int) := by omega
          have hq2 : (q : Int) < (vl : Int) := by omega
          have hqt : (b + place).toNat = q := by omega
          rw [hq] at hws
          by_cases k3 : os.getD q 0 = (R : Int)
          · have e3 : (os.getD q 0 != (R : Int)) = false := by rw [k3]; exact bne_self_eq_false _
            have hat : atF bs vs os (R : Int) place = (vs.getD q 0, true) := by
              rw [atF_yes (by
                rw [hge, ← hbl, ← hvl, ← hol, ← hm, hqt]
                exact ⟨p0, p1, p2, by omega, k1, k2, k3⟩), hge, hqt]
            rw [hat]
            obtain ⟨ov, hov⟩ : ∃ v, v = os.getD q 0 := ⟨_, rfl⟩
            obtain ⟨vv, hvv⟩ : ∃ v, v = vs.getD q 0 := ⟨_, rfl⟩
            rw [← hov] at c1 e3
            rw [← hvv] at c2 ⊢
            clear hat k0 k1 k2 k3 hqo hqv hqt hov hvv
            clear hbr hb hv ho hX hg HX HBI hbl hvl hol HBL HVL HOL hbe HBE hm HM hge HGE HN HO HV p0 p1 p2
            go_enter Try.func16, Try.ntmps16
            go_wp2_with fail
            refine Calls.mono (HIP.out _) ?_
            rintro e y ⟨rfl, rfl⟩
            go_wp2_with fail
            go_quiet_o (fail)
            go_wp2_with fail
            go_ret2
            exact ⟨rfl, grown_trans HG.out (grown_drewN _ _)⟩
          · have e3 : (os.getD q 0 != (R : Int)) = true := by rw [bne_iff_ne]; exact k3
            rw [HN.out _ (fun h => k3 (by rw [← hqt]; exact h.2.2.2)) rfl]
            obtain ⟨ov, hov⟩ : ∃ v, v = os.getD q 0 := ⟨_, rfl⟩
            rw [← hov] at c1 e3
            clear k0 k1 k2 k3 hqo hqv hqt hov
            clear hbr hb hv ho hX hg HX HBI hbl hvl hol HBL HVL HOL hbe HBE hm HM hge HGE HN HO HV p0 p1 p2
            go_enter Try.func16, Try.ntmps16
            go_wp2_with fail
            refine Calls.mono (HIP.out _) ?_
            rintro e y ⟨rfl, rfl⟩
            go_wp2_with fail
            go_quiet_o (fail)
            go_wp2_with fail
            go_ret2
            exact ⟨rfl, grown_trans HG.out (grown_drewN _ _)⟩
        · have e2 : decide ((m : Int) - b ≤ place) = true := decide_eq_true (by omega)
          rw [HN.out _ (fun h => by omega) rfl]
          clear k0 k1 k2
          clear hbr hb hv ho hX hg HX HBI hbl hvl hol HBL HVL HOL hbe HBE hm HM hge HGE HN HO HV p0 p1 p2
          go_enter Try.func16, Try.ntmps16
          go_wp2_with fail
          refine Calls.mono (HIP.out _) ?_
          rintro e y ⟨rfl, rfl⟩
          go_wp2_with fail
          go_quiet_o (fail)
          go_wp2_with fail
          go_ret2
          exact ⟨rfl, grown_trans HG.out (grown_drewN _ _)⟩
      · have hbin : b ≤ 9223372036854775807 := by rw [hbe, List.getD_eq_getElem?_getD, List.getElem?_eq_getElem hRl]; exact (hbr _ (List.getElem_mem _)).2
        have hwr : IntKind.i64.wrap ((m : Int) - b) = (m : Int) - b := by rw [IntKind.wrap_i64]; omega
        have e2 : decide ((m : Int) - b ≤ place) = true := decide_eq_true (by omega)
        rw [HN.out _ (fun h => by omega) rfl]
        clear k0 k1 hbin
        clear hbr hb hv ho hX hg HX HBI hbl hvl hol HBL HVL HOL hbe HBE hm HM hge HGE HN HO HV p0 p1 p2
        go_enter Try.func16, Try.ntmps16
        go_wp2_with fail
        refine Calls.mono (HIP.out _) ?_
        rintro e y ⟨rfl, rfl⟩
        go_wp2_with fail
        go_quiet_o (fail)
        go_wp2_with fail
        go_ret2
        exact ⟨rfl, grown_trans HG.out (grown_drewN _ _)⟩
  · rw [atF_no (fun h => c1 ⟨h.1, by rw [hbl]; exact h.2.1, h.2.2.1⟩)]
    skip
    rw [← hvl] at h2
    rw [← hol] at h3
    rw [← hbl, ← hvl, ← hol] at hX HX ⊢
    by_cases r0 : 0 ≤ row ∧ row < (bl : Int)
    · have d2 : decide (place < 0) = true := decide_eq_true (by omega)
      obtain ⟨R, rfl⟩ := Int.eq_ofNat_of_zero_le r0.1
      have hRl : R < bs.length := by rw [← hbl]; omega
      have hR0 : (0 : Int) ≤ (R : Int) := by omega
      have hR1 : (R : Int) < (bl : Int) := by omega
      have HIP : Hid (∀ W, Calls Try.prog 33 #[.slice ba bl bc, .int .i64 (R : Int)] W fun e y => e = .returned (.bool true) ∧ y = W) := fun W => (isPlace_any ba bl bc (R : Int) W).mono fun e y h => by rw [h.1, h.2]; exact ⟨by rw [decide_eq_true r0], rfl⟩
      obtain ⟨bb, bo, rfl, c0⟩ : ∃ bb bo, ba = some ⟨bb, bo, none⟩ ∧ X.cell? ⟨bb, bo + R, none⟩ = some (.int .i64 (bs.getD R 0)) := by
        rcases HBI.out.1 with h | ⟨bb, bo, e, h⟩
        · rw [h] at hRl; exact absurd hRl (Nat.not_lt_zero _)
        · exact ⟨bb, bo, e, h R hRl⟩
      obtain ⟨b, hbe⟩ : ∃ v, v = bs.getD R 0 := ⟨_, rfl⟩
      rw [← hbe] at c0
      rw [hX] at HG c0
      by_cases k0 : b < 0
      · have e0 : decide (b < 0) = true := decide_eq_true k0
        clear hbr hb hv ho hX hg HX HBI hbl hvl hol HBL HVL HOL c1 r0 k0 hbe hRl
        go_enter Try.func16, Try.ntmps16
        go_wp2_with fail
        refine Calls.mono (HIP.out _) ?_
        rintro e y ⟨rfl, rfl⟩
        go_wp2_with fail
        go_ret2
        exact ⟨rfl, HG.out⟩
      · have e0 : decide (b < 0) = false := decide_eq_false k0
        clear hbr hb hv ho hX hg HX HBI hbl hvl hol HBL HVL HOL c1 r0 k0 hbe hRl
        go_enter Try.func16, Try.ntmps16
        go_wp2_with fail
        refine Calls.mono (HIP.out _) ?_
        rintro e y ⟨rfl, rfl⟩
        go_wp2_with fail
        go_ret2
        exact ⟨rfl, HG.out⟩
    · have HIP : Hid (∀ W, Calls Try.prog 33 #[.slice ba bl bc, .int .i64 row] W fun e y => e = .returned (.bool false) ∧ y = W) := fun W => (isPlace_any ba bl bc row W).mono fun e y h => by rw [h.1, h.2]; exact ⟨by rw [decide_eq_false r0], rfl⟩
      rw [hX] at HG
      clear hbr hb hv ho hX hg HX HBI hbl hvl hol HBL HVL HOL c1 r0
      go_enter Try.func16, Try.ntmps16
      go_wp2_with fail
      refine Calls.mono (HIP.out _) ?_
      rintro e y ⟨rfl, rfl⟩
      go_wp2_with fail
      go_ret2
      exact ⟨rfl, HG.out⟩

end Go.Proofs.Ytgmljpkenipgjaa.J

/-
  pack: the document's Action and Goto.
-/
namespace Go.Proofs.Ytgmljpkenipgjaa.J
open Go.RowKit Go.Maps Go.Shelf Pk

attribute [local go_sem] Oper.semAt_some

/-- What Action tells: its kind, its number. -/
def actF (ds bs vs os : List Int) (state term : Int) : Int × Int :=
  if (atF bs vs os state term).2 = true then
    (if (atF bs vs os state term).1 = 0 then (4, 0) else if 0 < (atF bs vs os state term).1 then (1, (atF bs vs os state term).1 - 1) else if (atF bs vs os state term).1 = -1 then (3, 0) else (2, -1 - (atF bs vs os state term).1))
  else if 0 ≤ state ∧ state < ds.length ∧ 0 < ds.getD state.toNat 0 then (2, ds.getD state.toNat 0) else (0, 0)
/-- What Goto tells. -/
def gotoF (ts bs vs os : List Int) (state non : Int) : Int :=
  if (atF bs vs os non state).2 = true then (atF bs vs os non state).1 else if 0 ≤ non ∧ non < ts.length then ts.getD non.toNat 0 else -1

section
variable (da ba va oa ta gb gv go : Option Addr) (dc bc vc oc tc gbc gvc goc : Nat) (ds bs vs os ts gbs gvs gos : List Int) (w : World)

end

end Go.Proofs.Ytgmljpkenipgjaa.J

/-
  pack: the program's Action and Goto.
-/
namespace Go.Proofs.Ytgmljpkenipgjaa.J
open Go.RowKit Go.Maps Go.Shelf Pk

attribute [local go_sem] Oper.semAt_some

/-- The action of a number: its kind, its number. -/
def actK (v : Int) : Int × Int := if v = 0 then (4, 0) else if 0 < v then (1, v - 1) else if v = -1 then (3, 0) else (2, -1 - v)
section
variable (da ba va oa ta gb gv go : Option Addr) (dc bc vc oc tc gbc gvc goc : Nat) (ds bs vs os ts gbs gvs gos : List Int) (w : World)

end

end Go.Proofs.Ytgmljpkenipgjaa.J

/-
  pack: the document's comparisons, of what is the same.
-/
namespace Go.Proofs.Ytgmljpkenipgjaa.J
open Go.RowKit Go.Maps Go.Shelf Pk

attribute [local go_sem] Oper.semAt_some

set_option maxRecDepth 100000 in
theorem rpInts_same (a1 a2 : Option Addr) (c1 c2 : Nat) (l : List Int) (w : World) (h1 : IntsAt w a1 l) (h2 : IntsAt w a2 l) (hn : l.length ≤ 17592186044416) :
    Calls Try.prog 32 #[.slice a1 l.length c1, .slice a2 l.length c2] w fun e y => e = .returned (.bool true) ∧ w.grownBy y none := by
  have H1 : Hid (∀ X, w.grownBy X none → IntsAt X a1 l ∧ IntsAt X a2 l) := fun X hX => ⟨h1.kept hX, h2.kept hX⟩
  obtain ⟨n, he⟩ : ∃ n, n = l.length := ⟨_, rfl⟩
  have HE : Hid (n = l.length) := he
  rw [← he] at hn
  rw [← he]
  have hnn : ((n : Int) != (n : Int)) = false := bne_self_eq_false _
  clear h1 h2 he
  go_enter Try.func32, Try.ntmps32
  go_wp2_with fail
  go_loopg [5] n (fun gk v5 wr => ∃ (j : Nat), j ≤ n ∧ gk = n - j ∧ v5 = .int .i64 j ∧ w.grownBy wr none)
  case atStart => exact ⟨0, Nat.zero_le _, rfl, rfl, grown_refl _ _⟩
  case round =>
    obtain ⟨j, hj, hgj, rfl, hg⟩ := hrel
    have HGJ : Hid (gk = n - j) := hgj
    have HG : Hid (w.grownBy wr none) := hg
    clear hgj hg
    by_cases hjl : j < n
    · have hjl2 : j < l.length := by rw [← HE.out]; exact hjl
      obtain ⟨ab, ao, rfl, hc1⟩ : ∃ ab ao, a1 = some ⟨ab, ao, none⟩ ∧ wr.cell? ⟨ab, ao + j, none⟩ = some (.int .i64 (l.getD j 0)) := by
        rcases (H1.out wr HG.out).1 with h | ⟨ab, ao, e, h⟩
        · rw [h] at hjl2; cases hjl2
        · exact ⟨ab, ao, e, h j hjl2⟩
      obtain ⟨bb, bo, rfl, hc2⟩ : ∃ ab ao, a2 = some ⟨ab, ao, none⟩ ∧ wr.cell? ⟨ab, ao + j, none⟩ = some (.int .i64 (l.getD j 0)) := by
        rcases (H1.out wr HG.out).2 with h | ⟨ab, ao, e, h⟩
        · rw [h] at hjl2; cases hjl2
        · exact ⟨ab, ao, e, h j hjl2⟩
      obtain ⟨x, hx⟩ : ∃ x, x = l.getD j 0 := ⟨_, rfl⟩
      rw [← hx] at hc1 hc2
      have hxx : (x != x) = false := bne_self_eq_false _
      have hj0 : (0 : Int) ≤ (j : Int) := by omega
      have hj1 : (j : Int) < (n : Int) := by omega
      have hjd : decide (j < n) = true := decide_eq_true hjl
      clear hx
      go_wp2_with fail
      go_quiet (fail)
      go_wp2_with fail
      go_roundg (n - (j + 1))
      case measure => have := HGJ.out; omega
      case rel => exact ⟨j + 1, by omega, rfl, by go_num, by first | exact HG.out | exact grown_trans HG.out (grown_drewN _ _)⟩
    · have hjn : n = j := by omega
      subst hjn
      have hjd : decide (n < n) = false := decide_eq_false (by omega)
      go_wp2_with fail
      go_ret
      exact ⟨rfl, HG.out⟩



/-- Laid rows in memory. -/
def RwsAt (X : World) (ba va oa : Option Addr) (bs vs os : List Int) : Prop := IntsAt X ba bs ∧ IntsAt X va vs ∧ IntsAt X oa os
theorem RwsAt.kept {X Y : World} {ba va oa : Option Addr} {bs vs os : List Int} (h : RwsAt X ba va oa bs vs os) (hg : X.grownBy Y none) : RwsAt Y ba va oa bs vs os := ⟨h.1.kept hg, h.2.1.kept hg, h.2.2.kept hg⟩

set_option maxRecDepth 100000 in
set_option maxHeartbeats 2000000 in
theorem rpSameRows_same (ba va oa ba' va' oa' : Option Addr) (bc vc oc bc' vc' oc' : Nat) (bs vs os : List Int) (w : World) (h : RwsAt w ba va oa bs vs os) (h' : RwsAt w ba' va' oa' bs vs os) (h1 : bs.length ≤ 17592186044416) (h2 : vs.length ≤ 17592186044416) (h3 : os.length ≤ 17592186044416) :
    Calls Try.prog 12 #[.agg #[.slice ba bs.length bc, .slice va vs.length vc, .slice oa os.length oc], .agg #[.slice ba' bs.length bc', .slice va' vs.length vc', .slice oa' os.length oc']] w fun e y => e = .returned (.bool true) ∧ w.grownBy y none := by
  have H1 : Hid (∀ X, w.grownBy X none → Calls Try.prog 32 #[.slice ba bs.length bc, .slice ba' bs.length bc'] X fun e y => e = .returned (.bool true) ∧ X.grownBy y none) := fun X hX => rpInts_same _ _ _ _ bs X (h.kept hX).1 (h'.kept hX).1 h1
  have H2 : Hid (∀ X, w.grownBy X none → Calls Try.prog 32 #[.slice va vs.length vc, .slice va' vs.length vc'] X fun e y => e = .returned (.bool true) ∧ X.grownBy y none) := fun X hX => rpInts_same _ _ _ _ vs X (h.kept hX).2.1 (h'.kept hX).2.1 h2
  have H3 : Hid (∀ X, w.grownBy X none → Calls Try.prog 32 #[.slice oa os.length oc, .slice oa' os.length oc'] X fun e y => e = .returned (.bool true) ∧ X.grownBy y none) := fun X hX => rpInts_same _ _ _ _ os X (h.kept hX).2.2 (h'.kept hX).2.2 h3
  obtain ⟨bl, hbl⟩ : ∃ v, v = bs.length := ⟨_, rfl⟩
  obtain ⟨vl, hvl⟩ : ∃ v, v = vs.length := ⟨_, rfl⟩
  obtain ⟨ol, hol⟩ : ∃ v, v = os.length := ⟨_, rfl⟩
  rw [← hbl] at H1 ⊢
  rw [← hvl] at H2 ⊢
  rw [← hol] at H3 ⊢
  clear h h' h1 h2 h3 hbl hvl hol
  obtain ⟨X, hX⟩ : ∃ X, X = (w.alloc (.cells #[.slice ba bl bc, .slice va vl vc, .slice oa ol oc] 26)).alloc (.cells #[.slice ba' bl bc', .slice va' vl vc', .slice oa' ol oc'] 26) := ⟨_, rfl⟩
  have HX : Hid (X = (w.alloc (.cells #[.slice ba bl bc, .slice va vl vc, .slice oa ol oc] 26)).alloc (.cells #[.slice ba' bl bc', .slice va' vl vc', .slice oa' ol oc'] 26)) := hX
  have hg1 : (w.alloc (.cells #[.slice ba bl bc, .slice va vl vc, .slice oa ol oc] 26)).grownBy X none := by rw [hX]; exact World.grownBy_alloc _ _ none
  have HG : Hid (w.grownBy X none) := grown_trans (World.grownBy_alloc _ _ none) hg1
  have HCC : Hid (∀ Y, X.grownBy Y none → (Y.cell? ⟨w.heap.size, 1, none⟩ = some (.slice va vl vc) ∧ Y.cell? ⟨w.heap.size, 2, none⟩ = some (.slice oa ol oc)) ∧ Y.cell? ⟨w.heap.size + 1, 1, none⟩ = some (.slice va' vl vc') ∧ Y.cell? ⟨w.heap.size + 1, 2, none⟩ = some (.slice oa' ol oc')) := fun Y hY => by
    have b0 := box_kept (box_kept (heap_alloc_last w (.cells #[.slice ba bl bc, .slice va vl vc, .slice oa ol oc] 26)) hg1) hY
    have b1 : X.heap[w.heap.size + 1]? = some (.cells #[.slice ba' bl bc', .slice va' vl vc', .slice oa' ol oc'] 26 (0, 0)) := by
      have h1 := heap_alloc_last (w.alloc (.cells #[.slice ba bl bc, .slice va vl vc, .slice oa ol oc] 26)) (.cells #[.slice ba' bl bc', .slice va' vl vc', .slice oa' ol oc'] 26)
      rw [hX]; simpa using h1
    have b2 := box_kept b1 hY
    exact ⟨⟨by rw [cell_of_row _ _ _ _ _ _ b0]; rfl, by rw [cell_of_row _ _ _ _ _ _ b0]; rfl⟩, by rw [cell_of_row _ _ _ _ _ _ b2]; rfl, by rw [cell_of_row _ _ _ _ _ _ b2]; rfl⟩
  clear hX hg1
  go_enter Try.func12, Try.ntmps12
  go_wp2_with fail
  rw [← HX.out]
  refine Calls.mono (H1.out X HG.out) ?_
  rintro e y ⟨rfl, hg1⟩
  have HG1 : Hid (X.grownBy y none) := hg1
  obtain ⟨⟨c0, c1⟩, c2, c3⟩ := HCC.out y hg1
  clear hg1
  go_wp2_with fail
  refine Calls.mono (H2.out y (grown_trans HG.out HG1.out)) ?_
  rintro e y2 ⟨rfl, hg2⟩
  have HG2 : Hid (X.grownBy y2 none) := grown_trans HG1.out hg2
  clear c0 c1 c2 c3
  obtain ⟨⟨c0, c1⟩, c2, c3⟩ := HCC.out y2 HG2.out
  clear hg2
  go_wp2_with fail
  refine Calls.mono (H3.out y2 (grown_trans HG.out HG2.out)) ?_
  rintro e y3 ⟨rfl, hg3⟩
  have HG3 : Hid (w.grownBy y3 none) := grown_trans HG.out (grown_trans HG2.out hg3)
  clear c0 c1 c2 c3 hg3
  go_wp2_with fail
  go_ret
  exact ⟨rfl, HG3.out⟩

end Go.Proofs.Ytgmljpkenipgjaa.J

/-
  lr0: kernels, walked.
-/
namespace Go.Proofs.Ytgmljpkenipgjaa.J
open Go.RowKit Go.Maps Go.Shelf

attribute [local go_sem] Oper.semAt_some

end Go.Proofs.Ytgmljpkenipgjaa.J

/-
  lr0: Closure and Goto.
-/
namespace Go.Proofs.Ytgmljpkenipgjaa.J
open Go.RowKit Go.Maps Go.Shelf

attribute [local go_sem] Oper.semAt_some

structure MayOK (tn nn n : Nat) (st : Int) (L : Nat → Int) (R : Nat → List Int) (cl : Bool) : Prop where
  t0 : 0 < tn
  tmax : tn ≤ 65
  n0 : 0 < nn
  nmax : nn ≤ 65
  pmax : n ≤ 97
  p0 : 0 < n
  left : ∀ k, k < n → (tn : Int) ≤ L k ∧ L k < ((tn + nn : Nat) : Int)
  right : ∀ k, k < n → ∀ x ∈ R k, (0 : Int) < x ∧ x < ((tn + nn : Nat) : Int)
  start : (tn : Int) ≤ st ∧ st < ((tn + nn : Nat) : Int)
  added : cl = true → L 0 = tn ∧ R 0 = [st]

/-- Is x one of S symbols? -/
def symB (S : Nat) (x : Int) : Bool := decide (0 ≤ x) && decide (x < (S : Int))
section
variable (ta na la pa : Option Addr) (tc nc lc pc : Nat) (ts : List (ByteArray × Int)) (ns : List ByteArray) (lv : List Int) (n : Nat) (L : Nat → Int) (R : Nat → List Int) (ra : Nat → Option Addr) (rc : Nat → Nat) (V : Nat → Int) (st : Int) (w : World) (tn nn ln : Nat) (hlen : ts.length = tn ∧ ns.length = nn ∧ lv.length = ln) (hG : GAt w ta na la pa tc nc lc pc ts ns lv n L R ra rc V) (a : Option Addr) (cap : Nat) (I : List It) (hI : ItsAt w a I)
include hlen hG hI
end

end Go.Proofs.Ytgmljpkenipgjaa.J

/-
  lr0: the law's small grammar.
-/
namespace Go.Proofs.Ytgmljpkenipgjaa.J
open Go.RowKit Go.Maps Go.Shelf

attribute [local go_sem] Oper.semAt_some

def kTs : List (ByteArray × Int) := [(⟨#[]⟩, 0), (⟨#[43]⟩, 0), (⟨#[110]⟩, 0)]
def kNs : List ByteArray := [⟨#[]⟩, ⟨#[101]⟩]
def kL (i : Nat) : Int := if i = 0 then 3 else 4
def kR (i : Nat) : List Int := if i = 0 then [4] else if i = 1 then [4, 1, 2] else [2]

end Go.Proofs.Ytgmljpkenipgjaa.J

/-
  lr0: the law's small grammar is closed.
-/
namespace Go.Proofs.Ytgmljpkenipgjaa.J
open Go.RowKit Go.Maps Go.Shelf

end Go.Proofs.Ytgmljpkenipgjaa.J

/-
  lr0: the automaton of the law's small grammar, pure.
-/
namespace Go.Proofs.Ytgmljpkenipgjaa.J
open Go.RowKit Go.Maps Go.Shelf

def kCl (k : List It) : List It := if k = [(0, 0)] then [(0, 0), (1, 0), (2, 0)] else k
def kKs : List (List It) := [[(0, 0)], [(2, 1)], [(0, 1), (1, 1)], [(1, 2)], [(1, 3)]]
def kEs : List (List (Nat × Nat)) := [[(2, 1), (4, 2)], [], [(1, 3)], [(2, 4)], []]

end Go.Proofs.Ytgmljpkenipgjaa.J
