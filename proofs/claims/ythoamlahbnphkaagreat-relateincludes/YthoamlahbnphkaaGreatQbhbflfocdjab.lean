import Derived.Test.YthoamlahbnphkaaGreatQbmllmdnigmme
import Derived.Test.YthoamlahbnphkaaGreatQikhhlipnhbhg
import Derived.Test.YthoamlahbnphkaaGreatQhkbpbgmadelp
import Derived.Deep.DeepAppendWide

/-
  lr0: rows of values; marks counted; append, wide.
-/
namespace Go.Proofs.YthoamlahbnphkaaGreat.J
open Go.RowKit Go.Maps Go.Shelf

/-- A row of values, whole in block k. -/
def ValAt (w : World) (k len : Nat) (t : TypeId) (c : Nat → Value) : Prop := w.heap[k]? = some (.cells ((List.range len).map c).toArray t (0, 0))
section
variable {w w' : World} {k len : Nat} {t : TypeId} {c : Nat → Value}
theorem ValAt.cell (h : ValAt w k len t c) (i : Nat) (hi : i < len) : w.cell? ⟨k, i, none⟩ = some (c i) := by
  rw [cell_of_row _ _ _ _ _ _ h]; simp [hi]
theorem ValAt.free (h : ValAt w k len t c) (i : Nat) : w.frozen? ⟨k, i, none⟩ = false := frozen_of_row _ _ _ _ _ h
theorem ValAt.lt (h : ValAt w k len t c) : k < w.heap.size := (Array.getElem?_eq_some_iff.1 h).1
theorem ValAt.kept (h : ValAt w k len t c) (hg : w.grownBy w' none) : ValAt w' k len t c := (hg.block k h.lt (by simp)).trans h
theorem ValAt.at {b : Nat} (h : ValAt w k len t c) (hg : w.grownBy w' (some b)) (hne : k ≠ b) : ValAt w' k len t c := (hg.block k h.lt (by simpa using hne)).trans h
/-- The cells with one turned. -/
def put (c : Nat → Value) (x : Nat) (v : Value) : Nat → Value := fun i => if i = x then v else c i
theorem ValAt.set (h : ValAt w k len t c) (x : Nat) (v : Value) : ValAt (w.setCell ⟨k, x, none⟩ v) k len t (put c x v) := by
  unfold ValAt
  rw [heap_setCell_same _ _ _ _ _ _ h]
  congr 2
  apply Array.ext'
  apply List.ext_getElem?
  intro i
  simp only [Array.toList_setIfInBounds, List.getElem?_set, List.getElem?_map]
  by_cases hi : i < len
  · by_cases e : x = i
    · subst e; simp [hi, put]
    · have e2 : ¬ i = x := fun h => e h.symm
      simp [e, e2, hi, put]
  · by_cases e : x = i
    · subst e; simp [hi]
    · simp [e, hi]
end
theorem made_rowK {w1 : World} {B g n : Nat} {t : TypeId} {z : Value} (hz : z.cells = #[z]) (h : w1.ownsRow B t 1 (.slice (some ⟨g, 0, none⟩) n n) n (madeCells z.cells (n * 1)).toList) : ValAt w1 g n t (fun _ => z) := by
  rcases h.2 with ⟨h', _⟩ | ⟨g', cap, cur, hv, _, hh, _, _, hs, ht⟩
  · cases h'
  · simp only [Value.slice.injEq, Option.some.injEq, Addr.mk.injEq, and_true, true_and] at hv
    obtain ⟨rfl, rfl⟩ := hv
    have e : cur = ((List.range n).map fun _ => z).toArray := by
      apply Array.ext'
      rw [show cur.toList = cur.toList.take (n * 1) by rw [List.take_of_length_le (by simp; omega)], ht]
      rw [hz, toList_madeCells_one, Nat.mul_one]
      rw [List.map_const', List.length_range]
    unfold ValAt
    rw [hh, e]
theorem ValAt.ext {w : World} {k len : Nat} {t : TypeId} {c d : Nat → Value} (h : ValAt w k len t c) (e : ∀ i, i < len → c i = d i) : ValAt w k len t d := by
  unfold ValAt at *
  rw [h, List.map_congr_left fun i hi => e i (by simpa using hi)]

set_option maxRecDepth 100000 in
set_option maxHeartbeats 1000000 in

/-- One mark more. -/
def markT (f : Nat → Bool) (x : Nat) : Nat → Bool := fun i => if i = x then true else f i
/-- How many of the first n are not marked. -/
def unm : Nat → (Nat → Bool) → Nat
  | 0, _ => 0
  | n + 1, f => unm n f + (if f n then 0 else 1)
theorem unm_out (f : Nat → Bool) (x : Nat) : ∀ n, n ≤ x → unm n (markT f x) = unm n f
  | 0, _ => rfl
  | n + 1, h => by
    have e : markT f x n = f n := by unfold markT; rw [if_neg (by omega)]
    simp only [unm, unm_out f x n (by omega), e]
theorem unm_mark (f : Nat → Bool) (x : Nat) (hf : f x = false) : ∀ n, x < n → unm n (markT f x) + 1 = unm n f
  | 0, h => by omega
  | n + 1, h => by
    by_cases e : x = n
    · subst e
      have e1 : markT f x x = true := by simp [markT]
      simp [unm, unm_out f x x (Nat.le_refl _), e1, hf]
    · have e1 : markT f x n = f n := by unfold markT; rw [if_neg (fun h => e h.symm)]
      have ih := unm_mark f x hf n (by omega)
      simp only [unm, e1]
      omega


theorem unm_le : ∀ (n : Nat) (f : Nat → Bool), unm n f ≤ n
  | 0, _ => Nat.le_refl _
  | n + 1, f => by
    have := unm_le n f
    unfold unm
    split <;> omega

theorem wpList_append_srcW {w : World} {ops : Array Oper} {rest : List Oper} {o : Oper} {a : Act} {Q : Exit → Act → World → Prop} (hgd : o.guard = none) (s x : Operand) (t : TypeId)
    (ho : o.op = .call { callee := .builtin .append, args := #[s, x], argTypes := #[t, t] })
    (base : Nat) (e : TypeId) (i : TypeInfo) (z : Value) (size bytes : Nat) (ht : Tryz.prog.underlying t = some (.slice e)) (hi : Tryz.prog.info? e = some i) (hz : i.zero = some z)
    (hsize : i.size = size) (hby : i.bytes = bytes) (hzs : z.cells.size = size) (hsz : 0 < size)
    (v : Value) (n : Nat) (xs : List Value) (hs : a.eval s = v) (hown : w.ownsRow base e size v n xs)
    (xo : Option Addr) (m c : Nat) (news : List Value) (hx : a.eval x = .slice xo m c) (hnil : xo = none → m = 0 ∧ c = 0) (hl : news.length = m * size) (hnews : ∀ ad, xo = some ad → ∀ j u, news[j]? = some u → w.cell? (ad.add j) = some u) (h1 : ∀ u ∈ news, u.oneCell' = true)
    (h63 : n + m ≤ maxLen) (hbytes : ((n + m) + (n + m) / 4 + 192) * bytes ≤ 281474976710656) (hbase : base ≤ w.heap.size)
    (h : ∀ v' w', w'.ownsRow base e size v' (n + m) (xs ++ news) → w.grownBy w' v.ownBlock → wpList Tryz.prog ops Q rest (a.put o.dst v') w') : wpList Tryz.prog ops Q (o :: rest) a w := by
  refine wpList_plain hgd fun K hK => ?_
  cases xo with
  | some ad => exact wp_append_own_wide w s x t ho base e i z size bytes ht hi hz hsize hby hzs hsz v n xs hs hown ad m c news hx hl (hnews ad rfl) h1 h63 hbytes hbase fun v' w' h2 h3 _ => hK _ _ (h v' w' h2 h3)
  | none =>
    obtain ⟨rfl, rfl⟩ := hnil rfl
    have hn0 : news = [] := List.eq_nil_of_length_eq_zero (by simpa using hl)
    subst hn0
    have hrun := run_append_owned_none (P := Tryz.prog) (w := w) base t o.type e i size ht hi v n xs hown
    have hk := hK _ _ (h v w (by simpa using hown) ⟨rfl, rfl, rfl, Nat.le_refl _, fun _ _ _ => rfl⟩)
    unfold Oper.wp
    simp [execOp, ho, resolve, invoke, builtin, hs, hx, hrun, Result.andThen]
    exact hk


theorem its_cells {w : World} {a : Option Addr} {l : List It} (h : ItsAt w a l) : ∀ x, a = some x → ∀ j u, (itsV l)[j]? = some u → w.cell? (x.add j) = some u := by
  intro x hx j u hu
  rcases h with h | ⟨b, off, e, hc⟩
  · rw [h] at hu; simp [itsV] at hu
  · rw [hx] at e
    simp only [Option.some.injEq] at e
    subst e
    rw [Addr.add_mid]
    have hj : j < l.length * 2 := by have := (List.getElem?_eq_some_iff.1 hu).1; rwa [itsV_length] at this
    have h1 := hc (j / 2) (by omega)
    have h2 := itsV_at l (j / 2) (by omega)
    have hm : j % 2 = 0 ∨ j % 2 = 1 := by omega
    rcases hm with hm | hm
    · have e : j = j / 2 * 2 := by omega
      rw [← e] at h1 h2
      rw [h1.1, ← hu, h2.1]
    · have e : j = j / 2 * 2 + 1 := by omega
      rw [Nat.add_assoc, ← e] at h1
      rw [← e] at h2
      rw [h1.2, ← hu, h2.2]

set_option maxRecDepth 100000 in
theorem compact_any (w : World) (B : Nat) (a : Option Addr) (c : Nat) (l : List It) (hown : w.ownsRow B 69 2 (.slice a l.length c) l.length (itsV l)) (hb : l.length ≤ 1099511627776000) :
    Calls Tryz.prog 82 #[.slice a l.length c] w fun e y => CompTold B a c l w e y := by
  by_cases h2 : 2 ≤ l.length
  · rcases hown.2 with ⟨hv, h0⟩ | ⟨g, cap, cur, hv, hB, hh, hn, hm, hs, ht⟩
    · omega
    · simp only [Value.slice.injEq] at hv
      obtain ⟨rfl, _, rfl⟩ := hv
      refine compact_big w B g c l.length l rfl hn hm hB h2 hb ⟨⟨rfl, rfl, rfl, Nat.le_refl _, fun _ _ _ => rfl⟩, cur, hh, hs, fun i hi => absurd hi (Nat.not_lt_zero _), fun i _ hi => ?_⟩
      obtain ⟨h3, h4⟩ := itsV_at l i hi
      rw [← ht, List.getElem?_take, if_pos (by omega)] at h3 h4
      exact ⟨by simpa using h3, by simpa using h4⟩
  · have HD : Hid (ddT l l.length = l) := by
      show _ = _
      match l, h2 with
      | [], _ => rfl
      | [x], _ => rfl
      | x :: y :: r, h => exact absurd (by simp) h
    obtain ⟨m, hm⟩ : ∃ m, m = l.length := ⟨_, rfl⟩
    have HM : Hid (m = l.length) := hm
    have HO : Hid (w.ownsRow B 69 2 (.slice a l.length c) l.length (itsV l)) := hown
    rw [← hm] at h2
    rw [← hm]
    have hd : decide (m < 2) = true := decide_eq_true (by omega)
    have hd2 : decide ((m : Int) < 2) = true := decide_eq_true (by omega)
    clear hm hown hb
    go_enter Tryz.func82, Tryz.ntmps82
    go_wp2_with fail
    go_ret
    exact ⟨m, by rw [HD.out]; exact HM.out, rfl, by rw [HD.out, HM.out]; exact HO.out, ⟨rfl, rfl, rfl, Nat.le_refl _, fun _ _ _ => rfl⟩⟩

end Go.Proofs.YthoamlahbnphkaaGreat.J

/-
  lr0: the document's SameItems; items laid in order, pure.
-/
namespace Go.Proofs.YthoamlahbnphkaaGreat.J
open Go.RowKit Go.Maps Go.Shelf

attribute [local go_sem] Oper.semAt_some

theorem ItsAt.at {X : World} {a : Option Addr} {l : List It} (h : ItsAt X a l) {i : Nat} (hi : i < l.length) : ∃ b off, a = some ⟨b, off, none⟩ ∧ X.cell? ⟨b, off + i * 2, none⟩ = some (.int .i64 (l.getD i (0, 0)).1) ∧ X.cell? ⟨b, off + i * 2 + 1, none⟩ = some (.int .i64 (l.getD i (0, 0)).2) := by
  rcases h with h | ⟨b, off, e, h⟩
  · rw [h] at hi; cases hi
  · exact ⟨b, off, e, h i hi⟩

/-- Where x belongs in a list in order. -/
structure Spot (x : It) (l : List It) (k : Nat) : Prop where
  le : k ≤ l.length
  lt : ∀ j, j < k → ltI (l.getD j (0, 0)) x
  ge : k < l.length → ¬ ltI (l.getD k (0, 0)) x
end Go.Proofs.YthoamlahbnphkaaGreat.J
