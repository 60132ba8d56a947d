/-
  trans: what the law TransExact spoils, in memory.
-/
import Derived.Test.YtckgjolaoifgkaaGreatQgfbpfnkpgocg
namespace Go.Proofs.YtckgjolaoifgkaaGreat.J
open Go.RowKit Go.Maps Go.Shelf

/-- A row of numbers of one's own, whatever it holds. -/
def Like1 (X : World) (B : Nat) (v : Value) (n : Nat) : Prop := ∃ xs, X.ownsRow B 3 1 v n xs
theorem Like1.sized {X Y : World} {B n : Nat} {v : Value} (h : Like1 X B v n) (hs : Sizes X Y) : Like1 Y B v n := by
  obtain ⟨xs, h1, h2⟩ := h
  rcases h2 with ⟨rfl, rfl⟩ | ⟨g, cap, cur, rfl, hB, hh, h3, h4, h5, h6⟩
  · exact ⟨xs, h1, .inl ⟨rfl, rfl⟩⟩
  · obtain ⟨cur', h7, h8⟩ := hs g cur _ hh
    refine ⟨cur'.toList.take (n * 1), ?_, .inr ⟨g, cap, cur', rfl, hB, h7, h3, h4, by rw [h8]; exact h5, rfl⟩⟩
    rw [List.length_take, Array.length_toList, h8, h5]
    omega
theorem Like1.at {X : World} {B n i : Nat} {v : Value} (h : Like1 X B v n) (hi : i < n) : ∃ g c u0 cur, v = .slice (some ⟨g, 0, none⟩) n c ∧ B ≤ g ∧ X.cell? ⟨g, i, none⟩ = some u0 ∧ (∀ o, X.frozen? ⟨g, o, none⟩ = false) ∧ X.heap[g]? = some (.cells cur 3 (0, 0)) := by
  obtain ⟨xs, h1, h2⟩ := h
  rcases h2 with ⟨rfl, rfl⟩ | ⟨g, cap, cur, rfl, hB, hh, h3, h4, h5, h6⟩
  · omega
  · refine ⟨g, cap, cur[i]'(by omega), cur, rfl, hB, ?_, fun o => frozen_of_row _ _ _ _ _ hh, hh⟩
    rw [cell_of_row _ _ _ _ _ _ hh, Array.getElem?_eq_getElem]

section
variable {P : Program} (w : World)
theorem wpList_append_like {ops : Array Oper} {rest : List Oper} {o : Oper} {a : Act} {Q : Exit → Act → World → Prop} (hgd : o.guard = none) (s x : Operand) (t : TypeId)
    (ho : o.op = .call { callee := .builtin .append, args := #[s, x], argTypes := #[t, t] })
    (base : Nat) (e : TypeId) (i : TypeInfo) (z : Value) (size bytes : Nat) (ht : P.underlying t = some (.slice e)) (hi : P.info? e = some i) (hz : i.zero = some z)
    (hsize : i.size = size) (hby : i.bytes = bytes) (hzs : z.cells.size = size) (hsz : 0 < size)
    (v : Value) (n : Nat) (xs : List Value) (hs : a.eval s = v) (hown : w.ownsRow base e size v n xs)
    (ad : Addr) (m c : Nat) (news : List Value) (hx : a.eval x = .slice (some ad) m c) (hl : news.length = m * size) (hnews : ∀ j u, news[j]? = some u → w.cell? (ad.add j) = some u) (h1 : ∀ u ∈ news, u.oneCell' = true)
    (h63 : n + m ≤ maxLen) (hbytes : ((n + m) + (n + m) / 4 + 192) * bytes ≤ 281474976710656) (hbase : base ≤ w.heap.size)
    (h : ∀ a' c' w', w.grownBy w' v.ownBlock → Sizes w w' → wpList P ops Q rest (a.put o.dst (.slice a' (n + m) c')) w') : wpList P ops Q (o :: rest) a w := by
  refine wpList_plain hgd fun K hK => ?_
  obtain ⟨a', c', w', hr, h2, h3⟩ := run_append_like (P := P) w t o.type base e i z size bytes ht hi hz hsize hby hzs hsz v n xs hown ad m c news hl hnews h1 h63 hbytes hbase
  unfold Oper.wp execOp
  simp only [ho, resolve, invoke, builtin, Sem.run_bind, Sem.run_pure, Result.andThen_ok, List.map_toArray, List.map_cons, List.map_nil, hs, hx, hr]
  exact hK _ _ (h a' c' w' h2 h3)
end

/-- The transitions and the lists while they are spoilt: from k1 and k2 on they are as they were. -/
structure ExT (w0 X : World) (gl rb K k1 k2 : Nat) (l : List It) (Q : Nat → List Int) (ua : Nat → Option Addr) (uc : Nat → Nat) (lcur dcur : Array Value) : Prop where
  grown : w0.grownBy X none
  lb : X.heap[gl]? = some (.cells lcur 39 (0, 0))
  db : X.heap[rb]? = some (.cells dcur 24 (0, 0))
  la : ∀ j, k1 ≤ j → j < K → lcur[j * 2]? = some (.int .i64 (l.getD j (0, 0)).1) ∧ lcur[j * 2 + 1]? = some (.int .i64 (l.getD j (0, 0)).2)
  da : ∀ j, k2 ≤ j → j < K → dcur[j]? = some (.slice (ua j) (Q j).length (uc j))
  rows : ∀ j, k2 ≤ j → j < K → Like1 X w0.heap.size (.slice (ua j) (Q j).length (uc j)) (Q j).length
  lo : w0.heap.size ≤ gl ∧ w0.heap.size ≤ rb
section
variable {w0 X Y : World} {gl rb K k1 k2 : Nat} {l : List It} {Q : Nat → List Int} {ua : Nat → Option Addr} {uc : Nat → Nat} {lcur dcur : Array Value}
theorem ExT.kept (h : ExT w0 X gl rb K k1 k2 l Q ua uc lcur dcur) (hg : X.grownBy Y none) : ExT w0 Y gl rb K k1 k2 l Q ua uc lcur dcur :=
  ⟨grown_trans h.grown hg, box_kept h.lb hg, box_kept h.db hg, h.la, h.da, fun j h1 h2 => (h.rows j h1 h2).sized (.ofG hg), h.lo⟩
theorem ExT.cellL {j : Nat} (h : ExT w0 X gl rb K k1 k2 l Q ua uc lcur dcur) (h1 : k1 ≤ j) (h2 : j < K) : X.cell? ⟨gl, j * 2, none⟩ = some (.int .i64 (l.getD j (0, 0)).1) ∧ X.cell? ⟨gl, j * 2 + 1, none⟩ = some (.int .i64 (l.getD j (0, 0)).2) := by
  rw [cell_of_row _ _ _ _ _ _ h.lb, cell_of_row _ _ _ _ _ _ h.lb]; exact h.la j h1 h2
theorem ExT.cellD {j : Nat} (h : ExT w0 X gl rb K k1 k2 l Q ua uc lcur dcur) (h1 : k2 ≤ j) (h2 : j < K) : X.cell? ⟨rb, j, none⟩ = some (.slice (ua j) (Q j).length (uc j)) := by
  rw [cell_of_row _ _ _ _ _ _ h.db]; exact h.da j h1 h2
theorem ExT.freeL (h : ExT w0 X gl rb K k1 k2 l Q ua uc lcur dcur) (o : Nat) : X.frozen? ⟨gl, o, none⟩ = false := frozen_of_row _ _ _ _ _ h.lb
theorem ExT.freeD (h : ExT w0 X gl rb K k1 k2 l Q ua uc lcur dcur) (o : Nat) : X.frozen? ⟨rb, o, none⟩ = false := frozen_of_row _ _ _ _ _ h.db
/-- A transition is written over. -/
theorem ExT.setL {k : Nat} {u1 u2 : Value} (h : ExT w0 X gl rb K k k2 l Q ua uc lcur dcur) : ExT w0 ((X.setCell ⟨gl, k * 2, none⟩ u1).setCell ⟨gl, k * 2 + 1, none⟩ u2) gl rb K (k + 1) k2 l Q ua uc ((lcur.setIfInBounds (k * 2) u1).setIfInBounds (k * 2 + 1) u2) dcur := by
  have h1 := heap_setCell_same _ _ (k * 2) _ _ u1 h.lb
  have g1 : X.grownBy (X.setCell ⟨gl, k * 2, none⟩ u1) (some gl) := grown_setCell _ _ _
  have g2 : (X.setCell ⟨gl, k * 2, none⟩ u1).grownBy ((X.setCell ⟨gl, k * 2, none⟩ u1).setCell ⟨gl, k * 2 + 1, none⟩ u2) (some gl) := grown_setCell _ _ _
  refine ⟨grown_new (grown_new h.grown g1 h.lo.1) g2 h.lo.1, heap_setCell_same _ _ _ _ _ _ h1, spoil_other (spoil_other h.db h.lb (by decide) g1) h1 (by decide) g2, fun j a1 a2 => ?_, h.da, fun j a1 a2 => (h.rows j a1 a2).sized (.trans (.set _ _ _ _) (.set _ _ _ _)), h.lo⟩
  rw [Array.getElem?_setIfInBounds_ne (by omega), Array.getElem?_setIfInBounds_ne (by omega), Array.getElem?_setIfInBounds_ne (by omega), Array.getElem?_setIfInBounds_ne (by omega)]
  exact h.la j (by omega) a2
/-- A block of numbers from w0's end on is turned, its size kept. -/
theorem ExT.turn {g : Nat} {cs : Array Value} (h : ExT w0 X gl rb K k1 k2 l Q ua uc lcur dcur) (hg : X.grownBy Y (some g)) (hs : Sizes X Y) (hb : X.heap[g]? = some (.cells cs 3 (0, 0))) (hB : w0.heap.size ≤ g) : ExT w0 Y gl rb K k1 k2 l Q ua uc lcur dcur :=
  ⟨grown_new h.grown hg hB, spoil_other h.lb hb (by decide) hg, spoil_other h.db hb (by decide) hg, h.la, h.da, fun j a1 a2 => (h.rows j a1 a2).sized hs, h.lo⟩
theorem ExT.more {n : Nat} {v : Value} {xs : List Value} (h : ExT w0 X gl rb K k1 k2 l Q ua uc lcur dcur) (ho : X.ownsRow w0.heap.size 3 1 v n xs) (hg : X.grownBy Y v.ownBlock) (hs : Sizes X Y) : ExT w0 Y gl rb K k1 k2 l Q ua uc lcur dcur := by
  rcases ho.2 with ⟨rfl, _⟩ | ⟨g, cap, c2, rfl, hB, hh, _⟩
  · exact h.kept hg
  · exact h.turn (g := g) hg hs hh hB
/-- A list is told anew. -/
theorem ExT.setD {k : Nat} {u : Value} (h : ExT w0 X gl rb K k1 k l Q ua uc lcur dcur) : ExT w0 (X.setCell ⟨rb, k, none⟩ u) gl rb K k1 (k + 1) l Q ua uc lcur (dcur.setIfInBounds k u) := by
  have g1 : X.grownBy (X.setCell ⟨rb, k, none⟩ u) (some rb) := grown_setCell _ _ _
  refine ⟨grown_new h.grown g1 h.lo.2, spoil_other h.lb h.db (by decide) g1, heap_setCell_same _ _ _ _ _ _ h.db, h.la, fun j a1 a2 => ?_, fun j a1 a2 => (h.rows j (by omega) a2).sized (.set _ _ _ _), h.lo⟩
  rw [Array.getElem?_setIfInBounds_ne (by omega)]
  exact h.da j (by omega) a2
end

end Go.Proofs.YtckgjolaoifgkaaGreat.J
