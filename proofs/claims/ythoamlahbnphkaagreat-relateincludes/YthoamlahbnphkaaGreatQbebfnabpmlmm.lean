/-
  What lend lays: the box of the grammar, the lent one's box, and the rows behind.
-/
import Derived.Test.YthoamlahbnphkaaGreatQmhomikblijjf
import Derived.Test.YthoamlahbnphkaaGreatQlfgmecifahne
namespace Go.Proofs.YthoamlahbnphkaaGreat
open Go.RowKit Go.Maps Go.Shelf

/-- A row that lies behind the box stays, when the box is written. -/
theorem owns_box {W : World} {k j e s n : Nat} {v u : Value} {xs : List Value} (h : W.ownsRow (k + 1) e s v n xs) : (W.setCell ⟨k, j, none⟩ u).ownsRow (k + 1) e s v n xs := by
  refine h.kept (grown_setCell k j u) ?_
  cases hv : v.ownBlock with
  | none => exact .inl rfl
  | some g => have := (h.lt g hv).1; exact .inr (by simp; omega)

theorem keep0 {W W' : World} {B e s n : Nat} {v : Value} {xs : List Value} (h : W.ownsRow B e s v n xs) (hg : W.grownBy W' none) : W'.ownsRow B e s v n xs := h.kept hg (by cases hv : v.ownBlock <;> simp)

theorem wpList_append_src {w : World} {ops : Array Oper} {rest : List Oper} {o : Oper} {a : Act} {Q : Exit → Act → World → Prop} (hgd : o.guard = none) (s x : Operand) (t : TypeId)
    (ho : o.op = .call { callee := .builtin .append, args := #[s, x], argTypes := #[t, t] })
    (base : Nat) (e : TypeId) (i : TypeInfo) (z : Value) (size bytes : Nat) (ht : Tryz.prog.underlying t = some (.slice e)) (hi : Tryz.prog.info? e = some i) (hz : i.zero = some z)
    (hsize : i.size = size) (hby : i.bytes = bytes) (hzs : z.cells.size = size) (hsz : 0 < size)
    (v : Value) (n : Nat) (xs : List Value) (hs : a.eval s = v) (hown : w.ownsRow base e size v n xs)
    (xo : Option Addr) (m c : Nat) (news : List Value) (hx : a.eval x = .slice xo m c) (hnil : xo = none → m = 0 ∧ c = 0) (hl : news.length = m * size) (hnews : ∀ ad, xo = some ad → ∀ j u, news[j]? = some u → w.cell? (ad.add j) = some u) (h1 : ∀ u ∈ news, u.oneCell' = true)
    (h63 : n + m ≤ maxLen) (hbytes : (n + m) * bytes ≤ 140737488355328) (hbase : base ≤ w.heap.size)
    (h : ∀ v' w', w'.ownsRow base e size v' (n + m) (xs ++ news) → w.grownBy w' v.ownBlock → wpList Tryz.prog ops Q rest (a.put o.dst v') w') : wpList Tryz.prog ops Q (o :: rest) a w := by
  refine wpList_plain hgd fun K hK => ?_
  cases xo with
  | some ad => exact wp_append_own w s x t ho base e i z size bytes ht hi hz hsize hby hzs hsz v n xs hs hown ad m c news hx hl (hnews ad rfl) h1 h63 hbytes hbase fun v' w' h2 h3 _ => hK _ _ (h v' w' h2 h3)
  | none =>
    obtain ⟨rfl, rfl⟩ := hnil rfl
    have hn0 : news = [] := List.eq_nil_of_length_eq_zero (by simpa using hl)
    subst hn0
    have hrun := run_append_owned_none (P := Tryz.prog) (w := w) base t o.type e i size ht hi v n xs hown
    have hk := hK _ _ (h v w (by simpa using hown) ⟨rfl, rfl, rfl, Nat.le_refl _, fun _ _ _ => rfl⟩)
    unfold Oper.wp
    simp [execOp, ho, resolve, invoke, builtin, hs, hx, hrun, Result.andThen]
    exact hk

/-- What is appended lies in a block of its own. -/
theorem news_new (w : World) (cs : Array Value) (t : TypeId) : ∀ j u, cs.toList[j]? = some u → (w.alloc (.cells cs t)).cell? ((⟨w.heap.size, 0, none⟩ : Addr).add j) = some u := World.news_of_block (heap_alloc_last w _)
/-- A row that grew: what was there stays. -/
theorem grown_row {X w w' : World} {B e s n : Nat} {v : Value} {xs : List Value} (hX : X.grownBy w none) (ho : w.ownsRow B e s v n xs) (hB : X.heap.size ≤ B) (hg : w.grownBy w' v.ownBlock) : X.grownBy w' none := by
  cases hv : v.ownBlock with
  | none => rw [hv] at hg; exact grown_trans hX hg
  | some q => rw [hv] at hg; exact grown_new hX hg (Nat.le_trans hB (ho.lt q hv).1)

theorem infoInts : (Tryz.prog.info? 24).map (fun i => (i.zero, i.size, i.bytes)) = some (some (.slice none 0 0), 1, 24) := by kernel_rfl

/-- While the productions are lent: the first kr of their right sides, the first kp of them. -/
structure LMid (X : World) (B : Nat) (ts : List (ByteArray × Int)) (ns : List ByteArray) (lv : List Int) (kr kp : Nat) (L : Nat → Int) (R : Nat → List Int) (V : Nat → Int) (a1 a2 a3 a4 a5 : Option Addr) (tn nn ln c1 c2 c3 c4 c5 : Nat) (rg : Nat → Nat × Nat) : Prop where
  t : X.ownsRow B 88 2 (.slice a1 (tn + 1) c1) (tn + 1) (tmsL ts ++ [.string { data := #[115, 112, 97, 114, 101] }, .int .i64 0])
  s : X.ownsRow B 9 1 (.slice a2 (nn + 1) c2) (nn + 1) (ns.map Value.string ++ [.string { data := #[115, 112, 97, 114, 101] }])
  l : X.ownsRow B 3 1 (.slice a3 (ln + 1) c3) (ln + 1) (lv.map (Value.int .i64) ++ [.int .i64 77])
  r : X.ownsRow B 24 1 (.slice a4 kr c4) kr ((List.range kr).map fun i => .slice (some ⟨(rg i).1, 0, none⟩) ((R i).length + 1) (rg i).2)
  p : X.ownsRow B 71 3 (.slice a5 kp c5) kp (prodRow kp L (fun i => .slice (some ⟨(rg i).1, 0, none⟩) (R i).length (rg i).2) V)
  rr : ∀ i, i < kr → X.ownsRow B 3 1 (.slice (some ⟨(rg i).1, 0, none⟩) ((R i).length + 1) (rg i).2) ((R i).length + 1) ((R i).map (Value.int .i64) ++ [.int .i64 77])

section
variable {X Y : World} {B kr kp tn nn ln c1 c2 c3 c4 c5 : Nat} {ts : List (ByteArray × Int)} {ns : List ByteArray} {lv : List Int} {L : Nat → Int} {R : Nat → List Int} {V : Nat → Int} {a1 a2 a3 a4 a5 : Option Addr} {rg : Nat → Nat × Nat}
theorem LMid.kept (h : LMid X B ts ns lv kr kp L R V a1 a2 a3 a4 a5 tn nn ln c1 c2 c3 c4 c5 rg) (hg : X.grownBy Y none) : LMid Y B ts ns lv kr kp L R V a1 a2 a3 a4 a5 tn nn ln c1 c2 c3 c4 c5 rg :=
  ⟨keep0 h.t hg, keep0 h.s hg, keep0 h.l hg, keep0 h.r hg, keep0 h.p hg, fun i hi => keep0 (h.rr i hi) hg⟩
theorem LMid.box {kb j : Nat} {u : Value} (h : LMid X (kb + 1) ts ns lv kr kp L R V a1 a2 a3 a4 a5 tn nn ln c1 c2 c3 c4 c5 rg) : LMid (X.setCell ⟨kb, j, none⟩ u) (kb + 1) ts ns lv kr kp L R V a1 a2 a3 a4 a5 tn nn ln c1 c2 c3 c4 c5 rg :=
  ⟨owns_box h.t, owns_box h.s, owns_box h.l, owns_box h.r, owns_box h.p, fun i hi => owns_box (h.rr i hi)⟩
theorem owns_other {B' e e' s s' n n' : Nat} {v v' : Value} {xs xs' : List Value} (h : X.ownsRow B e s v n xs) (h' : X.ownsRow B' e' s' v' n' xs') (he : e ≠ e') (hg : X.grownBy Y v'.ownBlock) : Y.ownsRow B e s v n xs := h.kept hg (owns_ne h h' he)
end

/-- All rows of what was lent. -/
structure LRows (X : World) (B : Nat) (ts : List (ByteArray × Int)) (ns : List ByteArray) (lv : List Int) (n : Nat) (L : Nat → Int) (R : Nat → List Int) (V : Nat → Int) (a1 a2 a3 a4 a5 : Option Addr) (tn nn ln c1 c2 c3 c4 c5 : Nat) (rg : Nat → Nat × Nat) : Prop where
  t : X.ownsRow B 88 2 (.slice a1 (tn + 1) c1) (tn + 1) (tmsL ts ++ [.string { data := #[115, 112, 97, 114, 101] }, .int .i64 0])
  s : X.ownsRow B 9 1 (.slice a2 (nn + 1) c2) (nn + 1) (ns.map Value.string ++ [.string { data := #[115, 112, 97, 114, 101] }])
  l : X.ownsRow B 3 1 (.slice a3 (ln + 1) c3) (ln + 1) (lv.map (Value.int .i64) ++ [.int .i64 77])
  r : X.ownsRow B 24 1 (.slice a4 n c4) n ((List.range n).map fun i => .slice (some ⟨(rg i).1, 0, none⟩) ((R i).length + 1) (rg i).2)
  p : X.ownsRow B 71 3 (.slice a5 (n + 1) c5) (n + 1) (prodRow n L (fun i => .slice (some ⟨(rg i).1, 0, none⟩) (R i).length (rg i).2) V ++ [.int .i64 77, .slice none 0 0, .int .i64 0])
  rr : ∀ i, i < n → X.ownsRow B 3 1 (.slice (some ⟨(rg i).1, 0, none⟩) ((R i).length + 1) (rg i).2) ((R i).length + 1) ((R i).map (Value.int .i64) ++ [.int .i64 77])

section
variable {X Y : World} {B n tn nn ln c1 c2 c3 c4 c5 : Nat} {ts : List (ByteArray × Int)} {ns : List ByteArray} {lv : List Int} {L : Nat → Int} {R : Nat → List Int} {V : Nat → Int} {a1 a2 a3 a4 a5 : Option Addr} {rg : Nat → Nat × Nat}
theorem LRows.kept (h : LRows X B ts ns lv n L R V a1 a2 a3 a4 a5 tn nn ln c1 c2 c3 c4 c5 rg) (hg : X.grownBy Y none) : LRows Y B ts ns lv n L R V a1 a2 a3 a4 a5 tn nn ln c1 c2 c3 c4 c5 rg :=
  ⟨keep0 h.t hg, keep0 h.s hg, keep0 h.l hg, keep0 h.r hg, keep0 h.p hg, fun i hi => keep0 (h.rr i hi) hg⟩
theorem LRows.box {kb j : Nat} {u : Value} (h : LRows X (kb + 1) ts ns lv n L R V a1 a2 a3 a4 a5 tn nn ln c1 c2 c3 c4 c5 rg) : LRows (X.setCell ⟨kb, j, none⟩ u) (kb + 1) ts ns lv n L R V a1 a2 a3 a4 a5 tn nn ln c1 c2 c3 c4 c5 rg :=
  ⟨owns_box h.t, owns_box h.s, owns_box h.l, owns_box h.r, owns_box h.p, fun i hi => owns_box (h.rr i hi)⟩
end

end Go.Proofs.YthoamlahbnphkaaGreat
