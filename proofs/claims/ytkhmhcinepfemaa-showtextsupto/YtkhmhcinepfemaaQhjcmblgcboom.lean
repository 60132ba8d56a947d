import Derived.Test.YtkhmhcinepfemaaQfppihokionde

/-
  What lend lays: the box of the grammar, the lent one's box, and the rows behind.
-/
namespace Go.Proofs.Ytkhmhcinepfemaa
open Go.RowKit Go.Maps Go.Shelf

/-- A row that lies behind the box stays, when the box is written. -/
theorem owns_box {W : World} {k j e s n : Nat} {v u : Value} {xs : List Value} (h : W.ownsRow (k + 1) e s v n xs) : (W.setCell ⟨k, j, none⟩ u).ownsRow (k + 1) e s v n xs := by
  refine h.kept (grown_setCell k j u) ?_
  cases hv : v.ownBlock with
  | none => exact .inl rfl
  | some g => have := (h.lt g hv).1; exact .inr (by simp; omega)

theorem keep0 {W W' : World} {B e s n : Nat} {v : Value} {xs : List Value} (h : W.ownsRow B e s v n xs) (hg : W.grownBy W' none) : W'.ownsRow B e s v n xs := h.kept hg (by cases hv : v.ownBlock <;> simp)

theorem ints_cells {w : World} {a : Option Addr} {l : List Int} (h : IntsAt w a l) : ∀ x, a = some x → ∀ j u, (l.map (Value.int .i64))[j]? = some u → w.cell? (x.add j) = some u := by
  intro x hx j u hu
  rcases h with h | ⟨b, off, e, hc⟩
  · rw [h] at hu; simp at hu
  · rw [hx] at e
    simp only [Option.some.injEq] at e
    subst e
    rw [Addr.add_mid]
    have hj : j < l.length := by have := (List.getElem?_eq_some_iff.1 hu).1; simpa using this
    rw [hc j hj]
    simp [hj] at hu
    simp [List.getD, hj, hu]

theorem wpList_append_src {w : World} {ops : Array Oper} {rest : List Oper} {o : Oper} {a : Act} {Q : Exit → Act → World → Prop} (hgd : o.guard = none) (s x : Operand) (t : TypeId)
    (ho : o.op = .call { callee := .builtin .append, args := #[s, x], argTypes := #[t, t] })
    (base : Nat) (e : TypeId) (i : TypeInfo) (z : Value) (size bytes : Nat) (ht : Try.prog.underlying t = some (.slice e)) (hi : Try.prog.info? e = some i) (hz : i.zero = some z)
    (hsize : i.size = size) (hby : i.bytes = bytes) (hzs : z.cells.size = size) (hsz : 0 < size)
    (v : Value) (n : Nat) (xs : List Value) (hs : a.eval s = v) (hown : w.ownsRow base e size v n xs)
    (xo : Option Addr) (m c : Nat) (news : List Value) (hx : a.eval x = .slice xo m c) (hnil : xo = none → m = 0 ∧ c = 0) (hl : news.length = m * size) (hnews : ∀ ad, xo = some ad → ∀ j u, news[j]? = some u → w.cell? (ad.add j) = some u) (h1 : ∀ u ∈ news, u.oneCell' = true)
    (h63 : n + m ≤ maxLen) (hbytes : (n + m) * bytes ≤ 140737488355328) (hbase : base ≤ w.heap.size)
    (h : ∀ v' w', w'.ownsRow base e size v' (n + m) (xs ++ news) → w.grownBy w' v.ownBlock → wpList Try.prog ops Q rest (a.put o.dst v') w') : wpList Try.prog ops Q (o :: rest) a w := by
  refine wpList_plain hgd fun K hK => ?_
  cases xo with
  | some ad => exact wp_append_own w s x t ho base e i z size bytes ht hi hz hsize hby hzs hsz v n xs hs hown ad m c news hx hl (hnews ad rfl) h1 h63 hbytes hbase fun v' w' h2 h3 _ => hK _ _ (h v' w' h2 h3)
  | none =>
    obtain ⟨rfl, rfl⟩ := hnil rfl
    have hn0 : news = [] := List.eq_nil_of_length_eq_zero (by simpa using hl)
    subst hn0
    have hrun := run_append_owned_none (P := Try.prog) (w := w) base t o.type e i size ht hi v n xs hown
    have hk := hK _ _ (h v w (by simpa using hown) ⟨rfl, rfl, rfl, Nat.le_refl _, fun _ _ _ => rfl⟩)
    unfold Oper.wp
    simp [execOp, ho, resolve, invoke, builtin, hs, hx, hrun, Result.andThen]
    exact hk

/-- What is appended lies in a block of its own. -/
theorem news_new (w : World) (cs : Array Value) (t : TypeId) : ∀ j u, cs.toList[j]? = some u → (w.alloc (.cells cs t)).cell? ((⟨w.heap.size, 0, none⟩ : Addr).add j) = some u := World.news_of_block (heap_alloc_last w _)
theorem news_kept {w w' : World} {B : Nat} {cs : Array Value} {t : TypeId} {fz : Nat × Nat} (hb : w.heap[B]? = some (.cells cs t fz)) (hg : w.grownBy w' none) : ∀ j u, cs.toList[j]? = some u → w'.cell? ((⟨B, 0, none⟩ : Addr).add j) = some u := World.news_of_block ((hg.block B (Array.getElem?_eq_some_iff.1 hb).1 (by simp)).trans hb)

/-- A row that grew: what was there stays. -/
theorem grown_row {X w w' : World} {B e s n : Nat} {v : Value} {xs : List Value} (hX : X.grownBy w none) (ho : w.ownsRow B e s v n xs) (hB : X.heap.size ≤ B) (hg : w.grownBy w' v.ownBlock) : X.grownBy w' none := by
  cases hv : v.ownBlock with
  | none => rw [hv] at hg; exact grown_trans hX hg
  | some q => rw [hv] at hg; exact grown_new hX hg (Nat.le_trans hB (ho.lt q hv).1)

theorem infoInts : (Try.prog.info? 24).map (fun i => (i.zero, i.size, i.bytes)) = some (some (.slice none 0 0), 1, 24) := by kernel_rfl

/-- While the productions are lent: the first kr of their right sides, the first kp of them. -/
structure LMid (X : World) (B : Nat) (ts : List (ByteArray × Int)) (ns : List ByteArray) (lv : List Int) (kr kp : Nat) (L : Nat → Int) (R : Nat → List Int) (V : Nat → Int) (a1 a2 a3 a4 a5 : Option Addr) (tn nn ln c1 c2 c3 c4 c5 : Nat) (rg : Nat → Nat × Nat) : Prop where
  t : X.ownsRow B 60 2 (.slice a1 (tn + 1) c1) (tn + 1) (tmsL ts ++ [.string { data := #[115, 112, 97, 114, 101] }, .int .i64 0])
  s : X.ownsRow B 9 1 (.slice a2 (nn + 1) c2) (nn + 1) (ns.map Value.string ++ [.string { data := #[115, 112, 97, 114, 101] }])
  l : X.ownsRow B 3 1 (.slice a3 (ln + 1) c3) (ln + 1) (lv.map (Value.int .i64) ++ [.int .i64 77])
  r : X.ownsRow B 24 1 (.slice a4 kr c4) kr ((List.range kr).map fun i => .slice (some ⟨(rg i).1, 0, none⟩) ((R i).length + 1) (rg i).2)
  p : X.ownsRow B 47 3 (.slice a5 kp c5) kp (prodRow kp L (fun i => .slice (some ⟨(rg i).1, 0, none⟩) (R i).length (rg i).2) V)
  rr : ∀ i, i < kr → X.ownsRow B 3 1 (.slice (some ⟨(rg i).1, 0, none⟩) ((R i).length + 1) (rg i).2) ((R i).length + 1) ((R i).map (Value.int .i64) ++ [.int .i64 77])

section
variable {X Y : World} {B kr kp tn nn ln c1 c2 c3 c4 c5 : Nat} {ts : List (ByteArray × Int)} {ns : List ByteArray} {lv : List Int} {L : Nat → Int} {R : Nat → List Int} {V : Nat → Int} {a1 a2 a3 a4 a5 : Option Addr} {rg : Nat → Nat × Nat}
theorem LMid.kept (h : LMid X B ts ns lv kr kp L R V a1 a2 a3 a4 a5 tn nn ln c1 c2 c3 c4 c5 rg) (hg : X.grownBy Y none) : LMid Y B ts ns lv kr kp L R V a1 a2 a3 a4 a5 tn nn ln c1 c2 c3 c4 c5 rg :=
  ⟨keep0 h.t hg, keep0 h.s hg, keep0 h.l hg, keep0 h.r hg, keep0 h.p hg, fun i hi => keep0 (h.rr i hi) hg⟩
theorem LMid.box {kb j : Nat} {u : Value} (h : LMid X (kb + 1) ts ns lv kr kp L R V a1 a2 a3 a4 a5 tn nn ln c1 c2 c3 c4 c5 rg) : LMid (X.setCell ⟨kb, j, none⟩ u) (kb + 1) ts ns lv kr kp L R V a1 a2 a3 a4 a5 tn nn ln c1 c2 c3 c4 c5 rg :=
  ⟨owns_box h.t, owns_box h.s, owns_box h.l, owns_box h.r, owns_box h.p, fun i hi => owns_box (h.rr i hi)⟩
theorem owns_other {B' e e' s s' n n' : Nat} {v v' : Value} {xs xs' : List Value} (h : X.ownsRow B e s v n xs) (h' : X.ownsRow B' e' s' v' n' xs') (he : e ≠ e') (hg : X.grownBy Y v'.ownBlock) : Y.ownsRow B e s v n xs := h.kept hg (owns_ne h h' he)
theorem LMid.pushR {g c : Nat} {v3 : Value} (h : LMid X B ts ns lv kr kp L R V a1 a2 a3 a4 a5 tn nn ln c1 c2 c3 c4 c5 rg) (hle : kp ≤ kr) (ho : X.ownsRow B 3 1 (.slice (some ⟨g, 0, none⟩) ((R kr).length + 1) c) ((R kr).length + 1) ((R kr).map (Value.int .i64) ++ [.int .i64 77]))
    (hr : Y.ownsRow B 24 1 v3 (kr + 1) (((List.range kr).map fun i => .slice (some ⟨(rg i).1, 0, none⟩) ((R i).length + 1) (rg i).2) ++ [.slice (some ⟨g, 0, none⟩) ((R kr).length + 1) c])) (hg : X.grownBy Y (Value.slice a4 kr c4).ownBlock) :
    ∃ a c', v3 = .slice a (kr + 1) c' ∧ LMid Y B ts ns lv (kr + 1) kp L R V a1 a2 a3 a a5 tn nn ln c1 c2 c3 c' c5 (fun i => if i = kr then (g, c) else rg i) := by
  obtain ⟨a, c', rfl⟩ := owns_slice hr
  refine ⟨a, c', rfl, owns_other h.t h.r (by decide) hg, owns_other h.s h.r (by decide) hg, owns_other h.l h.r (by decide) hg, ?_, ?_, fun i hi => ?_⟩
  · rw [List.range_succ, List.map_append]
    have e : ((List.range kr).map fun i => Value.slice (some ⟨(if i = kr then (g, c) else rg i).1, 0, none⟩) ((R i).length + 1) (if i = kr then (g, c) else rg i).2) = (List.range kr).map fun i => Value.slice (some ⟨(rg i).1, 0, none⟩) ((R i).length + 1) (rg i).2 := List.map_congr_left fun i hi => by
      have : i < kr := by simpa using hi
      rw [if_neg (by omega)]
    rw [e]
    simpa using hr
  · have e := prodRow_ext (n := kp) (L := L) (L' := L) (r := fun i => Value.slice (some ⟨(rg i).1, 0, none⟩) (R i).length (rg i).2) (r' := fun i => Value.slice (some ⟨(if i = kr then (g, c) else rg i).1, 0, none⟩) (R i).length (if i = kr then (g, c) else rg i).2) (V := V) (V' := V) (fun _ _ => rfl) (fun i hi => by rw [if_neg (by omega)]) (fun _ _ => rfl)
    rw [← e]
    exact owns_other h.p h.r (by decide) hg
  · by_cases e : i = kr
    · subst e
      simp only [if_true]
      exact owns_other ho h.r (by decide) hg
    · simp only [if_neg e]
      exact owns_other (h.rr i (by omega)) h.r (by decide) hg
theorem LMid.pushP {v4 : Value} (h : LMid X B ts ns lv kr kp L R V a1 a2 a3 a4 a5 tn nn ln c1 c2 c3 c4 c5 rg)
    (hp : Y.ownsRow B 47 3 v4 (kp + 1) (prodRow kp L (fun i => .slice (some ⟨(rg i).1, 0, none⟩) (R i).length (rg i).2) V ++ [.int .i64 (L kp), .slice (some ⟨(rg kp).1, 0, none⟩) (R kp).length (rg kp).2, .int .i64 (V kp)])) (hg : X.grownBy Y (Value.slice a5 kp c5).ownBlock) :
    ∃ a c', v4 = .slice a (kp + 1) c' ∧ LMid Y B ts ns lv kr (kp + 1) L R V a1 a2 a3 a4 a tn nn ln c1 c2 c3 c4 c' rg := by
  obtain ⟨a, c', rfl⟩ := owns_slice hp
  exact ⟨a, c', rfl, owns_other h.t h.p (by decide) hg, owns_other h.s h.p (by decide) hg, owns_other h.l h.p (by decide) hg, owns_other h.r h.p (by decide) hg, by rw [prodRow_succ]; exact hp, fun i hi => owns_other (h.rr i hi) h.p (by decide) hg⟩
end

/-- All rows of what was lent. -/
structure LRows (X : World) (B : Nat) (ts : List (ByteArray × Int)) (ns : List ByteArray) (lv : List Int) (n : Nat) (L : Nat → Int) (R : Nat → List Int) (V : Nat → Int) (a1 a2 a3 a4 a5 : Option Addr) (tn nn ln c1 c2 c3 c4 c5 : Nat) (rg : Nat → Nat × Nat) : Prop where
  t : X.ownsRow B 60 2 (.slice a1 (tn + 1) c1) (tn + 1) (tmsL ts ++ [.string { data := #[115, 112, 97, 114, 101] }, .int .i64 0])
  s : X.ownsRow B 9 1 (.slice a2 (nn + 1) c2) (nn + 1) (ns.map Value.string ++ [.string { data := #[115, 112, 97, 114, 101] }])
  l : X.ownsRow B 3 1 (.slice a3 (ln + 1) c3) (ln + 1) (lv.map (Value.int .i64) ++ [.int .i64 77])
  r : X.ownsRow B 24 1 (.slice a4 n c4) n ((List.range n).map fun i => .slice (some ⟨(rg i).1, 0, none⟩) ((R i).length + 1) (rg i).2)
  p : X.ownsRow B 47 3 (.slice a5 (n + 1) c5) (n + 1) (prodRow n L (fun i => .slice (some ⟨(rg i).1, 0, none⟩) (R i).length (rg i).2) V ++ [.int .i64 77, .slice none 0 0, .int .i64 0])
  rr : ∀ i, i < n → X.ownsRow B 3 1 (.slice (some ⟨(rg i).1, 0, none⟩) ((R i).length + 1) (rg i).2) ((R i).length + 1) ((R i).map (Value.int .i64) ++ [.int .i64 77])

section
variable {X Y : World} {B n tn nn ln c1 c2 c3 c4 c5 : Nat} {ts : List (ByteArray × Int)} {ns : List ByteArray} {lv : List Int} {L : Nat → Int} {R : Nat → List Int} {V : Nat → Int} {a1 a2 a3 a4 a5 : Option Addr} {rg : Nat → Nat × Nat}
theorem LRows.kept (h : LRows X B ts ns lv n L R V a1 a2 a3 a4 a5 tn nn ln c1 c2 c3 c4 c5 rg) (hg : X.grownBy Y none) : LRows Y B ts ns lv n L R V a1 a2 a3 a4 a5 tn nn ln c1 c2 c3 c4 c5 rg :=
  ⟨keep0 h.t hg, keep0 h.s hg, keep0 h.l hg, keep0 h.r hg, keep0 h.p hg, fun i hi => keep0 (h.rr i hi) hg⟩
theorem LRows.box {kb j : Nat} {u : Value} (h : LRows X (kb + 1) ts ns lv n L R V a1 a2 a3 a4 a5 tn nn ln c1 c2 c3 c4 c5 rg) : LRows (X.setCell ⟨kb, j, none⟩ u) (kb + 1) ts ns lv n L R V a1 a2 a3 a4 a5 tn nn ln c1 c2 c3 c4 c5 rg :=
  ⟨owns_box h.t, owns_box h.s, owns_box h.l, owns_box h.r, owns_box h.p, fun i hi => owns_box (h.rr i hi)⟩
end

end Go.Proofs.Ytkhmhcinepfemaa

/-
  The document's Symbol, Row, Prod and Item.
-/
namespace Go.Proofs.Ytkhmhcinepfemaa
open Go.RowKit Go.Maps Go.Shelf

attribute [local go_sem] Oper.semAt_some

theorem step_append_S {w : World} {ops : Array Oper} {o : Oper} {a : Act} {K : Act → World → Prop} {Q : Exit → Act → World → Prop} {E : Prop} (hg : o.guard = none) (sl x : Operand)
    (ho : o.op = .call { callee := .builtin .append, args := #[sl, x], argTypes := #[51, 9] }) (base : Nat) (v : Value) (bs l : List UInt8) (s : ByteArray) (hsl : s = strOf l) (hs : a.eval sl = v) (hx : a.eval x = .string s) (hB : w.ownsRow base 5 1 v bs.length (Lib.byteCells bs))
    (hl : bs.length + l.length ≤ 140737488355328) (hb : base ≤ w.heap.size)
    (h : ∀ v' w', w'.ownsRow base 5 1 v' (bs ++ l).length (Lib.byteCells (bs ++ l)) → w.grownBy w' v.ownBlock → K (a.put o.dst v') w') : if Region.wanted o (yielded ops a.tmps) = true then Oper.wp Try.prog o a w K Q else E := by
  obtain ⟨i0, hi, hz0, hz1, hz2⟩ := info_parts infoByte
  have hw : Region.wanted o (yielded ops a.tmps) = true := by simp [Region.wanted, hg]
  rw [if_pos hw]
  subst hsl
  have hsz : (strOf l).size = l.length := strOf_size l
  obtain ⟨v', w', hr, h2, h3, _⟩ := Lib.run_append_own_string (P := Try.prog) w base 51 9 o.type 5 i0 Try.underlying51 Try.underlying9 hi hz0 hz1 hz2 v bs.length (Lib.byteCells bs) hB (strOf l) (by unfold maxLen; omega) (by omega) hb
  unfold Oper.wp execOp
  simp only [ho, resolve, invoke, builtin, Sem.run_bind, Sem.run_pure, Result.andThen_ok, List.map_toArray, List.map_cons, List.map_nil, hs, hx, hr]
  refine h v' w' ?_ h3
  rw [List.length_append, byteCells_app, ← hsz]
  exact h2

set_option maxRecDepth 100000 in
set_option maxHeartbeats 1000000 in
theorem rSymbol_any (ta na la pa : Option Addr) (tn nn ln n tc nc lc pc : Nat) (st : Int) (ts : List (ByteArray × Int)) (ns : List ByteArray) (w : World) (r : Bool) (hE : ∀ Y, w.grownBy Y none → Calls Try.prog 22 #[.agg #[.slice ta tn tc, .slice na nn nc, .slice la ln lc, .int .i64 st, .slice pa n pc]] Y fun e w' => e = .returned (.bool r) ∧ Y.grownBy w' none)
    (hS : r = true → ∀ k : Nat, k < tn + nn → ∀ Y, w.grownBy Y none → Calls Try.prog 32 #[.agg #[.slice ta tn tc, .slice na nn nc, .slice la ln lc, .int .i64 st, .slice pa n pc], .int .i64 k] Y fun e w' => e = .returned (.string (strOf (symT ts ns k))) ∧ Y.grownBy w' none) (ht : tn ≤ 17592186044416) (hn : nn ≤ 17592186044416) (s : Int) (q : Bool) (hq : q = decide (0 ≤ s ∧ s < (tn : Int) + nn)) :
    Calls Try.prog 17 #[.agg #[.slice ta tn tc, .slice na nn nc, .slice la ln lc, .int .i64 st, .slice pa n pc], .int .i64 s] w fun e w' => e = .returned (.tuple #[.string (if r && q then strOf (symT ts ns s.toNat) else ⟨#[]⟩), .int .i64 (if r && q then 0 else 1)]) ∧ w.grownBy w' none := by
  have HX0 : Hid (PhAt w (w.alloc (.cells #[.slice ta tn tc, .slice na nn nc, .slice la ln lc, .int .i64 st, .slice pa n pc] 27)) w.heap.size #[.slice ta tn tc, .slice na nn nc, .slice la ln lc, .int .i64 st, .slice pa n pc]) := ⟨World.grownBy_alloc _ _ none, heap_alloc_last w _⟩
  have HE : Hid (∀ Y, w.grownBy Y none → Calls Try.prog 22 #[.agg #[.slice ta tn tc, .slice na nn nc, .slice la ln lc, .int .i64 st, .slice pa n pc]] Y fun e w' => e = .returned (.bool r) ∧ Y.grownBy w' none) := hE
  have HS : Hid (r = true → ∀ k : Nat, k < tn + nn → ∀ Y, w.grownBy Y none → Calls Try.prog 32 #[.agg #[.slice ta tn tc, .slice na nn nc, .slice la ln lc, .int .i64 st, .slice pa n pc], .int .i64 k] Y fun e w' => e = .returned (.string (strOf (symT ts ns k))) ∧ Y.grownBy w' none) := hS
  have hwr : IntKind.i64.wrap ((tn : Int) + (nn : Int)) = (tn : Int) + nn := by simp [IntKind.wrap, IntKind.signed, IntKind.bits]; omega
  have HQ : Hid (q = decide (0 ≤ s ∧ s < (tn : Int) + nn)) := hq
  clear hE hS hq
  cases r with
  | false =>
    go_enter Try.func17, Try.ntmps17
    go_wp2_with fail
    refine Calls.mono (HE.out _ HX0.out.grown) ?_
    rintro e w1 ⟨rfl, hg1⟩
    have HG1 : Hid (w.grownBy w1 none) := grown_trans HX0.out.grown hg1
    clear hg1 HX0
    go_wp2_with fail
    go_ret2
    exact ⟨rfl, HG1.out⟩
  | true =>
    by_cases h1 : s < 0
    · have hf : q = false := by rw [HQ.out]; exact decide_eq_false (by omega)
      subst hf
      go_enter Try.func17, Try.ntmps17
      go_wp2_with fail
      refine Calls.mono (HE.out _ HX0.out.grown) ?_
      rintro e w1 ⟨rfl, hg1⟩
      have HG1 : Hid (w.grownBy w1 none) := grown_trans HX0.out.grown hg1
      clear hg1 HX0
      go_wp2_with fail
      go_ret2
      exact ⟨rfl, HG1.out⟩
    · by_cases h2 : (tn : Int) + nn ≤ s
      · have hf : q = false := by rw [HQ.out]; exact decide_eq_false (by omega)
        subst hf
        go_enter Try.func17, Try.ntmps17
        go_wp2_with fail
        refine Calls.mono (HE.out _ HX0.out.grown) ?_
        rintro e w1 ⟨rfl, hg1⟩
        have HX1 : Hid (PhAt w w1 w.heap.size #[.slice ta tn tc, .slice na nn nc, .slice la ln lc, .int .i64 st, .slice pa n pc]) := HX0.out.kept hg1
        obtain ⟨k0, k1, k2, k3, k4⟩ := HX1.out.cells
        clear hg1 HX0
        go_wp2_with fail
        go_ret2
        exact ⟨rfl, HX1.out.grown⟩
      · have hf : q = true := by rw [HQ.out]; exact decide_eq_true (by omega)
        subst hf
        obtain ⟨k, rfl⟩ : ∃ k : Nat, s = (k : Int) := ⟨s.toNat, by omega⟩
        have HK : Hid (k < tn + nn) := by show _ < _; omega
        go_enter Try.func17, Try.ntmps17
        go_wp2_with fail
        refine Calls.mono (HE.out _ HX0.out.grown) ?_
        rintro e w1 ⟨rfl, hg1⟩
        have HX1 : Hid (PhAt w w1 w.heap.size #[.slice ta tn tc, .slice na nn nc, .slice la ln lc, .int .i64 st, .slice pa n pc]) := HX0.out.kept hg1
        obtain ⟨k0, k1, k2, k3, k4⟩ := HX1.out.cells
        clear hg1 HX0
        go_wp2_with fail
        refine Calls.mono (HS.out trivial k HK.out _ HX1.out.grown) ?_
        rintro e w2 ⟨rfl, hg2⟩
        have HG2 : Hid (w.grownBy w2 none) := grown_trans HX1.out.grown hg2
        clear hg2
        go_wp2_with fail
        go_ret2
        exact ⟨rfl, HG2.out⟩

set_option maxRecDepth 100000 in
set_option maxHeartbeats 2000000 in
theorem rProd_any (ta na la pa : Option Addr) (tn nn ln n tc nc lc pc : Nat) (st : Int) (ts : List (ByteArray × Int)) (ns : List ByteArray) (L : Nat → Int) (R : Nat → List Int) (ra : Nat → Option Addr) (rc : Nat → Nat) (V : Nat → Int) (w : World) (hP : ProdsAt w pa n L R ra rc V) (r : Bool) (hE : ∀ Y, w.grownBy Y none → Calls Try.prog 22 #[.agg #[.slice ta tn tc, .slice na nn nc, .slice la ln lc, .int .i64 st, .slice pa n pc]] Y fun e w' => e = .returned (.bool r) ∧ Y.grownBy w' none)
    (hD : r = true → ∀ k : Nat, k < n → ∀ Y, w.grownBy Y none → Calls Try.prog 38 #[.agg #[.slice ta tn tc, .slice na nn nc, .slice la ln lc, .int .i64 st, .slice pa n pc], .agg #[.int .i64 (L k), .slice (ra k) (R k).length (rc k), .int .i64 (V k)], .int .i64 (-1)] Y fun e w' => e = .returned (.string (strOf (dotT ts ns (L k) (R k) (-1) ((R k).length + 1)))) ∧ Y.grownBy w' none) (s : Int) (q : Bool) (hq : q = decide (0 ≤ s ∧ s < (n : Int))) :
    Calls Try.prog 19 #[.agg #[.slice ta tn tc, .slice na nn nc, .slice la ln lc, .int .i64 st, .slice pa n pc], .int .i64 s] w fun e w' => e = .returned (.tuple #[.string (if r && q then strOf (dotT ts ns (L s.toNat) (R s.toNat) (-1) ((R s.toNat).length + 1)) else ⟨#[]⟩), .int .i64 (if r && q then 0 else 1)]) ∧ w.grownBy w' none := by
  have HX0 : Hid (PhAt w (w.alloc (.cells #[.slice ta tn tc, .slice na nn nc, .slice la ln lc, .int .i64 st, .slice pa n pc] 27)) w.heap.size #[.slice ta tn tc, .slice na nn nc, .slice la ln lc, .int .i64 st, .slice pa n pc]) := ⟨World.grownBy_alloc _ _ none, heap_alloc_last w _⟩
  have HE : Hid (∀ Y, w.grownBy Y none → Calls Try.prog 22 #[.agg #[.slice ta tn tc, .slice na nn nc, .slice la ln lc, .int .i64 st, .slice pa n pc]] Y fun e w' => e = .returned (.bool r) ∧ Y.grownBy w' none) := hE
  have HD : Hid (r = true → ∀ k : Nat, k < n → ∀ Y, w.grownBy Y none → Calls Try.prog 38 #[.agg #[.slice ta tn tc, .slice na nn nc, .slice la ln lc, .int .i64 st, .slice pa n pc], .agg #[.int .i64 (L k), .slice (ra k) (R k).length (rc k), .int .i64 (V k)], .int .i64 (-1)] Y fun e w' => e = .returned (.string (strOf (dotT ts ns (L k) (R k) (-1) ((R k).length + 1)))) ∧ Y.grownBy w' none) := hD
  have HP : Hid (ProdsAt w pa n L R ra rc V) := hP
  have HQ : Hid (q = decide (0 ≤ s ∧ s < (n : Int))) := hq
  clear hE hD hq hP
  cases r with
  | false =>
    go_enter Try.func19, Try.ntmps19
    go_wp2_with fail
    refine Calls.mono (HE.out _ HX0.out.grown) ?_
    rintro e w1 ⟨rfl, hg1⟩
    have HG1 : Hid (w.grownBy w1 none) := grown_trans HX0.out.grown hg1
    clear hg1 HX0
    go_wp2_with fail
    go_ret2
    exact ⟨rfl, HG1.out⟩
  | true =>
    by_cases h1 : s < 0
    · have hf : q = false := by rw [HQ.out]; exact decide_eq_false (by omega)
      subst hf
      go_enter Try.func19, Try.ntmps19
      go_wp2_with fail
      refine Calls.mono (HE.out _ HX0.out.grown) ?_
      rintro e w1 ⟨rfl, hg1⟩
      have HG1 : Hid (w.grownBy w1 none) := grown_trans HX0.out.grown hg1
      clear hg1 HX0
      go_wp2_with fail
      go_ret2
      exact ⟨rfl, HG1.out⟩
    · by_cases h2 : (n : Int) ≤ s
      · have hf : q = false := by rw [HQ.out]; exact decide_eq_false (by omega)
        subst hf
        go_enter Try.func19, Try.ntmps19
        go_wp2_with fail
        refine Calls.mono (HE.out _ HX0.out.grown) ?_
        rintro e w1 ⟨rfl, hg1⟩
        have HX1 : Hid (PhAt w w1 w.heap.size #[.slice ta tn tc, .slice na nn nc, .slice la ln lc, .int .i64 st, .slice pa n pc]) := HX0.out.kept hg1
        obtain ⟨k0, k1, k2, k3, k4⟩ := HX1.out.cells
        clear hg1 HX0
        go_wp2_with fail
        go_ret2
        exact ⟨rfl, HX1.out.grown⟩
      · have hf : q = true := by rw [HQ.out]; exact decide_eq_true (by omega)
        subst hf
        obtain ⟨k, rfl⟩ : ∃ k : Nat, s = (k : Int) := ⟨s.toNat, by omega⟩
        have hkn : k < n := by omega
        obtain ⟨bp, op, rfl, hps⟩ : ∃ b off, pa = some ⟨b, off, none⟩ ∧ ∀ k, k < n → w.cell? ⟨b, off + k * 3, none⟩ = some (.int .i64 (L k)) ∧ w.cell? ⟨b, off + k * 3 + 1, none⟩ = some (.slice (ra k) (R k).length (rc k)) ∧ w.cell? ⟨b, off + k * 3 + 2, none⟩ = some (.int .i64 (V k)) ∧ IntsAt w (ra k) (R k) ∧ (ra k = none → rc k = 0) ∧ (R k).length ≤ 17592186044416 := by
          rcases HP.out with h | h
          · omega
          · exact h
        obtain ⟨p0, p1, p2, _⟩ := hps k hkn
        have HDK : Hid (∀ Y, w.grownBy Y none → Calls Try.prog 38 #[.agg #[.slice ta tn tc, .slice na nn nc, .slice la ln lc, .int .i64 st, .slice (some ⟨bp, op, none⟩) n pc], .agg #[.int .i64 (L k), .slice (ra k) (R k).length (rc k), .int .i64 (V k)], .int .i64 (-1)] Y fun e w' => e = .returned (.string (strOf (dotT ts ns (L k) (R k) (-1) ((R k).length + 1)))) ∧ Y.grownBy w' none) := HD.out rfl k hkn
        obtain ⟨rl, hrl⟩ : ∃ x, x = (R k).length := ⟨_, rfl⟩
        obtain ⟨res, hres⟩ : ∃ x, x = strOf (dotT ts ns (L k) (R k) (-1) ((R k).length + 1)) := ⟨_, rfl⟩
        obtain ⟨Lk, hLk⟩ : ∃ x, x = L k := ⟨_, rfl⟩
        obtain ⟨Vk, hVk⟩ : ∃ x, x = V k := ⟨_, rfl⟩
        obtain ⟨rak, hrak⟩ : ∃ x, x = ra k := ⟨_, rfl⟩
        obtain ⟨rck, hrck⟩ : ∃ x, x = rc k := ⟨_, rfl⟩
        rw [← hres, ← hrl, ← hLk, ← hVk, ← hrak, ← hrck] at HDK
        rw [← hrl, ← hrak, ← hrck] at p1
        rw [← hLk] at p0
        rw [← hVk] at p2
        have HRES : Hid (strOf (dotT ts ns (L k) (R k) (-1) ((R k).length + 1)) = res) := hres.symm
        have HKP : Hid (∀ Y, w.grownBy Y none → Y.cell? ⟨bp, op + k * 3, none⟩ = some (.int .i64 Lk) ∧ Y.cell? ⟨bp, op + k * 3 + 1, none⟩ = some (.slice rak rl rck) ∧ Y.cell? ⟨bp, op + k * 3 + 2, none⟩ = some (.int .i64 Vk)) := fun Y hY => ⟨hY.cell p0 (by simp), hY.cell p1 (by simp), hY.cell p2 (by simp)⟩
        have hk0 : (0 : Int) ≤ (k : Int) := by omega
        have hk1 : (k : Int) < (n : Int) := by omega
        clear hps p0 p1 p2 HD hres hrl hLk hVk hrak hrck
        go_enter Try.func19, Try.ntmps19
        go_wp2_with fail
        refine Calls.mono (HE.out _ HX0.out.grown) ?_
        rintro e w1 ⟨rfl, hg1⟩
        have HX1 : Hid (PhAt w w1 w.heap.size #[.slice ta tn tc, .slice na nn nc, .slice la ln lc, .int .i64 st, .slice (some ⟨bp, op, none⟩) n pc]) := HX0.out.kept hg1
        obtain ⟨k0, k1, k2, k3, k4⟩ := HX1.out.cells
        obtain ⟨p0, p1, p2⟩ := HKP.out w1 HX1.out.grown
        have HKS : Hid (w1.drew.cell? ⟨w.heap.size, 0, none⟩ = some (.slice ta tn tc) ∧ w1.drew.cell? ⟨w.heap.size, 1, none⟩ = some (.slice na nn nc) ∧ w1.drew.cell? ⟨w.heap.size, 2, none⟩ = some (.slice la ln lc) ∧ w1.drew.cell? ⟨w.heap.size, 3, none⟩ = some (.int .i64 st) ∧ w1.drew.cell? ⟨w.heap.size, 4, none⟩ = some (.slice (some ⟨bp, op, none⟩) n pc) ∧ w1.drew.cell? ⟨bp, op + k * 3, none⟩ = some (.int .i64 Lk) ∧ w1.drew.cell? ⟨bp, op + k * 3 + 1, none⟩ = some (.slice rak rl rck) ∧ w1.drew.cell? ⟨bp, op + k * 3 + 2, none⟩ = some (.int .i64 Vk)) := ⟨k0, k1, k2, k3, k4, p0, p1, p2⟩
        clear hg1 HX0
        go_wp2_with fail
        go_region_held3 (fun w' => w'.cell? ⟨w.heap.size, 0, none⟩ = some (.slice ta tn tc) ∧ w'.cell? ⟨w.heap.size, 1, none⟩ = some (.slice na nn nc) ∧ w'.cell? ⟨w.heap.size, 2, none⟩ = some (.slice la ln lc) ∧ w'.cell? ⟨w.heap.size, 3, none⟩ = some (.int .i64 st) ∧ w'.cell? ⟨w.heap.size, 4, none⟩ = some (.slice (some ⟨bp, op, none⟩) n pc) ∧ w'.cell? ⟨bp, op + k * 3, none⟩ = some (.int .i64 Lk) ∧ w'.cell? ⟨bp, op + k * 3 + 1, none⟩ = some (.slice rak rl rck) ∧ w'.cell? ⟨bp, op + k * 3 + 2, none⟩ = some (.int .i64 Vk)) (first | exact HKS.out | (exact ⟨(hg2.cell HKS.out.1 (by simp)), (hg2.cell HKS.out.2.1 (by simp)), (hg2.cell HKS.out.2.2.1 (by simp)), (hg2.cell HKS.out.2.2.2.1 (by simp)), (hg2.cell HKS.out.2.2.2.2.1 (by simp)), (hg2.cell HKS.out.2.2.2.2.2.1 (by simp)), (hg2.cell HKS.out.2.2.2.2.2.2.1 (by simp)), (hg2.cell HKS.out.2.2.2.2.2.2.2 (by simp))⟩) | go_keep)
          ((go_at_call 38; refine Calls.mono (HDK.out _ (grown_trans HX1.out.grown (grown_drewN _ 1))) ?_; rintro e w2 ⟨rfl, hg2⟩; have HG2 : Hid (w.grownBy w2 none) := grown_trans (grown_trans HX1.out.grown (grown_drewN _ 1)) hg2))
        clear hg2
        go_wp2_with fail
        go_ret2
        exact ⟨by rw [HRES.out]; rfl, HG2.out⟩

end Go.Proofs.Ytkhmhcinepfemaa

/-
  show: Symbol.
-/
namespace Go.Proofs.Ytkhmhcinepfemaa
open Go.RowKit Go.Maps Go.Shelf

set_option maxHeartbeats 2000000 in
set_option maxRecDepth 100000 in
theorem hsymbol_any (ta na la pa : Option Addr) (tc nc lc pc : Nat) (ts : List (ByteArray × Int)) (ns : List ByteArray) (lv : List Int) (n : Nat) (L : Nat → Int) (R : Nat → List Int) (ra : Nat → Option Addr) (rc : Nat → Nat) (V : Nat → Int) (st : Int) (w : World) (tn nn ln : Nat) (hlen : ts.length = tn ∧ ns.length = nn ∧ lv.length = ln) (hG : GAt w ta na la pa tc nc lc pc ts ns lv n L R ra rc V)
    (r : Bool) (hr : r = true ↔ validOK ts ns lv st n L R V ∨ closedOK ts ns lv st n L R V) (z : Int) (q : Bool) (hq : q = true ↔ 0 ≤ z ∧ z < (tn : Int) + nn) (hl : r = true → q = true → (symsT ts ns true [z]).length ≤ 140737488355328) :
    Calls Try.prog 16 #[.agg #[.slice ta tn tc, .slice na nn nc, .slice la ln lc, .int .i64 st, .slice pa n pc], .int .i64 z] w fun e w' => e = .returned (.tuple #[.string (if r && q then ⟨(symT ts ns z.toNat).toArray⟩ else ⟨#[]⟩), .int .i64 (if r && q then 0 else 1)]) ∧ w.grownBy w' none := by
  obtain ⟨s, hs⟩ : ∃ s : ByteArray, s = if r && q then ⟨(symT ts ns z.toNat).toArray⟩ else ⟨#[]⟩ := ⟨_, rfl⟩
  obtain ⟨c, hc⟩ : ∃ c : Int, c = if r && q then 0 else 1 := ⟨_, rfl⟩
  rw [← hs, ← hc]
  have HR : Hid (Calls Try.prog 13 #[.agg #[.slice ta tn tc, .slice na nn nc, .slice la ln lc, .int .i64 st, .slice pa n pc], .slice (some ⟨w.heap.size + 1, 0, none⟩) 1 1] ((w.alloc (.cells #[.slice ta tn tc, .slice na nn nc, .slice la ln lc, .int .i64 st, .slice pa n pc] 27)).alloc (.cells #[.int .i64 z] 3)) fun e w' => e = .returned (.tuple #[.string s, .int .i64 c]) ∧ w.grownBy w' none) := by
    obtain ⟨Y, hY⟩ : ∃ Y, Y = w.alloc (.cells #[.slice ta tn tc, .slice na nn nc, .slice la ln lc, .int .i64 st, .slice pa n pc] 27) := ⟨_, rfl⟩
    have hsz : w.heap.size + 1 = Y.heap.size := by rw [hY, World.size_alloc]
    have hgY : w.grownBy Y none := by rw [hY]; exact World.grownBy_alloc _ _ none
    rw [← hY, hsz]
    have hg := grown_trans hgY (World.grownBy_alloc Y (.cells #[.int .i64 z] 3) none)
    have hI : IntsAt (Y.alloc (.cells #[.int .i64 z] 3)) (some ⟨Y.heap.size, 0, none⟩) [z] := by
      refine .inr ⟨Y.heap.size, 0, rfl, fun i hi => ?_⟩
      have h0 : i = 0 := by simp at hi; omega
      subst h0
      rw [cell_of_row _ _ _ _ _ _ (heap_alloc_last Y _)]
      rfl
    have hq' : q = true ↔ ∀ i, i < 1 → 0 ≤ [z].getD i 0 ∧ [z].getD i 0 < (tn : Int) + nn := by
      rw [hq]
      constructor
      · intro h i hi
        have h0 : i = 0 := by omega
        subst h0
        exact h
      · intro h
        exact h 0 (by omega)
    refine (row_any ta na la pa tc nc lc pc ts ns lv n L R ra rc V st _ tn nn ln hlen (hG.kept hg) r hr _ 1 1 [z] rfl hI (by omega) q hq' hl).mono ?_
    rintro e w' ⟨rfl, hg'⟩
    refine ⟨?_, grown_trans hg hg'⟩
    rw [hs, hc]
    simp [symsT, sp]
  clear hG hlen hr hq hl hs hc
  go_enter Try.func16, Try.ntmps16
  go_wp2_with fail
  refine Calls.mono HR.out ?_
  rintro e w1 ⟨rfl, hg1⟩
  have HG1 : Hid (w.grownBy w1 none) := hg1
  clear hg1
  go_wp2_with fail
  go_ret2
  exact ⟨rfl, HG1.out⟩

end Go.Proofs.Ytkhmhcinepfemaa

/-
  show: isItem and Item; the document's Item.
-/
namespace Go.Proofs.Ytkhmhcinepfemaa
open Go.RowKit Go.Maps Go.Shelf

attribute [local go_sem] Oper.semAt_some

/-- The boxes of a grammar and of an item. -/
structure ItAt (w x : World) (Z : Nat) (gv iv : Array Value) : Prop where
  grown : w.grownBy x none
  gbox : x.heap[Z]? = some (.cells gv 27 (0, 0))
  ibox : x.heap[Z + 1]? = some (.cells iv 36 (0, 0))
section
variable {w x y : World} {Z : Nat} {gv iv : Array Value}
theorem ItAt.kept (h : ItAt w x Z gv iv) (hg : x.grownBy y none) : ItAt w y Z gv iv :=
  ⟨grown_trans h.grown hg, (hg.block _ (Array.getElem?_eq_some_iff.1 h.gbox).1 (by simp)).trans h.gbox, (hg.block _ (Array.getElem?_eq_some_iff.1 h.ibox).1 (by simp)).trans h.ibox⟩
theorem ItAt.g (h : ItAt w x Z gv iv) (k : Nat) (v : Value) (hv : gv[k]? = some v) : x.cell? ⟨Z, k, none⟩ = some v := by rw [cell_of_row _ _ _ _ _ _ h.gbox]; exact hv
theorem ItAt.i (h : ItAt w x Z gv iv) (k : Nat) (v : Value) (hv : iv[k]? = some v) : x.cell? ⟨Z + 1, k, none⟩ = some v := by rw [cell_of_row _ _ _ _ _ _ h.ibox]; exact hv
theorem ItAt.new (w : World) (gv iv : Array Value) : ItAt w ((w.alloc (.cells gv 27)).alloc (.cells iv 36)) w.heap.size gv iv := by
  refine ⟨grown_trans (World.grownBy_alloc _ _ none) (World.grownBy_alloc _ _ none), ((World.grownBy_alloc (w.alloc _) _ none).block _ (by simp) (by simp)).trans (heap_alloc_last w _), ?_⟩
  have := heap_alloc_last (w.alloc (.cells gv 27)) (.cells iv 36)
  rw [World.size_alloc] at this
  exact this
end

set_option maxRecDepth 100000 in
set_option maxHeartbeats 2000000 in
theorem isItem_any (ta na la pa : Option Addr) (tn nn ln n tc nc lc pc : Nat) (st : Int) (L : Nat → Int) (R : Nat → List Int) (ra : Nat → Option Addr) (rc : Nat → Nat) (V : Nat → Int) (w : World) (hP : ProdsAt w pa n L R ra rc V) (i d : Int) (q : Bool) (hq : q = decide ((0 ≤ i ∧ i < (n : Int)) ∧ 0 ≤ d ∧ d ≤ ((R i.toNat).length : Int))) :
    Calls Try.prog 39 #[.agg #[.slice ta tn tc, .slice na nn nc, .slice la ln lc, .int .i64 st, .slice pa n pc], .agg #[.int .i64 i, .int .i64 d]] w fun e w' => e = .returned (.bool q) ∧ w.grownBy w' none := by
  have HN : Hid (ItAt w ((w.alloc (.cells #[.slice ta tn tc, .slice na nn nc, .slice la ln lc, .int .i64 st, .slice pa n pc] 27)).alloc (.cells #[.int .i64 i, .int .i64 d] 36)) w.heap.size #[.slice ta tn tc, .slice na nn nc, .slice la ln lc, .int .i64 st, .slice pa n pc] #[.int .i64 i, .int .i64 d]) := ItAt.new w _ _
  have hA : (fun x => ItAt w x w.heap.size #[.slice ta tn tc, .slice na nn nc, .slice la ln lc, .int .i64 st, .slice pa n pc] #[.int .i64 i, .int .i64 d]) ((w.alloc (.cells #[.slice ta tn tc, .slice na nn nc, .slice la ln lc, .int .i64 st, .slice pa n pc] 27)).alloc (.cells #[.int .i64 i, .int .i64 d] 36)).drew := HN.out.kept (grown_drewN _ 1)
  have HQ : Hid (q = decide ((0 ≤ i ∧ i < (n : Int)) ∧ 0 ≤ d ∧ d ≤ ((R i.toNat).length : Int))) := hq
  haveI hne : Nonempty (WBox (fun x => ItAt w x w.heap.size #[.slice ta tn tc, .slice na nn nc, .slice la ln lc, .int .i64 st, .slice pa n pc] #[.int .i64 i, .int .i64 d])) := ⟨⟨_, hA⟩⟩
  have g0 := fun s : WBox (fun x => ItAt w x w.heap.size #[.slice ta tn tc, .slice na nn nc, .slice la ln lc, .int .i64 st, .slice pa n pc] #[.int .i64 i, .int .i64 d]) => s.ok.g 0 _ rfl
  have g1 := fun s : WBox (fun x => ItAt w x w.heap.size #[.slice ta tn tc, .slice na nn nc, .slice la ln lc, .int .i64 st, .slice pa n pc] #[.int .i64 i, .int .i64 d]) => s.ok.g 1 _ rfl
  have g2 := fun s : WBox (fun x => ItAt w x w.heap.size #[.slice ta tn tc, .slice na nn nc, .slice la ln lc, .int .i64 st, .slice pa n pc] #[.int .i64 i, .int .i64 d]) => s.ok.g 2 _ rfl
  have g3 := fun s : WBox (fun x => ItAt w x w.heap.size #[.slice ta tn tc, .slice na nn nc, .slice la ln lc, .int .i64 st, .slice pa n pc] #[.int .i64 i, .int .i64 d]) => s.ok.g 3 _ rfl
  have g4 := fun s : WBox (fun x => ItAt w x w.heap.size #[.slice ta tn tc, .slice na nn nc, .slice la ln lc, .int .i64 st, .slice pa n pc] #[.int .i64 i, .int .i64 d]) => s.ok.g 4 _ rfl
  have i0 := fun s : WBox (fun x => ItAt w x w.heap.size #[.slice ta tn tc, .slice na nn nc, .slice la ln lc, .int .i64 st, .slice pa n pc] #[.int .i64 i, .int .i64 d]) => s.ok.i 0 _ rfl
  have i1 := fun s : WBox (fun x => ItAt w x w.heap.size #[.slice ta tn tc, .slice na nn nc, .slice la ln lc, .int .i64 st, .slice pa n pc] #[.int .i64 i, .int .i64 d]) => s.ok.i 1 _ rfl
  obtain ⟨p, hp⟩ : ∃ p, p = decide (0 ≤ i ∧ i < (n : Int)) := ⟨_, rfl⟩
  have K1 : Hid (∀ s : WBox (fun x => ItAt w x w.heap.size #[.slice ta tn tc, .slice na nn nc, .slice la ln lc, .int .i64 st, .slice pa n pc] #[.int .i64 i, .int .i64 d]), Calls Try.prog 36 #[.agg #[.slice ta tn tc, .slice na nn nc, .slice la ln lc, .int .i64 st, .slice pa n pc], .int .i64 i] s.w fun e w' => e = .returned (.bool p) ∧ ∃ s' : WBox (fun x => ItAt w x w.heap.size #[.slice ta tn tc, .slice na nn nc, .slice la ln lc, .int .i64 st, .slice pa n pc] #[.int .i64 i, .int .i64 d]), w' = s'.w) := fun s => calls_class ((isProd_any ta na la pa tn nn ln n tc nc lc pc st i s.w).mono fun e w' h => ⟨by rw [hp]; exact h.1, s.ok.kept h.2⟩)
  have HP : Hid (ProdsAt w pa n L R ra rc V) := hP
  have HPP : Hid (p = decide (0 ≤ i ∧ i < (n : Int))) := hp
  clear hq hp hP
  cases p with
  | false =>
    have hf : q = false := by
      rw [HQ.out]
      have := of_decide_eq_false HPP.out.symm
      exact decide_eq_false (fun h => this h.1)
    subst hf
    go_enter Try.func39, Try.ntmps39
    go_wp2_with fail
    refine wp_region_class (p := fun x => ItAt w x w.heap.size #[.slice ta tn tc, .slice na nn nc, .slice la ln lc, .int .i64 st, .slice pa n pc] #[.int .i64 i, .int .i64 d]) (by kernel_rfl) (by kernel_rfl) hA ?_
    repeat (go_big_quiet_step (first | (go_at_call 36; rename_i s; with_reducible exact K1.out s)))
    refine wpQuiet_nil ?_
    rintro _ ⟨s, rfl⟩
    go_wp2_with fail
    go_ret
    exact ⟨rfl, s.ok.grown⟩
  | true =>
    have hi := of_decide_eq_true HPP.out.symm
    obtain ⟨k, rfl⟩ : ∃ k : Nat, i = (k : Int) := ⟨i.toNat, by omega⟩
    have hkn : k < n := by omega
    obtain ⟨bp, op, rfl, hps⟩ : ∃ b off, pa = some ⟨b, off, none⟩ ∧ ∀ k, k < n → w.cell? ⟨b, off + k * 3, none⟩ = some (.int .i64 (L k)) ∧ w.cell? ⟨b, off + k * 3 + 1, none⟩ = some (.slice (ra k) (R k).length (rc k)) ∧ w.cell? ⟨b, off + k * 3 + 2, none⟩ = some (.int .i64 (V k)) ∧ IntsAt w (ra k) (R k) ∧ (ra k = none → rc k = 0) ∧ (R k).length ≤ 17592186044416 := by
      rcases HP.out with h | h
      · omega
      · exact h
    obtain ⟨_, p1, _⟩ := hps k hkn
    obtain ⟨rl, hrl⟩ : ∃ x, x = (R k).length := ⟨_, rfl⟩
    rw [← hrl] at p1
    have pr := fun s : WBox (fun x => ItAt w x w.heap.size #[.slice ta tn tc, .slice na nn nc, .slice la ln lc, .int .i64 st, .slice (some ⟨bp, op, none⟩) n pc] #[.int .i64 (k : Int), .int .i64 d]) => s.ok.grown.cell p1 (by simp)
    have hqq : q = decide (0 ≤ d ∧ d ≤ (rl : Int)) := by
      rw [HQ.out, hrl, Int.toNat_natCast]
      simp only [hi, and_self, true_and]
    have HQ2 : Hid (q = decide (0 ≤ d ∧ d ≤ (rl : Int))) := hqq
    have hk0 : (0 : Int) ≤ (k : Int) := by omega
    have hk1 : (k : Int) < (n : Int) := by omega
    clear hps p1 hrl HQ hqq HPP hi
    by_cases h1 : 0 ≤ d
    · have d1 : decide (0 ≤ d) = true := decide_eq_true h1
      have HF : Hid (decide (d ≤ (rl : Int)) = q) := by
        show _ = _
        rw [HQ2.out]
        simp only [h1, true_and]
      go_enter Try.func39, Try.ntmps39
      go_wp2_with fail
      refine wp_region_class (p := fun x => ItAt w x w.heap.size #[.slice ta tn tc, .slice na nn nc, .slice la ln lc, .int .i64 st, .slice (some ⟨bp, op, none⟩) n pc] #[.int .i64 (k : Int), .int .i64 d]) (by kernel_rfl) (by kernel_rfl) hA ?_
      repeat (go_big_quiet_step (first | (go_at_call 36; rename_i s; with_reducible exact K1.out s)))
      refine wpQuiet_nil ?_
      rintro _ ⟨s, rfl⟩
      go_wp2_with fail
      go_ret
      exact ⟨by rw [← HF.out]; rfl, s.ok.grown⟩
    · have d1 : decide (0 ≤ d) = false := decide_eq_false h1
      have hf : q = false := by rw [HQ2.out]; exact decide_eq_false (fun h => h1 h.1)
      subst hf
      go_enter Try.func39, Try.ntmps39
      go_wp2_with fail
      refine wp_region_class (p := fun x => ItAt w x w.heap.size #[.slice ta tn tc, .slice na nn nc, .slice la ln lc, .int .i64 st, .slice (some ⟨bp, op, none⟩) n pc] #[.int .i64 (k : Int), .int .i64 d]) (by kernel_rfl) (by kernel_rfl) hA ?_
      repeat (go_big_quiet_step (first | (go_at_call 36; rename_i s; with_reducible exact K1.out s)))
      refine wpQuiet_nil ?_
      rintro _ ⟨s, rfl⟩
      go_wp2_with fail
      go_ret
      exact ⟨rfl, s.ok.grown⟩

theorem ints_take {w : World} {a : Option Addr} {l : List Int} (d : Nat) (h : IntsAt w a l) : IntsAt w a (l.take d) := by
  rcases h with h | ⟨b, off, e, hc⟩
  · exact .inl (by rw [h]; simp)
  · refine .inr ⟨b, off, e, fun i hi => ?_⟩
    have hi' : i < l.length := by rw [List.length_take] at hi; omega
    have hd : i < d := by rw [List.length_take] at hi; omega
    rw [hc i hi']
    simp [List.getD, hd]
theorem ints_drop {w : World} {a : Option Addr} {l : List Int} (d : Nat) (h : IntsAt w a l) : IntsAt w (a.map fun x => x.add d) (l.drop d) := by
  rcases h with h | ⟨b, off, e, hc⟩
  · exact .inl (by rw [h]; simp)
  · subst e
    refine .inr ⟨b, off + d, by simp [Addr.add_mid], fun i hi => ?_⟩
    rw [List.length_drop] at hi
    have := hc (d + i) (by omega)
    rw [← Nat.add_assoc] at this
    rw [this]
    simp [List.getD, List.getElem?_drop]

/-- An item's text. -/
def itemT (ts : List (ByteArray × Int)) (ns : List ByteArray) (l : Int) (r : List Int) (d : Nat) : List UInt8 := symT ts ns l.toNat ++ [32, 45, 62] ++ symsT ts ns true (r.take d) ++ [32, 46] ++ symsT ts ns true (r.drop d)

set_option maxHeartbeats 4000000 in
set_option maxRecDepth 100000 in
theorem item_any (ta na la pa : Option Addr) (tc nc lc pc : Nat) (ts : List (ByteArray × Int)) (ns : List ByteArray) (lv : List Int) (n : Nat) (L : Nat → Int) (R : Nat → List Int) (ra : Nat → Option Addr) (rc : Nat → Nat) (V : Nat → Int) (st : Int) (w : World) (tn nn ln : Nat) (hlen : ts.length = tn ∧ ns.length = nn ∧ lv.length = ln) (hG : GAt w ta na la pa tc nc lc pc ts ns lv n L R ra rc V) (hrc : ∀ i, i < n → (R i).length ≤ rc i)
    (r : Bool) (hr : r = true ↔ validOK ts ns lv st n L R V ∨ closedOK ts ns lv st n L R V) (i d : Int) (hl : r = true → ∀ k, k < n → (prodT ts ns (L k) (R k)).length + 8 ≤ 140737488355328) (q : Bool) (hq : q = decide ((0 ≤ i ∧ i < (n : Int)) ∧ 0 ≤ d ∧ d ≤ ((R i.toNat).length : Int))) :
    Calls Try.prog 20 #[.agg #[.slice ta tn tc, .slice na nn nc, .slice la ln lc, .int .i64 st, .slice pa n pc], .agg #[.int .i64 i, .int .i64 d]] w fun e w' => e = .returned (.tuple #[.string (if r && q then ⟨(itemT ts ns (L i.toNat) (R i.toNat) d.toNat).toArray⟩ else ⟨#[]⟩), .int .i64 (if r && q then 0 else 1)]) ∧ w.grownBy w' none := by
  have HM : Hid (∀ Y, w.grownBy Y none → Calls Try.prog 25 #[.agg #[.slice ta tn tc, .slice na nn nc, .slice la ln lc, .int .i64 st, .slice pa n pc]] Y fun e w' => e = .returned (.bool r) ∧ Y.grownBy w' none) := fun Y hY => mayBe_any ta na la pa tc nc lc pc ts ns lv n L R ra rc V st Y tn nn ln hlen (hG.kept hY) r hr
  have hnn := hG.nlen
  rw [hlen.2.1] at hnn
  have HA : Hid (∀ Y, w.grownBy Y none → Calls Try.prog 39 #[.agg #[.slice ta tn tc, .slice na nn nc, .slice la ln lc, .int .i64 st, .slice pa n pc], .agg #[.int .i64 i, .int .i64 d]] Y fun e w' => e = .returned (.bool q) ∧ Y.grownBy w' none) := fun Y hY => isItem_any ta na la pa tn nn ln n tc nc lc pc st L R ra rc V Y (hG.kept hY).prods i d q hq
  have HX0 : Hid (ItAt w ((w.alloc (.cells #[.slice ta tn tc, .slice na nn nc, .slice la ln lc, .int .i64 st, .slice pa n pc] 27)).alloc (.cells #[.int .i64 i, .int .i64 d] 36)) w.heap.size #[.slice ta tn tc, .slice na nn nc, .slice la ln lc, .int .i64 st, .slice pa n pc] #[.int .i64 i, .int .i64 d]) := ItAt.new w _ _
  have HG : Hid (GAt w ta na la pa tc nc lc pc ts ns lv n L R ra rc V) := hG
  have HLN : Hid (ts.length = tn ∧ ns.length = nn ∧ lv.length = ln) := hlen
  have HR : Hid (r = true ↔ validOK ts ns lv st n L R V ∨ closedOK ts ns lv st n L R V) := hr
  have HQ : Hid (q = decide ((0 ≤ i ∧ i < (n : Int)) ∧ 0 ≤ d ∧ d ≤ ((R i.toNat).length : Int))) := hq
  have HL : Hid (r = true → ∀ k, k < n → (prodT ts ns (L k) (R k)).length + 8 ≤ 140737488355328) := hl
  have HRC : Hid (∀ i, i < n → (R i).length ≤ rc i) := hrc
  clear hG hlen hl hr hq hrc
  cases r with
  | false =>
    go_enter Try.func20, Try.ntmps20
    go_wp2_with fail
    refine Calls.mono (HM.out _ HX0.out.grown) ?_
    rintro e w1 ⟨rfl, hg1⟩
    have HG1 : Hid (w.grownBy w1 none) := grown_trans HX0.out.grown hg1
    clear hg1 HX0
    go_wp2_with fail
    go_ret2
    exact ⟨rfl, HG1.out⟩
  | true =>
    cases q with
    | false =>
      go_enter Try.func20, Try.ntmps20
      go_wp2_with fail
      refine Calls.mono (HM.out _ HX0.out.grown) ?_
      rintro e w1 ⟨rfl, hg1⟩
      have HX1 : Hid (ItAt w w1 w.heap.size #[.slice ta tn tc, .slice na nn nc, .slice la ln lc, .int .i64 st, .slice pa n pc] #[.int .i64 i, .int .i64 d]) := HX0.out.kept hg1
      obtain ⟨k0, k1, k2, k3, k4⟩ := And.intro (HX1.out.g 0 _ rfl) (And.intro (HX1.out.g 1 _ rfl) (And.intro (HX1.out.g 2 _ rfl) (And.intro (HX1.out.g 3 _ rfl) (HX1.out.g 4 _ rfl))))
      obtain ⟨i0, i1⟩ := And.intro (HX1.out.i 0 _ rfl) (HX1.out.i 1 _ rfl)
      clear hg1 HX0
      go_wp2_with fail
      refine Calls.mono (HA.out _ HX1.out.grown) ?_
      rintro e w2 ⟨rfl, hg2⟩
      have HG2 : Hid (w.grownBy w2 none) := grown_trans HX1.out.grown hg2
      clear hg2 HX1 k0 k1 k2 k3 k4 i0 i1
      go_wp2_with fail
      go_ret2
      exact ⟨rfl, HG2.out⟩
    | true =>
      have hi := of_decide_eq_true HQ.out.symm
      obtain ⟨k, hk⟩ : ∃ k : Nat, i = (k : Int) := ⟨i.toNat, by omega⟩
      subst hk
      obtain ⟨dn, hdn⟩ : ∃ dn : Nat, d = (dn : Int) := ⟨d.toNat, by omega⟩
      subst hdn
      rw [Int.toNat_natCast] at hi
      have hkn : k < n := by omega
      have HE := either_prods (HR.out.1 rfl) k hkn
      rw [HLN.out.1, HLN.out.2.1] at HE
      obtain ⟨bp, op, hpa, hps⟩ : ∃ b off, pa = some ⟨b, off, none⟩ ∧ ∀ k, k < n → w.cell? ⟨b, off + k * 3, none⟩ = some (.int .i64 (L k)) ∧ w.cell? ⟨b, off + k * 3 + 1, none⟩ = some (.slice (ra k) (R k).length (rc k)) ∧ w.cell? ⟨b, off + k * 3 + 2, none⟩ = some (.int .i64 (V k)) ∧ IntsAt w (ra k) (R k) ∧ (ra k = none → rc k = 0) ∧ (R k).length ≤ 17592186044416 := by
        rcases HG.out.prods with h | h
        · omega
        · exact h
      subst hpa
      obtain ⟨p0, p1, p2, hI, hrn, hRl⟩ := hps k hkn
      have HI : Hid (IntsAt w (ra k) (R k)) := hI
      have hlc := HRC.out k hkn
      obtain ⟨z, hz⟩ : ∃ z : Nat, L k = (z : Int) := ⟨(L k).toNat, by omega⟩
      obtain ⟨len, hlen⟩ : ∃ m, m = (R k).length := ⟨_, rfl⟩
      obtain ⟨cap, hcap⟩ : ∃ m, m = rc k := ⟨_, rfl⟩
      obtain ⟨rak, hrak⟩ : ∃ m, m = ra k := ⟨_, rfl⟩
      obtain ⟨Vk, hVk⟩ : ∃ m, m = V k := ⟨_, rfl⟩
      have HLE : Hid ((R k).length = len) := hlen.symm
      have hdl : dn ≤ len := by omega
      rw [← hlen, ← hcap] at hlc
      rw [hz] at p0
      rw [← hlen, ← hcap, ← hrak] at p1
      rw [← hlen] at hRl
      rw [← hVk] at p2
      rw [← hcap, ← hrak] at hrn
      have HI2 : Hid (IntsAt w rak (R k)) := by rw [hrak]; exact HI.out
      have HLz : Hid (L k = (z : Int)) := hz
      have HZ : Hid (z < tn + nn) := by show _ < _; have := HE.1; rw [hz] at this; omega
      have HSY : Hid (∀ y ∈ R k, 0 ≤ y ∧ y < (tn : Int) + nn) := HE.2
      have HLK : Hid ((symT ts ns z).length + 3 + (symsT ts ns true ((R k).take dn)).length + (symsT ts ns true ((R k).drop dn)).length + 8 ≤ 140737488355328) := by
        show _ ≤ _
        have h1 := HL.out rfl k hkn
        have h2 : symsT ts ns true (R k) = symsT ts ns true ((R k).take dn) ++ symsT ts ns (true || !((R k).take dn).isEmpty) ((R k).drop dn) := by rw [← symsT_append, List.take_append_drop]
        rw [prodT, hz, h2] at h1
        simp at h1
        omega
      clear hps hI hz HE HQ HR HL hi hrak hcap hlen hVk HRC HI
      go_enter Try.func20, Try.ntmps20
      go_wp2_with fail
      refine Calls.mono (HM.out _ HX0.out.grown) ?_
      rintro e w1 ⟨rfl, hg1⟩
      have HX1 : Hid (ItAt w w1 w.heap.size #[.slice ta tn tc, .slice na nn nc, .slice la ln lc, .int .i64 st, .slice (some ⟨bp, op, none⟩) n pc] #[.int .i64 (k : Int), .int .i64 (dn : Int)]) := HX0.out.kept hg1
      obtain ⟨k0, k1, k2, k3, k4⟩ := And.intro (HX1.out.g 0 _ rfl) (And.intro (HX1.out.g 1 _ rfl) (And.intro (HX1.out.g 2 _ rfl) (And.intro (HX1.out.g 3 _ rfl) (HX1.out.g 4 _ rfl))))
      obtain ⟨i0, i1⟩ := And.intro (HX1.out.i 0 _ rfl) (HX1.out.i 1 _ rfl)
      clear hg1 HX0
      go_wp2_with fail
      refine Calls.mono (HA.out _ HX1.out.grown) ?_
      rintro e w2 ⟨rfl, hg2⟩
      have HX2 : Hid (ItAt w w2 w.heap.size #[.slice ta tn tc, .slice na nn nc, .slice la ln lc, .int .i64 st, .slice (some ⟨bp, op, none⟩) n pc] #[.int .i64 (k : Int), .int .i64 (dn : Int)]) := HX1.out.kept hg2
      clear hg2 HX1 k0 k1 k2 k3 k4 i0 i1
      obtain ⟨k0, k1, k2, k3, k4⟩ := And.intro (HX2.out.g 0 _ rfl) (And.intro (HX2.out.g 1 _ rfl) (And.intro (HX2.out.g 2 _ rfl) (And.intro (HX2.out.g 3 _ rfl) (HX2.out.g 4 _ rfl))))
      obtain ⟨i0, i1⟩ := And.intro (HX2.out.i 0 _ rfl) (HX2.out.i 1 _ rfl)
      have q0 := HX2.out.grown.cell p0 (by simp)
      have q1 := HX2.out.grown.cell p1 (by simp)
      have q2 := HX2.out.grown.cell p2 (by simp)
      have hk0 : (0 : Int) ≤ (k : Int) := by omega
      have hk1 : (k : Int) < (n : Int) := by omega
      have hbd : ∀ u, (Instr.build 55 #[(1, .agg #[.slice ta tn tc, .slice na nn nc, .slice la ln lc, .int .i64 st, .slice (some ⟨bp, op, none⟩) n pc])]).run Try.prog u = .ok (.agg #[.pointer none, .slice none 0 0, .slice ta tn tc, .slice na nn nc, .slice la ln lc, .int .i64 st, .slice (some ⟨bp, op, none⟩) n pc, .bool false]) u := fun u => run_build u _ _ _ (by kernel_rfl)
      have HY : Hid (∀ Y, (w2.alloc (.cells #[.int .i64 (z : Int), .slice rak len cap, .int .i64 Vk] 47)).grownBy Y none → (Y.cell? ⟨w.heap.size, 0, none⟩ = some (.slice ta tn tc) ∧ Y.cell? ⟨w.heap.size, 1, none⟩ = some (.slice na nn nc) ∧ Y.cell? ⟨w.heap.size, 2, none⟩ = some (.slice la ln lc) ∧ Y.cell? ⟨w.heap.size, 3, none⟩ = some (.int .i64 st) ∧ Y.cell? ⟨w.heap.size, 4, none⟩ = some (.slice (some ⟨bp, op, none⟩) n pc)) ∧ Y.cell? ⟨w2.heap.size, 0, none⟩ = some (.int .i64 (z : Int)) ∧ Y.cell? ⟨w2.heap.size, 1, none⟩ = some (.slice rak len cap) ∧ Y.cell? ⟨w.heap.size + 1, 1, none⟩ = some (.int .i64 (dn : Int))) := fun Y hY => by
        have hX := HX2.out.kept (grown_trans (World.grownBy_alloc _ _ none) hY)
        have hb := (hY.block _ (by simp) (by simp)).trans (heap_alloc_last w2 (.cells #[.int .i64 (z : Int), .slice rak len cap, .int .i64 Vk] 47))
        exact ⟨⟨hX.g 0 _ rfl, hX.g 1 _ rfl, hX.g 2 _ rfl, hX.g 3 _ rfl, hX.g 4 _ rfl⟩, by rw [cell_of_row _ _ _ _ _ _ hb]; rfl, by rw [cell_of_row _ _ _ _ _ _ hb]; rfl, hX.i 1 _ rfl⟩
      obtain ⟨⟨a0, a1, a2, a3, a4⟩, a5, a6, a7⟩ := HY.out _ (grown_refl _ _)
      obtain ⟨_, b5, b6, b7⟩ := HY.out _ (World.grownBy_alloc _ (.cells #[.pointer none, .slice none 0 0, .slice ta tn tc, .slice na nn nc, .slice la ln lc, .int .i64 st, .slice (some ⟨bp, op, none⟩) n pc, .bool false] 55) none)
      have HY1 : Hid (w.grownBy (w2.alloc (.cells #[.int .i64 (z : Int), .slice rak len cap, .int .i64 Vk] 47)) none) := grown_trans HX2.out.grown (World.grownBy_alloc _ _ none)
      have HWN : Hid (WrAt (w2.alloc (.cells #[.int .i64 (z : Int), .slice rak len cap, .int .i64 Vk] 47)) ((w2.alloc (.cells #[.int .i64 (z : Int), .slice rak len cap, .int .i64 Vk] 47)).alloc (.cells #[.pointer none, .slice none 0 0, .slice ta tn tc, .slice na nn nc, .slice la ln lc, .int .i64 st, .slice (some ⟨bp, op, none⟩) n pc, .bool false] 55)) (w2.heap.size + 1) (gvOf ta na la (some ⟨bp, op, none⟩) tn nn ln n tc nc lc pc st) [] false) := by
        have h9 := wr_new (w2.alloc (.cells #[.int .i64 (z : Int), .slice rak len cap, .int .i64 Vk] 47)) ta na la (some ⟨bp, op, none⟩) tn nn ln n tc nc lc pc st
        rw [World.size_alloc] at h9
        exact h9
      go_wp2_with fail
      refine (arrow_at HWN.out (HG.out.kept HY1.out).terms (HG.out.kept HY1.out).nons HLN.out.1 HLN.out.2.1 hnn z HZ.out (by have := HLK.out; simp; omega)).mono ?_
      rintro e w3 ⟨rfl, hW, hK⟩
      have HW : Hid (WrAt (w2.alloc (.cells #[.int .i64 (z : Int), .slice rak len cap, .int .i64 Vk] 47)) w3 (w2.heap.size + 1) (gvOf ta na la (some ⟨bp, op, none⟩) tn nn ln n tc nc lc pc st) (symT ts ns z ++ [32, 45, 62]) true) := by
        show WrAt _ _ _ _ _ _
        simpa [sp] using hW
      obtain ⟨_, c5, c6, c7⟩ := HY.out _ hW.cells.2.2.2.2.2
      clear hW hK k0 k1 k2 k3 k4 i0 i1 q0 q1 q2 a0 a1 a2 a3 a4 a5 a6 a7 b5 b6 b7
      have hd0 : (0 : Int) ≤ (dn : Int) := by omega
      have hd1 : (dn : Int) ≤ (len : Int) := by omega
      have hd2 : (len : Int) ≤ (cap : Int) := by omega
      go_wp2_with fail
      have HLT : Hid (((R k).take dn).length = dn) := by show _ = _; rw [List.length_take, HLE.out]; omega
      refine (symbols_at HW.out (HG.out.kept HY1.out).terms (HG.out.kept HY1.out).nons HLN.out.1 HLN.out.2.1 hnn rak dn cap ((R k).take dn) HLT.out (fun X hX _ => ints_take dn (HI2.out.kept (grown_trans HY1.out hX))) (fun j hj => HSY.out _ (List.mem_of_mem_take (by rw [List.getD, List.getElem?_eq_getElem (by rw [HLT.out]; exact hj)]; exact List.getElem_mem _))) (by omega) (by have := HLK.out; simp; omega)).mono ?_
      rintro e w4 ⟨rfl, hW, hK⟩
      have HW2 : Hid (WrAt (w2.alloc (.cells #[.int .i64 (z : Int), .slice rak len cap, .int .i64 Vk] 47)) w4 (w2.heap.size + 1) (gvOf ta na la (some ⟨bp, op, none⟩) tn nn ln n tc nc lc pc st) (symT ts ns z ++ [32, 45, 62] ++ symsT ts ns true ((R k).take dn)) true) := by
        show WrAt _ _ _ _ _ _
        simpa using hW
      clear hW hK c5 c6 c7 HW
      go_wp2_with fail
      refine (word_at _ 1 1 [⟨#[46]⟩] rfl (HW2.out.kept (World.grownBy_alloc w4 _ none)) (fun X hX => strs_new [⟨#[46]⟩] HW2.out.lt hX) (by have := HLK.out; simp [piecesB]; omega) (by decide)).mono ?_
      rintro e w5 ⟨rfl, hW, hK⟩
      have HW3 : Hid (WrAt (w2.alloc (.cells #[.int .i64 (z : Int), .slice rak len cap, .int .i64 Vk] 47)) w5 (w2.heap.size + 1) (gvOf ta na la (some ⟨bp, op, none⟩) tn nn ln n tc nc lc pc st) (symT ts ns z ++ [32, 45, 62] ++ symsT ts ns true ((R k).take dn) ++ [32, 46]) true) := by
        show WrAt _ _ _ _ _ _
        simpa [piecesB] using hW
      obtain ⟨_, c5, c6, c7⟩ := HY.out _ hW.cells.2.2.2.2.2
      clear hW hK HW2
      have hw1 : IntKind.i64.wrap ((len : Int) - (dn : Int)) = (len : Int) - dn := by simp [IntKind.wrap, IntKind.signed, IntKind.bits]; omega
      go_wp2_with fail
      all_goals
        have HLD : Hid (((R k).drop dn).length = len - dn) := by show _ = _; rw [List.length_drop, HLE.out]
        refine (symbols_at HW3.out (HG.out.kept HY1.out).terms (HG.out.kept HY1.out).nons HLN.out.1 HLN.out.2.1 hnn _ (len - dn) _ ((R k).drop dn) HLD.out (fun X hX _ => by first | exact ints_drop dn (HI2.out.kept (grown_trans HY1.out hX)) | exact .inl (List.eq_nil_of_length_eq_zero (by rw [HLD.out]; omega))) (fun j hj => HSY.out _ (List.mem_of_mem_drop (by rw [List.getD, List.getElem?_eq_getElem (by rw [HLD.out]; exact hj)]; exact List.getElem_mem _))) (by omega) (by have := HLK.out; simp; omega)).mono ?_
        rintro e w6 ⟨rfl, hW, hK⟩
        have HW4 : Hid (WrAt (w2.alloc (.cells #[.int .i64 (z : Int), .slice rak len cap, .int .i64 Vk] 47)) w6 (w2.heap.size + 1) (gvOf ta na la (some ⟨bp, op, none⟩) tn nn ln n tc nc lc pc st) (itemT ts ns (L k) (R k) dn) true) := by
          show WrAt _ _ _ _ _ _
          rw [itemT, HLz.out]
          simpa using hW
        clear hW hK c5 c6 c7
        go_wp2_with fail
        refine (string_at HW4.out).mono ?_
        rintro e w7 ⟨rfl, hg7⟩
        have HG7 : Hid (w.grownBy w7 none) := grown_trans HY1.out hg7
        clear hg7
        go_wp2_with fail
        go_ret2
        exact ⟨rfl, HG7.out⟩

end Go.Proofs.Ytkhmhcinepfemaa
