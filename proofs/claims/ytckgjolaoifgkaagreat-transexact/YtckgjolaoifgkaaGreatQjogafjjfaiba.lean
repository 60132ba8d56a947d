import Derived.Test.YtckgjolaoifgkaaGreatQlknahlkdlolp
import Derived.Test.YtckgjolaoifgkaaGreatQalondcpfjeio
import Derived.Test.YtckgjolaoifgkaaGreatQmgghdphbncjm
import Derived.Deep.DeepAppendWide
import Derived.Deep.RegionHeld3
import Derived.Deep.AppendLies
import Derived.Deep.RegionLaw
import Derived.Test.YtckgjolaoifgkaaGreatQakjkggbohpoc

/-
  lr0: rows of values; marks counted; append, wide.
-/
namespace Go.Proofs.YtckgjolaoifgkaaGreat.J
open Go.RowKit Go.Maps Go.Shelf

/-- A row of values, whole in block k. -/
def ValAt (w : World) (k len : Nat) (t : TypeId) (c : Nat → Value) : Prop := w.heap[k]? = some (.cells ((List.range len).map c).toArray t (0, 0))
section
variable {w w' : World} {k len : Nat} {t : TypeId} {c : Nat → Value}
theorem ValAt.cell (h : ValAt w k len t c) (i : Nat) (hi : i < len) : w.cell? ⟨k, i, none⟩ = some (c i) := by
  rw [cell_of_row _ _ _ _ _ _ h]; simp [hi]
theorem ValAt.free (h : ValAt w k len t c) (i : Nat) : w.frozen? ⟨k, i, none⟩ = false := frozen_of_row _ _ _ _ _ h
theorem ValAt.lt (h : ValAt w k len t c) : k < w.heap.size := (Array.getElem?_eq_some_iff.1 h).1
theorem ValAt.kept (h : ValAt w k len t c) (hg : w.grownBy w' none) : ValAt w' k len t c := (hg.block k h.lt (by simp)).trans h
theorem ValAt.at {b : Nat} (h : ValAt w k len t c) (hg : w.grownBy w' (some b)) (hne : k ≠ b) : ValAt w' k len t c := (hg.block k h.lt (by simpa using hne)).trans h
/-- The cells with one turned. -/
def put (c : Nat → Value) (x : Nat) (v : Value) : Nat → Value := fun i => if i = x then v else c i
theorem ValAt.set (h : ValAt w k len t c) (x : Nat) (v : Value) : ValAt (w.setCell ⟨k, x, none⟩ v) k len t (put c x v) := by
  unfold ValAt
  rw [heap_setCell_same _ _ _ _ _ _ h]
  congr 2
  apply Array.ext'
  apply List.ext_getElem?
  intro i
  simp only [Array.toList_setIfInBounds, List.getElem?_set, List.getElem?_map]
  by_cases hi : i < len
  · by_cases e : x = i
    · subst e; simp [hi, put]
    · have e2 : ¬ i = x := fun h => e h.symm
      simp [e, e2, hi, put]
  · by_cases e : x = i
    · subst e; simp [hi]
    · simp [e, hi]
end
theorem made_rowK {w1 : World} {B g n : Nat} {t : TypeId} {z : Value} (hz : z.cells = #[z]) (h : w1.ownsRow B t 1 (.slice (some ⟨g, 0, none⟩) n n) n (madeCells z.cells (n * 1)).toList) : ValAt w1 g n t (fun _ => z) := by
  rcases h.2 with ⟨h', _⟩ | ⟨g', cap, cur, hv, _, hh, _, _, hs, ht⟩
  · cases h'
  · simp only [Value.slice.injEq, Option.some.injEq, Addr.mk.injEq, and_true, true_and] at hv
    obtain ⟨rfl, rfl⟩ := hv
    have e : cur = ((List.range n).map fun _ => z).toArray := by
      apply Array.ext'
      rw [show cur.toList = cur.toList.take (n * 1) by rw [List.take_of_length_le (by simp; omega)], ht]
      rw [hz, toList_madeCells_one, Nat.mul_one]
      rw [List.map_const', List.length_range]
    unfold ValAt
    rw [hh, e]
theorem ValAt.ext {w : World} {k len : Nat} {t : TypeId} {c d : Nat → Value} (h : ValAt w k len t c) (e : ∀ i, i < len → c i = d i) : ValAt w k len t d := by
  unfold ValAt at *
  rw [h, List.map_congr_left fun i hi => e i (by simpa using hi)]

set_option maxRecDepth 100000 in
set_option maxHeartbeats 1000000 in

/-- One mark more. -/
def markT (f : Nat → Bool) (x : Nat) : Nat → Bool := fun i => if i = x then true else f i
/-- How many of the first n are not marked. -/
def unm : Nat → (Nat → Bool) → Nat
  | 0, _ => 0
  | n + 1, f => unm n f + (if f n then 0 else 1)
theorem unm_out (f : Nat → Bool) (x : Nat) : ∀ n, n ≤ x → unm n (markT f x) = unm n f
  | 0, _ => rfl
  | n + 1, h => by
    have e : markT f x n = f n := by unfold markT; rw [if_neg (by omega)]
    simp only [unm, unm_out f x n (by omega), e]
theorem unm_mark (f : Nat → Bool) (x : Nat) (hf : f x = false) : ∀ n, x < n → unm n (markT f x) + 1 = unm n f
  | 0, h => by omega
  | n + 1, h => by
    by_cases e : x = n
    · subst e
      have e1 : markT f x x = true := by simp [markT]
      simp [unm, unm_out f x x (Nat.le_refl _), e1, hf]
    · have e1 : markT f x n = f n := by unfold markT; rw [if_neg (fun h => e h.symm)]
      have ih := unm_mark f x hf n (by omega)
      simp only [unm, e1]
      omega


theorem unm_le : ∀ (n : Nat) (f : Nat → Bool), unm n f ≤ n
  | 0, _ => Nat.le_refl _
  | n + 1, f => by
    have := unm_le n f
    unfold unm
    split <;> omega

theorem wpList_append_srcW {w : World} {ops : Array Oper} {rest : List Oper} {o : Oper} {a : Act} {Q : Exit → Act → World → Prop} (hgd : o.guard = none) (s x : Operand) (t : TypeId)
    (ho : o.op = .call { callee := .builtin .append, args := #[s, x], argTypes := #[t, t] })
    (base : Nat) (e : TypeId) (i : TypeInfo) (z : Value) (size bytes : Nat) (ht : Tryz.prog.underlying t = some (.slice e)) (hi : Tryz.prog.info? e = some i) (hz : i.zero = some z)
    (hsize : i.size = size) (hby : i.bytes = bytes) (hzs : z.cells.size = size) (hsz : 0 < size)
    (v : Value) (n : Nat) (xs : List Value) (hs : a.eval s = v) (hown : w.ownsRow base e size v n xs)
    (xo : Option Addr) (m c : Nat) (news : List Value) (hx : a.eval x = .slice xo m c) (hnil : xo = none → m = 0 ∧ c = 0) (hl : news.length = m * size) (hnews : ∀ ad, xo = some ad → ∀ j u, news[j]? = some u → w.cell? (ad.add j) = some u) (h1 : ∀ u ∈ news, u.oneCell' = true)
    (h63 : n + m ≤ maxLen) (hbytes : ((n + m) + (n + m) / 4 + 192) * bytes ≤ 281474976710656) (hbase : base ≤ w.heap.size)
    (h : ∀ v' w', w'.ownsRow base e size v' (n + m) (xs ++ news) → w.grownBy w' v.ownBlock → wpList Tryz.prog ops Q rest (a.put o.dst v') w') : wpList Tryz.prog ops Q (o :: rest) a w := by
  refine wpList_plain hgd fun K hK => ?_
  cases xo with
  | some ad => exact wp_append_own_wide w s x t ho base e i z size bytes ht hi hz hsize hby hzs hsz v n xs hs hown ad m c news hx hl (hnews ad rfl) h1 h63 hbytes hbase fun v' w' h2 h3 _ => hK _ _ (h v' w' h2 h3)
  | none =>
    obtain ⟨rfl, rfl⟩ := hnil rfl
    have hn0 : news = [] := List.eq_nil_of_length_eq_zero (by simpa using hl)
    subst hn0
    have hrun := run_append_owned_none (P := Tryz.prog) (w := w) base t o.type e i size ht hi v n xs hown
    have hk := hK _ _ (h v w (by simpa using hown) ⟨rfl, rfl, rfl, Nat.le_refl _, fun _ _ _ => rfl⟩)
    unfold Oper.wp
    simp [execOp, ho, resolve, invoke, builtin, hs, hx, hrun, Result.andThen]
    exact hk


theorem its_cells {w : World} {a : Option Addr} {l : List It} (h : ItsAt w a l) : ∀ x, a = some x → ∀ j u, (itsV l)[j]? = some u → w.cell? (x.add j) = some u := by
  intro x hx j u hu
  rcases h with h | ⟨b, off, e, hc⟩
  · rw [h] at hu; simp [itsV] at hu
  · rw [hx] at e
    simp only [Option.some.injEq] at e
    subst e
    rw [Addr.add_mid]
    have hj : j < l.length * 2 := by have := (List.getElem?_eq_some_iff.1 hu).1; rwa [itsV_length] at this
    have h1 := hc (j / 2) (by omega)
    have h2 := itsV_at l (j / 2) (by omega)
    have hm : j % 2 = 0 ∨ j % 2 = 1 := by omega
    rcases hm with hm | hm
    · have e : j = j / 2 * 2 := by omega
      rw [← e] at h1 h2
      rw [h1.1, ← hu, h2.1]
    · have e : j = j / 2 * 2 + 1 := by omega
      rw [Nat.add_assoc, ← e] at h1
      rw [← e] at h2
      rw [h1.2, ← hu, h2.2]

set_option maxRecDepth 100000 in
theorem compact_any (w : World) (B : Nat) (a : Option Addr) (c : Nat) (l : List It) (hown : w.ownsRow B 68 2 (.slice a l.length c) l.length (itsV l)) (hb : l.length ≤ 1099511627776000) :
    Calls Tryz.prog 84 #[.slice a l.length c] w fun e y => CompTold B a c l w e y := by
  by_cases h2 : 2 ≤ l.length
  · rcases hown.2 with ⟨hv, h0⟩ | ⟨g, cap, cur, hv, hB, hh, hn, hm, hs, ht⟩
    · omega
    · simp only [Value.slice.injEq] at hv
      obtain ⟨rfl, _, rfl⟩ := hv
      refine compact_big w B g c l.length l rfl hn hm hB h2 hb ⟨⟨rfl, rfl, rfl, Nat.le_refl _, fun _ _ _ => rfl⟩, cur, hh, hs, fun i hi => absurd hi (Nat.not_lt_zero _), fun i _ hi => ?_⟩
      obtain ⟨h3, h4⟩ := itsV_at l i hi
      rw [← ht, List.getElem?_take, if_pos (by omega)] at h3 h4
      exact ⟨by simpa using h3, by simpa using h4⟩
  · have HD : Hid (ddT l l.length = l) := by
      show _ = _
      match l, h2 with
      | [], _ => rfl
      | [x], _ => rfl
      | x :: y :: r, h => exact absurd (by simp) h
    obtain ⟨m, hm⟩ : ∃ m, m = l.length := ⟨_, rfl⟩
    have HM : Hid (m = l.length) := hm
    have HO : Hid (w.ownsRow B 68 2 (.slice a l.length c) l.length (itsV l)) := hown
    rw [← hm] at h2
    rw [← hm]
    have hd : decide (m < 2) = true := decide_eq_true (by omega)
    have hd2 : decide ((m : Int) < 2) = true := decide_eq_true (by omega)
    clear hm hown hb
    go_enter Tryz.func84, Tryz.ntmps84
    go_wp2_with fail
    go_ret
    exact ⟨m, by rw [HD.out]; exact HM.out, rfl, by rw [HD.out, HM.out]; exact HO.out, ⟨rfl, rfl, rfl, Nat.le_refl _, fun _ _ _ => rfl⟩⟩

end Go.Proofs.YtckgjolaoifgkaaGreat.J

/-
  lr0: the document's SameItems; items laid in order, pure.
-/
namespace Go.Proofs.YtckgjolaoifgkaaGreat.J
open Go.RowKit Go.Maps Go.Shelf

attribute [local go_sem] Oper.semAt_some

theorem ItsAt.at {X : World} {a : Option Addr} {l : List It} (h : ItsAt X a l) {i : Nat} (hi : i < l.length) : ∃ b off, a = some ⟨b, off, none⟩ ∧ X.cell? ⟨b, off + i * 2, none⟩ = some (.int .i64 (l.getD i (0, 0)).1) ∧ X.cell? ⟨b, off + i * 2 + 1, none⟩ = some (.int .i64 (l.getD i (0, 0)).2) := by
  rcases h with h | ⟨b, off, e, h⟩
  · rw [h] at hi; cases hi
  · exact ⟨b, off, e, h i hi⟩

set_option maxRecDepth 100000 in
theorem sameItems_any (a1 a2 : Option Addr) (c1 c2 : Nat) (l m : List It) (w : World) (h1 : ItsAt w a1 l) (h2 : ItsAt w a2 m) (hb : l.length ≤ 1099511627776000) (hb2 : m.length ≤ 1099511627776000) (r : Bool) (hr : r = true ↔ l = m) :
    Calls Tryz.prog 39 #[.slice a1 l.length c1, .slice a2 m.length c2] w fun e y => e = .returned (.bool r) ∧ w.grownBy y none := by
  obtain ⟨n1, hn1⟩ : ∃ n, n = l.length := ⟨_, rfl⟩
  obtain ⟨n2, hn2⟩ : ∃ n, n = m.length := ⟨_, rfl⟩
  have HR : Hid (r = true ↔ l = m) := hr
  have HN : Hid (n1 = l.length ∧ n2 = m.length) := ⟨hn1, hn2⟩
  have HI : Hid (∀ X, w.grownBy X none → ItsAt X a1 l ∧ ItsAt X a2 m) := fun X hX => ⟨h1.kept hX, h2.kept hX⟩
  rw [← hn1] at hb
  rw [← hn2] at hb2
  rw [← hn1, ← hn2]
  have hgu := guard_item
  clear hr hn1 hn2 h1 h2
  by_cases hne : n1 = n2
  · subst hne
    have hd : ((n1 : Int) != (n1 : Int)) = false := bne_self_eq_false _
    go_enter Tryz.func39, Tryz.ntmps39
    go_wp2_with fail
    go_loopg [5] n1 (fun gk v5 wr => ∃ j : Nat, j ≤ n1 ∧ gk = n1 - j ∧ v5 = .int .i64 j ∧ w.grownBy wr none ∧ ∀ i, i < j → l.getD i (0, 0) = m.getD i (0, 0))
    case atStart => exact ⟨0, Nat.zero_le _, rfl, rfl, grown_refl _ _, fun i hi => absurd hi (Nat.not_lt_zero _)⟩
    case round =>
      obtain ⟨j, hj, hgj, rfl, hg, hs⟩ := hrel
      have HGJ : Hid (gk = n1 - j) := hgj
      have HG : Hid (w.grownBy wr none) := hg
      have HS : Hid (∀ i, i < j → l.getD i (0, 0) = m.getD i (0, 0)) := hs
      clear hgj hg hs
      by_cases hlt : j < n1
      · have hj0 : (0 : Int) ≤ (j : Int) := by omega
        have hj1 : (j : Int) < (n1 : Int) := by omega
        have hjd : decide (j < n1) = true := decide_eq_true hlt
        obtain ⟨b1, o1, rfl, c0, c1'⟩ := (HI.out wr HG.out).1.at (i := j) (by rw [← HN.out.1]; exact hlt)
        obtain ⟨b2, o2, rfl, d0, d1⟩ := (HI.out wr HG.out).2.at (i := j) (by rw [← HN.out.2]; exact hlt)
        obtain ⟨x, hx⟩ : ∃ x, x = l.getD j (0, 0) := ⟨_, rfl⟩
        obtain ⟨y, hy⟩ : ∃ y, y = m.getD j (0, 0) := ⟨_, rfl⟩
        have HXY : Hid (x = l.getD j (0, 0) ∧ y = m.getD j (0, 0)) := ⟨hx, hy⟩
        rw [← hx] at c0 c1'
        rw [← hy] at d0 d1
        clear hx hy
        obtain ⟨xp, xd⟩ := x
        obtain ⟨yp, yd⟩ := y
        simp only at c0 c1' d0 d1
        obtain ⟨bb, hbb⟩ : ∃ b, b = (xp == yp && xd == yd) := ⟨_, rfl⟩
        have HBB : Hid (bb = true ↔ l.getD j (0, 0) = m.getD j (0, 0)) := by
          rw [← HXY.out.1, ← HXY.out.2, hbb, Bool.and_eq_true, beq_iff_eq, beq_iff_eq]
          exact ⟨fun h => Prod.ext h.1 h.2, fun h => ⟨congrArg Prod.fst h, congrArg Prod.snd h⟩⟩
        have hE : ∀ X : World, (binOp .neq 68 (.agg #[.int .i64 xp, .int .i64 xd]) (.agg #[.int .i64 yp, .int .i64 yd])).run Tryz.prog X = .ok (.bool (!bb)) X := fun X => by rw [hbb]; exact neq_item xp xd yp yd X
        clear hbb
        cases bb with
        | true =>
          have HEQ : Hid (l.getD j (0, 0) = m.getD j (0, 0)) := HBB.out.1 rfl
          clear HBB
          go_wp2_with fail
          go_quiet (fail)
          go_wp2_with fail
          go_roundg (n1 - (j + 1))
          case measure => have := HGJ.out; omega
          case rel => exact ⟨j + 1, by omega, rfl, by go_num, grown_trans HG.out (grown_drewN _ _), fun i hi => by
            by_cases e : i = j
            · rw [e]; exact HEQ.out
            · exact HS.out i (by omega)⟩
        | false =>
          have HRF : Hid (r = false) := by
            show _ = _
            cases hrr : r with
            | false => rfl
            | true =>
              have := HR.out.1 hrr
              rw [this] at HBB
              exact absurd (HBB.out.2 rfl) (by decide)
          go_wp2_with fail
          go_quiet (fail)
          go_wp2_with fail
          go_ret
          exact ⟨by rw [HRF.out]; rfl, grown_trans HG.out (grown_drewN _ _)⟩
      · have hjn : n1 = j := by omega
        subst hjn
        have hjd : decide (n1 < n1) = false := decide_eq_false (by omega)
        have HRT : Hid (r = true) := HR.out.2 (by
          apply List.ext_getElem (by rw [← HN.out.1, ← HN.out.2])
          intro i q1 q2
          have h3 := HS.out i (by rw [HN.out.1]; exact q1)
          rwa [List.getD_eq_getElem?_getD, List.getD_eq_getElem?_getD, List.getElem?_eq_getElem q1, List.getElem?_eq_getElem q2] at h3)
        go_wp2_with fail
        go_ret
        exact ⟨by rw [HRT.out]; rfl, HG.out⟩
  · have hd : ((n1 : Int) != (n2 : Int)) = true := bne_iff_ne.2 (by omega)
    have HRF : Hid (r = false) := by
      show _ = _
      cases hrr : r with
      | false => rfl
      | true =>
        have h3 := HR.out.1 hrr
        exact absurd (by rw [HN.out.1, HN.out.2, h3]) hne
    go_enter Tryz.func39, Tryz.ntmps39
    go_wp2_with fail
    go_ret
    exact ⟨by rw [HRF.out]; rfl, grown_refl _ _⟩

/-- Where x belongs in a list in order. -/
structure Spot (x : It) (l : List It) (k : Nat) : Prop where
  le : k ≤ l.length
  lt : ∀ j, j < k → ltI (l.getD j (0, 0)) x
  ge : k < l.length → ¬ ltI (l.getD k (0, 0)) x
/-- x laid into a list in order. -/
theorem spot_in {x : It} {l : List It} {k : Nat} (hk : k < l.length) (e : l.getD k (0, 0) = x) : x ∈ l := by
  rw [← e, List.getD_eq_getElem?_getD, List.getElem?_eq_getElem hk]; exact List.getElem_mem hk
theorem spot_new {x : It} {l : List It} {k : Nat} (h : Spot x l k) (hl : Asc l) (hn : ¬ (k < l.length ∧ l.getD k (0, 0) = x)) : Asc (l.take k ++ [x] ++ l.drop k) ∧ ∀ y, y ∈ l.take k ++ [x] ++ l.drop k ↔ y = x ∨ y ∈ l := by
  have hsplit : l.take k ++ l.drop k = l := List.take_append_drop k l
  have ha : Asc (l.take k ++ l.drop k) := by rw [hsplit]; exact hl
  obtain ⟨p1, p2, p3⟩ := List.pairwise_append.1 ha
  have q1 : ∀ y ∈ l.take k, ltI y x := fun y hy => by
    obtain ⟨j, hj, e⟩ := List.getElem_of_mem hy
    rw [List.length_take] at hj
    have h3 := h.lt j (by omega)
    rw [List.getD_eq_getElem?_getD, List.getElem?_eq_getElem (by omega)] at h3
    rw [List.getElem_take] at e
    rw [← e]; exact h3
  have q2 : ∀ y ∈ l.drop k, ltI x y := fun y hy => by
    have hk : k < l.length := by
      apply Classical.byContradiction
      intro hk
      rw [List.drop_eq_nil_of_le (by omega)] at hy
      cases hy
    have h4 : ltI x (l.getD k (0, 0)) := by
      rcases ltI_total x (l.getD k (0, 0)) with h5 | h5 | h5
      · exact h5
      · exact absurd ⟨hk, h5.symm⟩ hn
      · exact absurd h5 (h.ge hk)
    rw [List.drop_eq_getElem_cons hk] at hy p2
    have e : l.getD k (0, 0) = l[k] := by rw [List.getD_eq_getElem?_getD, List.getElem?_eq_getElem hk]; rfl
    rw [e] at h4
    rcases List.mem_cons.1 hy with e2 | e2
    · rw [e2]; exact h4
    · exact ltI_trans h4 ((List.pairwise_cons.1 p2).1 y e2)
  refine ⟨?_, fun y => ?_⟩
  · unfold Asc
    rw [List.append_assoc]
    refine List.pairwise_append.2 ⟨p1, ?_, fun a h1 b h2 => ?_⟩
    · exact List.pairwise_cons.2 ⟨q2, p2⟩
    · rcases List.mem_append.1 h2 with h2 | h2
      · rw [List.mem_singleton.1 h2]; exact q1 a h1
      · exact ltI_trans (q1 a h1) (q2 b h2)
  · rw [List.mem_append, List.mem_append, List.mem_singleton]
    have e : y ∈ l ↔ y ∈ l.take k ∨ y ∈ l.drop k := by
      conv => lhs; rw [← hsplit]
      exact List.mem_append
    rw [e]
    constructor
    · rintro ((h1 | h1) | h1)
      · exact .inr (.inl h1)
      · exact .inl h1
      · exact .inr (.inr h1)
    · rintro (h1 | h1 | h1)
      · exact .inl (.inr h1)
      · exact .inl (.inl h1)
      · exact .inr h1

end Go.Proofs.YtckgjolaoifgkaaGreat.J

/-
  lr0: closures in memory.
-/
namespace Go.Proofs.YtckgjolaoifgkaaGreat.J
open Go.RowKit Go.Maps Go.Shelf

attribute [local go_sem] Oper.semAt_some

theorem infoBool : (Tryz.prog.info? 4).map (fun i => (i.zero, i.size, i.bytes)) = some (some (.bool false), 1, 1) := by kernel_rfl

/-- While a closure is made. -/
structure ClAt (w X : World) (cs : Array Value) (mb S : Nat) (b : Nat → Bool) (a : Option Addr) (q c : Nat) (A : List It) : Prop where
  grown : w.grownBy X none
  box : X.heap[w.heap.size]? = some (.cells cs 27 (0, 0))
  mark : ValAt X mb S 4 (fun i => .bool (b i))
  lo : w.heap.size < mb
  own : X.ownsRow w.heap.size 68 2 (.slice a q c) q (itsV A)
section
variable {w X Y : World} {cs : Array Value} {mb S : Nat} {b : Nat → Bool} {a : Option Addr} {q c : Nat} {A : List It}
theorem ClAt.kept (h : ClAt w X cs mb S b a q c A) (hg : X.grownBy Y none) : ClAt w Y cs mb S b a q c A := ⟨grown_trans h.grown hg, box_kept h.box hg, h.mark.kept hg, h.lo, keep0 h.own hg⟩
theorem ClAt.ph (h : ClAt w X cs mb S b a q c A) : PhAt w X w.heap.size cs := ⟨h.grown, h.box⟩
theorem ClAt.tick {s : Nat} (h : ClAt w X cs mb S b a q c A) : ClAt w (X.setCell ⟨mb, s, none⟩ (.bool true)) cs mb S (markT b s) a q c A := by
  have G : X.grownBy (X.setCell ⟨mb, s, none⟩ (.bool true)) (some mb) := grown_setCell _ _ _
  have hl := h.lo
  refine ⟨grown_new h.grown G (by omega), (G.block _ (Array.getElem?_eq_some_iff.1 h.box).1 (by simp; omega)).trans h.box, (h.mark.set s (.bool true)).ext fun i _ => ?_, h.lo, h.own.kept G (owns_nebox h.own h.mark (by decide))⟩
  unfold put markT
  by_cases e : i = s
  · rw [if_pos e, if_pos e]
  · rw [if_neg e, if_neg e]
theorem ClAt.more {v' : Value} {m : Nat} {A' : List It} (h : ClAt w X cs mb S b a q c A) (hg : X.grownBy Y (Value.slice a q c).ownBlock) (ho : Y.ownsRow w.heap.size 68 2 v' m (itsV A')) : ∃ a' c', v' = .slice a' m c' ∧ ClAt w Y cs mb S b a' m c' A' := by
  obtain ⟨a', c', rfl⟩ := owns_slice ho
  refine ⟨a', c', rfl, grown_row h.grown h.own (Nat.le_refl _) hg, ?_, ?_, h.lo, ho⟩
  · refine (hg.block _ (Array.getElem?_eq_some_iff.1 h.box).1 ?_).trans h.box
    rcases owns_nebox h.own h.box (by decide) with h1 | h1
    · rw [h1]; simp
    · exact fun h2 => h1 h2.symm
  · refine (hg.block _ h.mark.lt ?_).trans h.mark
    rcases owns_nebox h.own h.mark (by decide) with h1 | h1
    · rw [h1]; simp
    · exact fun h2 => h1 h2.symm
end

theorem aheadV_range {n : Nat} {R : Nat → List Int} {S : Nat} (hR : ∀ k, k < n → ∀ x ∈ R k, (0 : Int) ≤ x ∧ x < (S : Int)) {x : It} (hx : itB n R x = true) : aheadV R x = -1 ∨ ((0 : Int) ≤ aheadV R x ∧ aheadV R x < (S : Int)) := by
  unfold itB at hx
  simp only [Bool.and_eq_true, decide_eq_true_eq] at hx
  obtain ⟨⟨⟨h0, h1⟩, h2⟩, h3⟩ := hx
  unfold aheadV
  split
  · exact .inl rfl
  · rename_i h4
    right
    have h5 : x.2.toNat < (R x.1.toNat).length := by omega
    rw [List.getD_eq_getElem?_getD, List.getElem?_eq_getElem h5]
    exact hR x.1.toNat (by omega) _ (List.getElem_mem h5)

/-- What closure tells. -/
def CloTold (tn n : Nat) (L : Nat → Int) (R : Nat → List Int) (I : List It) (w : World) (e : Ending) (y : World) : Prop := ∃ l, IsClo tn n L R I l ∧ l.length ≤ I.length + 13000 ∧ ItsTold l w e y

end Go.Proofs.YtckgjolaoifgkaaGreat.J

/-
  append onto a row of one's own, wide, and where the new slice lies.
-/
namespace Go.Proofs.YtckgjolaoifgkaaGreat.J
open Go.RowKit Go.Maps Go.Shelf

section
variable {P : Program} (w : World)
theorem run_append_liesW (t ty : TypeId) (base : Nat) (e : TypeId) (i : TypeInfo) (z : Value) (size bytes : Nat) (ht : P.underlying t = some (.slice e)) (hi : P.info? e = some i) (hz : i.zero = some z)
    (hsize : i.size = size) (hby : i.bytes = bytes) (hzs : z.cells.size = size) (hsz : 0 < size)
    (v : Value) (n : Nat) (xs : List Value) (hown : w.ownsRow base e size v n xs)
    (ad : Addr) (m c : Nat) (news : List Value) (hl : news.length = m * size) (hnews : ∀ j u, news[j]? = some u → w.cell? (ad.add j) = some u) (h1 : ∀ u ∈ news, u.oneCell' = true)
    (hm : 0 < m) (h63 : n + m ≤ maxLen) (hbytes : ((n + m) + (n + m) / 4 + 192) * bytes ≤ 281474976710656) (hbase : base ≤ w.heap.size) :
    ∃ g cap w', (Builtin.append_ #[t, t] ty #[v, .slice (some ad) m c]).run P w = .ok (.slice (some ⟨g, 0, none⟩) (n + m) cap) w' ∧
      w'.ownsRow base e size (.slice (some ⟨g, 0, none⟩) (n + m) cap) (n + m) (xs ++ news) ∧ w.grownBy w' v.ownBlock ∧ (v.ownBlock = some g ∨ g = w.heap.size) := by
  obtain ⟨v', w', hr, h2, h3, _⟩ := run_append_own_wide (P := P) w base t ty e i z size bytes ht hi hz hsize hby hzs hsz v n xs hown ad m c news hl hnews h1 h63 hbytes hbase
  obtain ⟨g, cap, rfl, _, hlt⟩ := h2.form (by omega)
  refine ⟨g, cap, w', hr, h2, h3, ?_⟩
  subst hsize
  subst hby
  rcases hown.2 with ⟨rfl, rfl⟩ | ⟨g', cap', cur, rfl, hbg, hg, hnc, hcm, hcs, htake⟩
  · right
    have hr2 := run_append_nil (P := P) w t ty e i z ht hi hz ad m c news hl hnews hm (by simp only [maxLen] at h63; omega) (by have hb := hbytes; simp only [Nat.zero_add] at hb; exact Nat.le_trans (Nat.mul_le_mul_right _ (by omega)) hb)
    rw [hr] at hr2
    simp only [Result.ok.injEq, Value.slice.injEq, Option.some.injEq, Addr.mk.injEq] at hr2
    exact hr2.1.1.1
  · by_cases hroom : n + m ≤ cap'
    · left
      have hfit : n * i.size + news.length ≤ cur.size := by rw [hl, hcs, ← Nat.add_mul]; exact Nat.mul_le_mul_right _ hroom
      have hr2 := run_append_room (P := P) w t ty e i ht hi g' n cap' cur hg ad m c news hl hnews h1 hroom hfit
      rw [hr] at hr2
      simp only [Result.ok.injEq, Value.slice.injEq, Option.some.injEq, Addr.mk.injEq] at hr2
      rw [hr2.1.1.1]; rfl
    · right
      have holds : ∀ j u, xs[j]? = some u → w.cell? ((⟨g', 0, none⟩ : Addr).add j) = some u := hown.cells (g := g') rfl
      have hr2 := run_append_grow (P := P) w t ty e i z ht hi hz ⟨g', 0, none⟩ n cap' xs hown.1 holds ad m c news hl hnews (by omega) (by simp only [maxLen] at h63; omega) (growslice_fits_wide (by omega) hbytes)
      rw [hr] at hr2
      simp only [Result.ok.injEq, Value.slice.injEq, Option.some.injEq, Addr.mk.injEq] at hr2
      exact hr2.1.1.1

theorem wp_append_liesW {o : Oper} {a : Act} {K : Act → World → Prop} {Q : Exit → Act → World → Prop} (s x : Operand) (t : TypeId)
    (ho : o.op = .call { callee := .builtin .append, args := #[s, x], argTypes := #[t, t] })
    (base : Nat) (e : TypeId) (i : TypeInfo) (z : Value) (size bytes : Nat) (ht : P.underlying t = some (.slice e)) (hi : P.info? e = some i) (hz : i.zero = some z)
    (hsize : i.size = size) (hby : i.bytes = bytes) (hzs : z.cells.size = size) (hsz : 0 < size)
    (v : Value) (n : Nat) (xs : List Value) (hs : a.eval s = v) (hown : w.ownsRow base e size v n xs)
    (ad : Addr) (m c : Nat) (news : List Value) (hx : a.eval x = .slice (some ad) m c) (hl : news.length = m * size) (hnews : ∀ j u, news[j]? = some u → w.cell? (ad.add j) = some u) (h1 : ∀ u ∈ news, u.oneCell' = true)
    (hm : 0 < m) (h63 : n + m ≤ maxLen) (hbytes : ((n + m) + (n + m) / 4 + 192) * bytes ≤ 281474976710656) (hbase : base ≤ w.heap.size)
    (h : ∀ g cap w', w'.ownsRow base e size (.slice (some ⟨g, 0, none⟩) (n + m) cap) (n + m) (xs ++ news) → w.grownBy w' v.ownBlock → (v.ownBlock = some g ∨ g = w.heap.size) → K (a.put o.dst (.slice (some ⟨g, 0, none⟩) (n + m) cap)) w') : o.wp P a w K Q := by
  obtain ⟨g, cap, w', hr, h2, h3, h4⟩ := run_append_liesW (P := P) w t o.type base e i z size bytes ht hi hz hsize hby hzs hsz v n xs hown ad m c news hl hnews h1 hm h63 hbytes hbase
  unfold Oper.wp execOp
  simp only [ho, resolve, invoke, builtin, Sem.run_bind, Sem.run_pure, Result.andThen_ok, List.map_toArray, List.map_cons, List.map_nil, hs, hx, hr]
  exact h g cap w' h2 h3 h4

theorem step_append_liesW {ops : Array Oper} {o : Oper} {a : Act} {K : Act → World → Prop} {Q : Exit → Act → World → Prop} {E : Prop} (hgd : o.guard = none) (s x : Operand) (t : TypeId)
    (ho : o.op = .call { callee := .builtin .append, args := #[s, x], argTypes := #[t, t] })
    (base : Nat) (e : TypeId) (i : TypeInfo) (z : Value) (size bytes : Nat) (ht : P.underlying t = some (.slice e)) (hi : P.info? e = some i) (hz : i.zero = some z)
    (hsize : i.size = size) (hby : i.bytes = bytes) (hzs : z.cells.size = size) (hsz : 0 < size)
    (v : Value) (n : Nat) (xs : List Value) (hs : a.eval s = v) (hown : w.ownsRow base e size v n xs)
    (ad : Addr) (m c : Nat) (news : List Value) (hx : a.eval x = .slice (some ad) m c) (hl : news.length = m * size) (hnews : ∀ j u, news[j]? = some u → w.cell? (ad.add j) = some u) (h1 : ∀ u ∈ news, u.oneCell' = true)
    (hm : 0 < m) (h63 : n + m ≤ maxLen) (hbytes : ((n + m) + (n + m) / 4 + 192) * bytes ≤ 281474976710656) (hbase : base ≤ w.heap.size)
    (h : ∀ g cap w', w'.ownsRow base e size (.slice (some ⟨g, 0, none⟩) (n + m) cap) (n + m) (xs ++ news) → w.grownBy w' v.ownBlock → (v.ownBlock = some g ∨ g = w.heap.size) → K (a.put o.dst (.slice (some ⟨g, 0, none⟩) (n + m) cap)) w') :
    if Region.wanted o (yielded ops a.tmps) = true then Oper.wp P o a w K Q else E := by
  have hw : Region.wanted o (yielded ops a.tmps) = true := by simp [Region.wanted, hgd]
  rw [if_pos hw]
  exact wp_append_liesW w s x t ho base e i z size bytes ht hi hz hsize hby hzs hsz v n xs hs hown ad m c news hx hl hnews h1 hm h63 hbytes hbase h
end

end Go.Proofs.YtckgjolaoifgkaaGreat.J

/-
  lr0: what items bring along, in memory; bring.
-/
namespace Go.Proofs.YtckgjolaoifgkaaGreat.J
open Go.RowKit Go.Maps Go.Shelf

attribute [local go_sem] Oper.semAt_some

theorem infoIntB : (Tryz.prog.info? 3).map (fun i => (i.zero, i.size, i.bytes)) = some (some (.int .i64 0), 1, 8) := by kernel_rfl

/-- Symbols, as cells. -/
def brV (T : List Nat) : List Value := T.map fun s : Nat => .int .i64 (s : Int)
theorem brV_length (T : List Nat) : (brV T).length = T.length := by unfold brV; simp
theorem brV_snoc (T : List Nat) (s : Nat) : brV (T ++ [s]) = brV T ++ [.int .i64 (s : Int)] := by unfold brV; simp
/-- Whether a symbol is brought now: marks, and what is left. -/
def brB (tn : Nat) (b : Nat → Bool) (sv : Int) : Nat → Bool := if (tn : Int) ≤ sv ∧ b sv.toNat = false then markT b sv.toNat else b
def brT (tn : Nat) (b : Nat → Bool) (T : List Nat) (sv : Int) : List Nat := if (tn : Int) ≤ sv ∧ b sv.toNat = false then T ++ [sv.toNat] else T

/-- Blocks of other things than marks, numbers and what is left stay. -/
def KeepB (X Y : World) : Prop := X.heap.size ≤ Y.heap.size ∧ ∀ (k : Nat) (cs : Array Value) (t : TypeId), X.heap[k]? = some (.cells cs t (0, 0)) → t ≠ 4 → t ≠ 3 → t ≠ 24 → Y.heap[k]? = some (.cells cs t (0, 0))
theorem KeepB.refl (X : World) : KeepB X X := ⟨Nat.le_refl _, fun _ _ _ h _ _ _ => h⟩
theorem KeepB.trans {X Y Z : World} (h : KeepB X Y) (k : KeepB Y Z) : KeepB X Z := ⟨Nat.le_trans h.1 k.1, fun b cs t h1 h2 h3 h4 => k.2 b cs t (h.2 b cs t h1 h2 h3 h4) h2 h3 h4⟩
theorem KeepB.none_ {X Y : World} (h : X.grownBy Y none) : KeepB X Y := ⟨h.size, fun _ _ _ h1 _ _ _ => box_kept h1 h⟩

/-- While it is found what items bring along. -/
structure BoAt (w X : World) (gb : Nat) (cs : Array Value) (vb lb mb S : Nat) (b : Nat → Bool) (a : Option Addr) (q c : Nat) (T : List Nat) : Prop where
  grown : w.grownBy X none
  box : X.heap[gb]? = some (.cells cs 27 (0, 0))
  vbox : X.heap[vb]? = some (.cells #[.slice (some ⟨mb, 0, none⟩) S S] 86 (0, 0))
  lbox : X.heap[lb]? = some (.cells #[.slice a q c] 24 (0, 0))
  mark : ValAt X mb S 4 (fun i => .bool (b i))
  own : X.ownsRow w.heap.size 3 1 (.slice a q c) q (brV T)
  lo : w.heap.size ≤ gb ∧ w.heap.size ≤ vb ∧ w.heap.size ≤ lb ∧ w.heap.size ≤ mb

theorem br_set {X : World} {k k2 x : Nat} {v : Value} {cs cs2 : Array Value} {t t2 : TypeId} (h : X.heap[k]? = some (.cells cs t (0, 0))) (h2 : X.heap[k2]? = some (.cells cs2 t2 (0, 0))) (hne : t ≠ t2) : (X.setCell ⟨k2, x, none⟩ v).heap[k]? = some (.cells cs t (0, 0)) := by
  have hg : X.grownBy (X.setCell ⟨k2, x, none⟩ v) (some k2) := grown_setCell _ _ _
  refine (hg.block k (Array.getElem?_eq_some_iff.1 h).1 ?_).trans h
  intro e
  have e2 : k = k2 := by simpa using e
  rw [e2, h2] at h
  simp only [Option.some.injEq, Obj.cells.injEq] at h
  exact hne h.2.1.symm
theorem br_row {X Y : World} {B e e' s n k : Nat} {v : Value} {xs : List Value} {cs : Array Value} (h : X.heap[k]? = some (.cells cs e' (0, 0))) (ho : X.ownsRow B e s v n xs) (hne : e ≠ e') (hg : X.grownBy Y v.ownBlock) : Y.heap[k]? = some (.cells cs e' (0, 0)) := by
  refine (hg.block k (Array.getElem?_eq_some_iff.1 h).1 ?_).trans h
  intro e2
  rcases owns_nebox ho h hne with h2 | h2
  · rw [h2] at e2; cases e2
  · exact h2 e2.symm
section
variable {w X Y : World} {gb : Nat} {cs : Array Value} {vb lb mb S : Nat} {b : Nat → Bool} {a : Option Addr} {q c : Nat} {T : List Nat}
theorem BoAt.kept (h : BoAt w X gb cs vb lb mb S b a q c T) (hg : X.grownBy Y none) : BoAt w Y gb cs vb lb mb S b a q c T :=
  ⟨grown_trans h.grown hg, box_kept h.box hg, box_kept h.vbox hg, box_kept h.lbox hg, h.mark.kept hg, keep0 h.own hg, h.lo⟩
theorem BoAt.len (h : BoAt w X gb cs vb lb mb S b a q c T) : q = T.length := by
  have := h.own.1
  rw [brV_length] at this
  omega
theorem BoAt.tick {s : Nat} (h : BoAt w X gb cs vb lb mb S b a q c T) : BoAt w (X.setCell ⟨mb, s, none⟩ (.bool true)) gb cs vb lb mb S (markT b s) a q c T ∧ KeepB X (X.setCell ⟨mb, s, none⟩ (.bool true)) := by
  have G : X.grownBy (X.setCell ⟨mb, s, none⟩ (.bool true)) (some mb) := grown_setCell _ _ _
  refine ⟨⟨grown_new h.grown G h.lo.2.2.2, br_set h.box h.mark (by decide), br_set h.vbox h.mark (by decide), br_set h.lbox h.mark (by decide), (h.mark.set s (.bool true)).ext fun i _ => ?_, h.own.kept G (owns_nebox h.own h.mark (by decide)), h.lo⟩, G.size, fun k cs t h1 h2 _ _ => br_set h1 h.mark h2⟩
  unfold put markT
  by_cases e : i = s
  · rw [if_pos e, if_pos e]
  · rw [if_neg e, if_neg e]
/-- The box of what is left is written. -/
theorem BoAt.store {a' : Option Addr} {q' c' : Nat} {T' : List Nat} (h1 : w.grownBy Y none) (h2 : Y.heap[gb]? = some (.cells cs 27 (0, 0))) (h3 : Y.heap[vb]? = some (.cells #[.slice (some ⟨mb, 0, none⟩) S S] 86 (0, 0))) (h4 : Y.heap[lb]? = some (.cells #[.slice a q c] 24 (0, 0))) (h5 : ValAt Y mb S 4 (fun i => .bool (b i))) (h6 : Y.ownsRow w.heap.size 3 1 (.slice a' q' c') q' (brV T')) (h7 : w.heap.size ≤ gb ∧ w.heap.size ≤ vb ∧ w.heap.size ≤ lb ∧ w.heap.size ≤ mb) : BoAt w (Y.setCell ⟨lb, 0, none⟩ (.slice a' q' c')) gb cs vb lb mb S b a' q' c' T' := by
  have G : Y.grownBy (Y.setCell ⟨lb, 0, none⟩ (.slice a' q' c')) (some lb) := grown_setCell _ _ _
  refine ⟨grown_new h1 G h7.2.2.1, br_set h2 h4 (by decide), br_set h3 h4 (by decide), ?_, br_set h5 h4 (by decide), h6.kept G (owns_nebox h6 h4 (by decide)), h7⟩
  rw [heap_setCell_same _ _ _ _ _ _ h4]
  rfl
theorem KeepB.store {x : Nat} {v : Value} (h4 : Y.heap[lb]? = some (.cells #[.slice a q c] 24 (0, 0))) : KeepB Y (Y.setCell ⟨lb, x, none⟩ v) := by
  have G : Y.grownBy (Y.setCell ⟨lb, x, none⟩ v) (some lb) := grown_setCell _ _ _
  exact ⟨G.size, fun k cs t h1 _ _ h2 => br_set h1 h4 h2⟩
theorem BoAt.push {s c' : Nat} {a' : Option Addr} (h : BoAt w X gb cs vb lb mb S b a q c T) (hg : X.grownBy Y (Value.slice a q c).ownBlock) (ho : Y.ownsRow w.heap.size 3 1 (.slice a' (q + 1) c') (q + 1) (brV T ++ [.int .i64 (s : Int)])) :
    Y.cell? ⟨lb, 0, none⟩ = some (.slice a q c) ∧ Y.frozen? ⟨lb, 0, none⟩ = false ∧ BoAt w (Y.setCell ⟨lb, 0, none⟩ (.slice a' (q + 1) c')) gb cs vb lb mb S b a' (q + 1) c' (T ++ [s]) ∧ KeepB X (Y.setCell ⟨lb, 0, none⟩ (.slice a' (q + 1) c')) := by
  have hl := br_row h.lbox h.own (by decide) hg
  refine ⟨by rw [cell_of_row _ _ _ _ _ _ hl]; rfl, frozen_of_row _ _ _ _ _ hl, BoAt.store (grown_row h.grown h.own (Nat.le_refl _) hg) (br_row h.box h.own (by decide) hg) (br_row h.vbox h.own (by decide) hg) hl (br_row h.mark h.own (by decide) hg) (by rw [brV_snoc]; exact ho) h.lo, KeepB.trans ⟨hg.size, fun k cs t h1 _ h2 _ => br_row h1 h.own (fun e => h2 e.symm) hg⟩ (.store hl)⟩
theorem BoAt.pop {s : Nat} (h : BoAt w X gb cs vb lb mb S b a (q + 1) c (T ++ [s])) : BoAt w (X.setCell ⟨lb, 0, none⟩ (.slice a q c)) gb cs vb lb mb S b a q c T ∧ KeepB X (X.setCell ⟨lb, 0, none⟩ (.slice a q c)) := by
  refine ⟨BoAt.store h.grown h.box h.vbox h.lbox h.mark ?_ h.lo, .store h.lbox⟩
  have hl := h.len
  rw [List.length_append, List.length_singleton] at hl
  refine ⟨by rw [brV_length]; omega, ?_⟩
  rcases h.own.2 with ⟨_, h2⟩ | ⟨g, cap, cur, hv, hB, hh, hn, hm, hs, ht⟩
  · omega
  · simp only [Value.slice.injEq] at hv
    obtain ⟨rfl, _, rfl⟩ := hv
    refine .inr ⟨g, c, cur, rfl, hB, hh, by omega, hm, hs, ?_⟩
    rw [brV_snoc] at ht
    have h3 := congrArg (List.take (q * 1)) ht
    rw [List.take_take, Nat.min_eq_left (by omega)] at h3
    rw [h3, List.take_append_of_le_length (by rw [brV_length]; omega), List.take_of_length_le (by rw [brV_length]; omega)]
end

/-- What bring tells. -/
def BringTold (w : World) (gb : Nat) (cs : Array Value) (vb lb mb S tn : Nat) (b : Nat → Bool) (T : List Nat) (sv : Int) (X : World) (e : Ending) (y : World) : Prop := e = .returned (.tuple #[]) ∧ KeepB X y ∧ ∃ a q c, BoAt w y gb cs vb lb mb S (brB tn b sv) a q c (brT tn b T sv)

set_option maxRecDepth 100000 in
set_option maxHeartbeats 2000000 in
theorem bring_any (ta na la pa : Option Addr) (tc nc lc pc : Nat) (n : Nat) (st : Int) (tn nn ln : Nat) (w X : World) (gb vb lb mb S : Nat) (b : Nat → Bool) (a : Option Addr) (q c : Nat) (T : List Nat) (h : BoAt w X gb #[.slice ta tn tc, .slice na nn nc, .slice la ln lc, .int .i64 st, .slice pa n pc] vb lb mb S b a q c T) (sv : Int) (hsv : sv = -1 ∨ ((0 : Int) ≤ sv ∧ sv < (S : Int))) (hq : q ≤ 1000000) :
    Calls Tryz.prog 89 #[.int .i64 sv, .pointer (some ⟨gb, 0, none⟩), .pointer (some ⟨vb, 0, none⟩), .pointer (some ⟨lb, 0, none⟩)] X fun e y => BringTold w gb #[.slice ta tn tc, .slice na nn nc, .slice la ln lc, .int .i64 st, .slice pa n pc] vb lb mb S tn b T sv X e y := by
  have HB : Hid (BoAt w X gb #[.slice ta tn tc, .slice na nn nc, .slice la ln lc, .int .i64 st, .slice pa n pc] vb lb mb S b a q c T) := h
  have g0 : X.cell? ⟨gb, 0, none⟩ = some (.slice ta tn tc) := by rw [cell_of_row _ _ _ _ _ _ h.box]; rfl
  have v0 : X.cell? ⟨vb, 0, none⟩ = some (.slice (some ⟨mb, 0, none⟩) S S) := by rw [cell_of_row _ _ _ _ _ _ h.vbox]; rfl
  by_cases hlt : sv < (tn : Int)
  · have hd : decide ((tn : Int) ≤ sv) = false := decide_eq_false (by omega)
    have HE1 : Hid (brB tn b sv = b) := by show _ = _; unfold brB; rw [if_neg (by omega)]
    have HE2 : Hid (brT tn b T sv = T) := by show _ = _; unfold brT; rw [if_neg (by omega)]
    clear h hlt hsv
    go_enter Tryz.func89, Tryz.ntmps89
    go_wp2_with fail
    refine bodyPost_end (v := .tuple #[]) (by simp [results, Tryz.results89]) rfl ?_
    exact ⟨rfl, .refl _, a, q, c, by rw [HE1.out, HE2.out]; exact HB.out⟩
  · obtain ⟨s, rfl⟩ : ∃ s : Nat, sv = (s : Int) := ⟨sv.toNat, by omega⟩
    have hsS : s < S := by omega
    have hts : tn ≤ s := by omega
    have hd : decide (tn ≤ s) = true := decide_eq_true hts
    have hd2 : decide ((tn : Int) ≤ (s : Int)) = true := decide_eq_true (by omega)
    have hs0 : (0 : Int) ≤ (s : Int) := by omega
    have hs1 : (s : Int) < (S : Int) := by omega
    have m0 := h.mark.cell s hsS
    have m1 := h.mark.free s
    have HMX : Hid (b s = true → brB tn b (s : Int) = b ∧ brT tn b T (s : Int) = T) := fun e => by
      unfold brB brT
      rw [if_neg (by rw [Int.toNat_natCast, e]; simp), if_neg (by rw [Int.toNat_natCast, e]; simp)]
      exact ⟨rfl, rfl⟩
    have HMY : Hid (b s = false → brB tn b (s : Int) = markT b s ∧ brT tn b T (s : Int) = T ++ [s]) := fun e => by
      unfold brB brT
      rw [if_pos ⟨by omega, by rw [Int.toNat_natCast, e]⟩, if_pos ⟨by omega, by rw [Int.toNat_natCast, e]⟩, Int.toNat_natCast]
      exact ⟨rfl, rfl⟩
    obtain ⟨bs, hbs⟩ : ∃ x, x = b s := ⟨_, rfl⟩
    have HBS : Hid (bs = b s) := hbs
    rw [← hbs] at m0
    clear hbs hlt hsv hts hsS
    cases bs with
    | true =>
      have HE := show Hid _ from HMX.out HBS.out.symm
      clear h HBS
      go_enter Tryz.func89, Tryz.ntmps89
      go_wp2_with fail
      refine bodyPost_end (v := .tuple #[]) (by simp [results, Tryz.results89]) rfl ?_
      exact ⟨rfl, .refl _, a, q, c, by rw [HE.out.1, HE.out.2]; exact HB.out⟩
    | false =>
      have HE := show Hid _ from HMY.out HBS.out.symm
      obtain ⟨hT0, hK0⟩ := h.tick (s := s)
      obtain ⟨X1, hX1⟩ : ∃ X1, X1 = X.setCell ⟨mb, s, none⟩ (.bool true) := ⟨_, rfl⟩
      rw [← hX1] at hT0 hK0
      have hGA : X1.grownBy (X1.alloc (.cells #[.int .i64 (s : Int)] 3)) none := World.grownBy_alloc _ _ none
      have l0 : X1.cell? ⟨lb, 0, none⟩ = some (.slice a q c) := by rw [cell_of_row _ _ _ _ _ _ hT0.lbox]; rfl
      have l1 : (X1.alloc (.cells #[.int .i64 (s : Int)] 3)).cell? ⟨lb, 0, none⟩ = some (.slice a q c) := hGA.cell l0 (by simp)
      have HFIN : Hid (∀ (V : World) (a' : Option Addr) (c' : Nat), (X1.alloc (.cells #[.int .i64 (s : Int)] 3)).grownBy V (Value.slice a q c).ownBlock → V.ownsRow w.heap.size 3 1 (.slice a' (q + 1) c') (q + 1) (brV T ++ [.int .i64 (s : Int)]) → V.cell? ⟨lb, 0, none⟩ = some (.slice a q c) ∧ V.frozen? ⟨lb, 0, none⟩ = false ∧ BoAt w (V.setCell ⟨lb, 0, none⟩ (.slice a' (q + 1) c')) gb #[.slice ta tn tc, .slice na nn nc, .slice la ln lc, .int .i64 st, .slice pa n pc] vb lb mb S (markT b s) a' (q + 1) c' (T ++ [s]) ∧ KeepB X (V.setCell ⟨lb, 0, none⟩ (.slice a' (q + 1) c'))) := fun V a' c' hg ho => by
        obtain ⟨p1, p2, p3, p4⟩ := (hT0.kept hGA).push (s := s) hg ho
        exact ⟨p1, p2, p3, (hK0.trans (.none_ hGA)).trans p4⟩
      have HOW : Hid ((X1.alloc (.cells #[.int .i64 (s : Int)] 3)).ownsRow w.heap.size 3 1 (.slice a q c) q (brV T)) := keep0 hT0.own hGA
      have HWS : Hid (w.heap.size ≤ (X1.alloc (.cells #[.int .i64 (s : Int)] 3)).heap.size) := Nat.le_trans hT0.grown.size hGA.size
      have HNX : Hid (∀ j z, [Value.int .i64 (s : Int)][j]? = some z → (X1.alloc (.cells #[.int .i64 (s : Int)] 3)).cell? ((⟨X1.heap.size, 0, none⟩ : Addr).add j) = some z) := news_new X1 _ _
      have hsz : X1.heap.size = X.heap.size := by rw [hX1]; simp
      rw [hsz] at HNX
      obtain ⟨i0, hi0, hz0, hz1, hz2⟩ := info_parts infoIntB
      obtain ⟨xs, hxs⟩ : ∃ xs, xs = brV T := ⟨_, rfl⟩
      rw [← hxs] at HFIN HOW
      rw [hX1] at l0 l1 HFIN HOW HWS HNX
      clear h HBS hT0 hK0 hX1 hxs hsz hGA
      go_enter Tryz.func89, Tryz.ntmps89
      go_wp2_with (at_builtin; refine wpList_append_srcW rfl (.tmp 20) (.tmp 22) 24 rfl w.heap.size 3 i0 (.int .i64 0) 1 8 Tryz.underlying24 hi0 hz0 hz1 hz2 rfl (by decide) (.slice a q c) q xs rfl HOW.out (some ⟨X.heap.size, 0, none⟩) 1 1 [.int .i64 (s : Int)] rfl (fun h => by cases h) rfl (fun ad e => by cases e; exact HNX.out) (by simp [Value.oneCell']) (by unfold maxLen; omega) (by omega) HWS.out ?_; intro v6 wB hoB hgB; obtain ⟨a6, c6, rfl⟩ := owns_slice hoB; obtain ⟨q1, q2, q3, q4⟩ := HFIN.out wB a6 c6 hgB hoB; have HQ3 := show Hid _ from q3; have HQ4 := show Hid _ from q4; clear q3 q4 hoB hgB)
      refine bodyPost_end (v := .tuple #[]) (by simp [results, Tryz.results89]) rfl ?_
      exact ⟨rfl, HQ4.out, a6, q + 1, c6, by rw [HE.out.1, HE.out.2]; exact HQ3.out⟩

end Go.Proofs.YtckgjolaoifgkaaGreat.J

/-
  lr0: broughtBy.
-/
namespace Go.Proofs.YtckgjolaoifgkaaGreat.J
open Go.RowKit Go.Maps Go.Shelf

attribute [local go_sem] Oper.semAt_some

section
variable {tn n : Nat} {L : Nat → Int} {R : Nat → List Int} {I : List It} {b : Nat → Bool} {T : List Nat} {i k S : Nat} {non sv : Int}
theorem markT_iff (b : Nat → Bool) (s : Nat) : ∀ j, markT b s j = true ↔ j = s ∨ b j = true := fun j => by
  unfold markT
  by_cases e : j = s
  · simp [e]
  · simp [e]
theorem BrP.nextI (h : BrP tn n L R I b T i non k) (hi : i < I.length) (hs : sv = aheadV R (I.getD i (0, 0))) : BrP tn n L R I (brB tn b sv) (brT tn b T sv) (i + 1) non k := by
  unfold brB brT
  by_cases hc : (tn : Int) ≤ sv ∧ b sv.toNat = false
  · rw [if_pos hc, if_pos hc]
    have hI : I.getD i (0, 0) ∈ I := by rw [List.getD_eq_getElem?_getD, List.getElem?_eq_getElem hi]; exact List.getElem_mem hi
    refine (h.mark (by omega) ⟨_, Clo.base hI, by rw [← hs]; omega⟩ (markT_iff b sv.toNat)).skipI fun _ => ?_
    rw [← hs]
    exact (markT_iff _ _ _).2 (.inl rfl)
  · rw [if_neg hc, if_neg hc]
    refine h.skipI fun ht => ?_
    rw [← hs] at ht ⊢
    cases hb : b sv.toNat with
    | true => rfl
    | false => exact absurd ⟨ht, hb⟩ hc
theorem BrP.nextP {s : Nat} (h : BrP tn n L R I b T i (s : Int) k) (hk : k < n) (hL : L k = (s : Int)) (hb : b s = true) (hs : sv = aheadV R ((k : Int), 0)) : BrP tn n L R I (brB tn b sv) (brT tn b T sv) i (s : Int) (k + 1) := by
  unfold brB brT
  by_cases hc : (tn : Int) ≤ sv ∧ b sv.toNat = false
  · rw [if_pos hc, if_pos hc]
    obtain ⟨h1, y, h2, h3⟩ := h.snd s hb
    refine (h.mark (by omega) ⟨_, h2.step (by rw [h3]; omega) hk (by rw [h3]; exact hL), by rw [← hs]; omega⟩ (markT_iff b sv.toNat)).skipP fun _ _ => ?_
    rw [← hs]
    exact (markT_iff _ _ _).2 (.inl rfl)
  · rw [if_neg hc, if_neg hc]
    refine h.skipP fun _ ht => ?_
    rw [← hs] at ht ⊢
    cases hb : b sv.toNat with
    | true => rfl
    | false => exact absurd ⟨ht, hb⟩ hc
theorem brB_mono {s : Nat} (h : b s = true) : brB tn b sv s = true := by
  unfold brB
  split
  · exact (markT_iff _ _ _).2 (.inr h)
  · exact h
theorem br_meas (hsv : sv = -1 ∨ ((0 : Int) ≤ sv ∧ sv < (S : Int))) : (brT tn b T sv).length + unm S (brB tn b sv) ≤ T.length + unm S b ∧ (brT tn b T sv).length + unm S (brB tn b sv) * 2 ≤ T.length + unm S b * 2 := by
  unfold brB brT
  by_cases hc : (tn : Int) ≤ sv ∧ b sv.toNat = false
  · rw [if_pos hc, if_pos hc]
    have := unm_mark b sv.toNat hc.2 S (by omega)
    rw [List.length_append, List.length_singleton]
    omega
  · rw [if_neg hc, if_neg hc]
    omega
theorem BrP.rest (h : BrP tn n L R I b T i (-1) 0) (hL : ∀ p, p < n → 0 ≤ L p) : BrP tn n L R I b T i (-1) n := ⟨h.snd, h.tin, h.its, h.done, fun p _ hp hl _ => by have := hL p hp; omega⟩
end

theorem itB_begun {n : Nat} {R : Nat → List Int} {k : Nat} (hk : k < n) : itB n R ((k : Int), 0) = true := by
  unfold itB
  have h1 : decide ((0 : Int) ≤ ((k : Int), (0 : Int)).1) = true := decide_eq_true (by simp)
  have h2 : decide (((k : Int), (0 : Int)).1 < (n : Int)) = true := decide_eq_true (by simp; omega)
  have h3 : decide ((0 : Int) ≤ ((k : Int), (0 : Int)).2) = true := decide_eq_true (by simp)
  have h4 : decide (((k : Int), (0 : Int)).2 ≤ ((R ((k : Int), (0 : Int)).1.toNat).length : Int)) = true := decide_eq_true (by simp)
  rw [h1, h2, h3, h4]; rfl
theorem BoAt.last {w X : World} {gb : Nat} {cs : Array Value} {vb lb mb S : Nat} {b : Nat → Bool} {a : Option Addr} {q c s : Nat} {T : List Nat} (h : BoAt w X gb cs vb lb mb S b a (q + 1) c (T ++ [s])) : q + 1 ≤ c ∧ ∃ g, a = some ⟨g, 0, none⟩ ∧ X.cell? ⟨g, q, none⟩ = some (.int .i64 (s : Int)) := by
  have hl := h.len
  rw [List.length_append, List.length_singleton] at hl
  rcases h.own.2 with ⟨_, h2⟩ | ⟨g, cap, cur, hv, hB, hh, hn, hm, hs, ht⟩
  · omega
  · simp only [Value.slice.injEq] at hv
    obtain ⟨rfl, _, rfl⟩ := hv
    refine ⟨hn, g, rfl, ?_⟩
    rw [cell_of_row _ _ _ _ _ _ hh]
    have h3 : (cur.toList.take ((q + 1) * 1))[q]? = some (.int .i64 (s : Int)) := by
      rw [ht, brV_snoc, List.getElem?_append_right (by rw [brV_length]; omega), brV_length, show q - T.length = 0 by omega]; rfl
    rw [List.getElem?_take, if_pos (by omega)] at h3
    simpa using h3

/-- What broughtBy tells. -/
def BrgTold (tn n S : Nat) (L : Nat → Int) (R : Nat → List Int) (I : List It) (w : World) (e : Ending) (y : World) : Prop := ∃ (mb : Nat) (b : Nat → Bool) (non : Int), e = .returned (.slice (some ⟨mb, 0, none⟩) S S) ∧ ValAt y mb S 4 (fun i => .bool (b i)) ∧ w.heap.size ≤ mb ∧ w.grownBy y none ∧ BrP tn n L R I b [] I.length non n

theorem BoAt.start {w X : World} {cs : Array Value} {mb S : Nat} (hX : PhAt w X w.heap.size cs) (hm : ValAt X mb S 4 (fun _ => .bool false)) (hlo : w.heap.size ≤ mb) : BoAt w ((X.alloc (.cells #[.slice (some ⟨mb, 0, none⟩) S S] 86)).alloc (.cells #[.slice none 0 0] 24)) w.heap.size cs X.heap.size (X.heap.size + 1) mb S (fun _ => false) none 0 0 [] := by
  have g1 : X.grownBy (X.alloc (.cells #[.slice (some ⟨mb, 0, none⟩) S S] 86)) none := World.grownBy_alloc _ _ none
  have g2 : (X.alloc (.cells #[.slice (some ⟨mb, 0, none⟩) S S] 86)).grownBy ((X.alloc (.cells #[.slice (some ⟨mb, 0, none⟩) S S] 86)).alloc (.cells #[.slice none 0 0] 24)) none := World.grownBy_alloc _ _ none
  have hs := hX.grown.size
  have e1 : (X.alloc (.cells #[.slice (some ⟨mb, 0, none⟩) S S] 86)).heap.size = X.heap.size + 1 := by simp
  refine ⟨grown_trans hX.grown (grown_trans g1 g2), box_kept (box_kept hX.box g1) g2, box_kept (heap_alloc_last X _) g2, ?_, (hm.kept g1).kept g2, World.ownsRow_nil _ _ _ _, Nat.le_refl _, hs, by omega, hlo⟩
  rw [← e1]
  exact heap_alloc_last _ _

set_option maxRecDepth 100000 in
set_option maxHeartbeats 4000000 in
theorem brought_any (ta na la pa : Option Addr) (tc nc lc pc : Nat) (n : Nat) (L : Nat → Int) (R : Nat → List Int) (ra : Nat → Option Addr) (rc : Nat → Nat) (V : Nat → Int) (st : Int) (w : World) (tn nn ln : Nat) (hP : ProdsAt w pa n L R ra rc V) (hn : n ≤ 97) (hn0 : 0 < n) (htn : tn ≤ 65) (hnn : nn ≤ 65) (hR : ∀ k, k < n → ∀ x ∈ R k, (0 : Int) ≤ x ∧ x < ((tn + nn : Nat) : Int)) (hLr : ∀ k, k < n → (0 : Int) ≤ L k ∧ L k < ((tn + nn : Nat) : Int)) (a : Option Addr) (cap : Nat) (I : List It) (hI : ItsAt w a I) (hIb : I.length ≤ 8796093072208) (hit : ∀ x ∈ I, itB n R x = true) :
    Calls Tryz.prog 83 #[.agg #[.slice ta tn tc, .slice na nn nc, .slice la ln lc, .int .i64 st, .slice pa n pc], .slice a I.length cap] w fun e y => BrgTold tn n (tn + nn) L R I w e y := by
  obtain ⟨S, hS⟩ : ∃ S, S = tn + nn := ⟨_, rfl⟩
  rw [← hS]
  have hSz : S ≤ 130 := by omega
  have HSY : Hid (∀ X, Calls Tryz.prog 73 #[.agg #[.slice ta tn tc, .slice na nn nc, .slice la ln lc, .int .i64 st, .slice pa n pc]] X fun e y => e = .returned (.int .i64 (S : Int)) ∧ X.grownBy y none) := fun X => by
    refine (symbols_any ta na la pa tc nc lc pc n st X tn nn ln (by omega) (by omega)).mono ?_
    rintro e y ⟨rfl, hg⟩
    exact ⟨by rw [hS, Int.natCast_add], hg⟩
  have HAH : Hid (∀ X x, w.grownBy X none → itB n R x = true → Calls Tryz.prog 75 #[.agg #[.slice ta tn tc, .slice na nn nc, .slice la ln lc, .int .i64 st, .slice pa n pc], .agg #[.int .i64 x.1, .int .i64 x.2]] X fun e y => e = .returned (.int .i64 (aheadV R x)) ∧ X.grownBy y none) := fun X x hX hx => ahead_any ta na la pa tc nc lc pc n L R ra rc V st X tn nn ln (prods_kept hP hX) x hx
  have HAR : Hid (∀ x, itB n R x = true → aheadV R x = -1 ∨ ((0 : Int) ≤ aheadV R x ∧ aheadV R x < (S : Int))) := fun x hx => aheadV_range (by rw [hS]; exact hR) hx
  have HIT : Hid (∀ x ∈ I, itB n R x = true) := hit
  have HIA : Hid (ItsAt w a I) := hI
  have HLP : Hid (∀ p, p < n → 0 ≤ L p) := fun p hp => (hLr p hp).1
  obtain ⟨ll, hle⟩ : ∃ m, m = I.length := ⟨_, rfl⟩
  have HLE : Hid (ll = I.length) := hle
  rw [← hle] at hIb
  rw [← hle]
  obtain ⟨bp, op, rfl, hp⟩ : ∃ bp op, pa = some ⟨bp, op, none⟩ ∧ ∀ k, k < n → w.cell? ⟨bp, op + k * 3, none⟩ = some (.int .i64 (L k)) ∧ w.cell? ⟨bp, op + k * 3 + 1, none⟩ = some (.slice (ra k) (R k).length (rc k)) ∧ w.cell? ⟨bp, op + k * 3 + 2, none⟩ = some (.int .i64 (V k)) := by
    rcases hP with h | ⟨bp, op, e, h⟩
    · omega
    · exact ⟨bp, op, e, fun k hk => ⟨(h k hk).1, (h k hk).2.1, (h k hk).2.2.1⟩⟩
  have HP : Hid (∀ k, k < n → ∀ X, w.grownBy X none → X.cell? ⟨bp, op + k * 3, none⟩ = some (.int .i64 (L k)) ∧ X.cell? ⟨bp, op + k * 3 + 1, none⟩ = some (.slice (ra k) (R k).length (rc k)) ∧ X.cell? ⟨bp, op + k * 3 + 2, none⟩ = some (.int .i64 (V k))) := fun k hk X hX => ⟨hX.cell (hp k hk).1 (by simp), hX.cell (hp k hk).2.1 (by simp), hX.cell (hp k hk).2.2 (by simp)⟩
  have HBX : Hid (∀ (X : World) gb vb lb mb (b : Nat → Bool) (a : Option Addr) (q c : Nat) (T : List Nat) (sv : Int), BoAt w X gb #[.slice ta tn tc, .slice na nn nc, .slice la ln lc, .int .i64 st, .slice (some ⟨bp, op, none⟩) n pc] vb lb mb S b a q c T → (sv = -1 ∨ ((0 : Int) ≤ sv ∧ sv < (S : Int))) → T.length + unm S b ≤ S → Calls Tryz.prog 89 #[.int .i64 sv, .pointer (some ⟨gb, 0, none⟩), .pointer (some ⟨vb, 0, none⟩), .pointer (some ⟨lb, 0, none⟩)] X fun e y => BringTold w gb #[.slice ta tn tc, .slice na nn nc, .slice la ln lc, .int .i64 st, .slice (some ⟨bp, op, none⟩) n pc] vb lb mb S tn b T sv X e y) := fun X gb vb lb mb b a q c T sv h hs hq => bring_any ta na la _ tc nc lc pc n st tn nn ln w X gb vb lb mb S b a q c T h sv hs (by have := h.len; omega)
  have HX0 : Hid (PhAt w (w.alloc (.cells #[.slice ta tn tc, .slice na nn nc, .slice la ln lc, .int .i64 st, .slice (some ⟨bp, op, none⟩) n pc] 27)) w.heap.size #[.slice ta tn tc, .slice na nn nc, .slice la ln lc, .int .i64 st, .slice (some ⟨bp, op, none⟩) n pc]) := ⟨World.grownBy_alloc _ _ none, heap_alloc_last w _⟩
  obtain ⟨i1, hi1, hy0, hy1, hy2⟩ := info_parts infoBool
  clear hP hR hLr hI hit hle hS hp
  go_enter Tryz.func83, Tryz.ntmps83
  go_wp2_with fail
  refine Calls.mono (HSY.out _) ?_
  rintro e w2 ⟨rfl, hg2⟩
  have HX2 : Hid (PhAt w w2 w.heap.size #[.slice ta tn tc, .slice na nn nc, .slice la ln lc, .int .i64 st, .slice (some ⟨bp, op, none⟩) n pc]) := HX0.out.kept hg2
  clear hg2 HX0
  go_wp2_with (at_make; refine wpList_make_full _ rfl _ _ 86 rfl w2.heap.size 4 i1 (.bool false) 1 Tryz.underlying86 hi1 hy0 hy1 .i64 .i64 _ _ S rfl rfl (by simp) (by simp) (by rw [hy2]; omega) (by unfold maxLen; omega) (by simp) ?_)
  intro w3 hown hgrow
  have hval : ValAt w3 w2.heap.size S 4 (fun _ => .bool false) := made_rowK (B := w2.heap.size) rfl (by simpa [Value.cells] using hown)
  obtain ⟨mb, hmb⟩ : ∃ mb, mb = w2.heap.size := ⟨_, rfl⟩
  rw [← hmb] at hval
  rw [← hmb]
  have hw2 := HX2.out.grown.size
  rw [← hmb] at hw2
  have hB0 := BoAt.start (HX2.out.kept hgrow) hval hw2
  have HBr0 : Hid (BrP tn n L R I (fun _ => false) [] 0 (-1) 0) := BrP.start
  have HU0 : Hid (([] : List Nat).length + unm S (fun _ => false) ≤ S) := by have := unm_le S (fun _ => false); show _ ≤ _; simp; omega
  have HB0 := show Hid _ from hB0
  clear hown hgrow hval hmb hw2 HX2 hB0
  go_wp2_with fail
  go_loopg [19] ll (fun gk v19 wr => ∃ (i q c : Nat) (a' : Option Addr) (b : Nat → Bool) (T : List Nat), i ≤ ll ∧ gk = ll - i ∧ v19 = .int .i64 i ∧ BrP tn n L R I b T i (-1) 0 ∧ T.length + unm S b ≤ S ∧ BoAt w wr w.heap.size #[.slice ta tn tc, .slice na nn nc, .slice la ln lc, .int .i64 st, .slice (some ⟨bp, op, none⟩) n pc] w3.heap.size (w3.heap.size + 1) mb S b a' q c T)
  case atStart => exact ⟨0, 0, 0, none, _, [], Nat.zero_le _, rfl, rfl, HBr0.out, HU0.out, HB0.out⟩
  case round =>
    obtain ⟨i, q, c, a', b, T, hi, hgk, rfl, hBr, hU, hB⟩ := hrel
    have HGK : Hid (gk = ll - i) := hgk
    have HBR : Hid (BrP tn n L R I b T i (-1) 0) := hBr
    have HU : Hid (T.length + unm S b ≤ S) := hU
    have HB : Hid (BoAt w wr w.heap.size #[.slice ta tn tc, .slice na nn nc, .slice la ln lc, .int .i64 st, .slice (some ⟨bp, op, none⟩) n pc] w3.heap.size (w3.heap.size + 1) mb S b a' q c T) := hB
    clear hgk hBr hU hB HB0 HU0 HBr0
    by_cases hlt : i < ll
    · have hi0' : (0 : Int) ≤ (i : Int) := by omega
      have hi1' : (i : Int) < (ll : Int) := by omega
      have hid : decide (i < ll) = true := decide_eq_true hlt
      have hiA : i < I.length := by rw [← HLE.out]; exact hlt
      obtain ⟨ib, io, rfl, hic⟩ : ∃ ib io, a = some ⟨ib, io, none⟩ ∧ ∀ i, i < I.length → w.cell? ⟨ib, io + i * 2, none⟩ = some (.int .i64 (I.getD i (0, 0)).1) ∧ w.cell? ⟨ib, io + i * 2 + 1, none⟩ = some (.int .i64 (I.getD i (0, 0)).2) := by
        rcases HIA.out with h | ⟨ib, io, e, h⟩
        · rw [h] at hiA; exact absurd hiA (by simp)
        · exact ⟨ib, io, e, h⟩
      have c0 := HB.out.grown.cell (hic i hiA).1 (by simp)
      have c1 := HB.out.grown.cell (hic i hiA).2 (by simp)
      have hxi : itB n R (I.getD i (0, 0)) = true := by
        refine HIT.out _ ?_
        rw [List.getD_eq_getElem?_getD, List.getElem?_eq_getElem hiA]; exact List.getElem_mem hiA
      have HAC : Hid (∀ X, wr.grownBy X none → Calls Tryz.prog 75 #[.agg #[.slice ta tn tc, .slice na nn nc, .slice la ln lc, .int .i64 st, .slice (some ⟨bp, op, none⟩) n pc], .agg #[.int .i64 (I.getD i (0, 0)).1, .int .i64 (I.getD i (0, 0)).2]] X fun e y => e = .returned (.int .i64 (aheadV R (I.getD i (0, 0)))) ∧ X.grownBy y none) := fun X hX => HAH.out X _ (grown_trans HB.out.grown hX) hxi
      have hrg := HAR.out _ hxi
      obtain ⟨sv, hsv⟩ : ∃ s, s = aheadV R (I.getD i (0, 0)) := ⟨_, rfl⟩
      have HNX : Hid (BrP tn n L R I (brB tn b sv) (brT tn b T sv) (i + 1) (-1) 0) := HBR.out.nextI hiA hsv
      rw [← hsv] at HAC hrg
      have HUN : Hid ((brT tn b T sv).length + unm S (brB tn b sv) ≤ S) := Nat.le_trans (br_meas hrg).1 HU.out
      have HBC : Hid (∀ X, wr.grownBy X none → Calls Tryz.prog 89 #[.int .i64 sv, .pointer (some ⟨w.heap.size, 0, none⟩), .pointer (some ⟨w3.heap.size, 0, none⟩), .pointer (some ⟨w3.heap.size + 1, 0, none⟩)] X fun e y => BringTold w w.heap.size #[.slice ta tn tc, .slice na nn nc, .slice la ln lc, .int .i64 st, .slice (some ⟨bp, op, none⟩) n pc] w3.heap.size (w3.heap.size + 1) mb S tn b T sv X e y) := fun X hX => HBX.out X _ _ _ _ b a' q c T sv (HB.out.kept hX) hrg HU.out
      obtain ⟨x, hx⟩ : ∃ x, x = I.getD i (0, 0) := ⟨_, rfl⟩
      rw [← hx] at HAC c0 c1
      clear hsv hx hxi hic hrg hiA
      obtain ⟨p, d⟩ := x
      simp only at HAC c0 c1
      have HUP : Hid (wr.grownBy (wr.alloc (.cells #[.int .i64 p, .int .i64 d] 68)) none) := World.grownBy_alloc _ _ none
      obtain ⟨k0, k1, k2, k3, k4⟩ := (⟨(HB.out.kept HUP.out).grown, (HB.out.kept HUP.out).box⟩ : PhAt w _ w.heap.size #[.slice ta tn tc, .slice na nn nc, .slice la ln lc, .int .i64 st, .slice (some ⟨bp, op, none⟩) n pc]).cells
      go_wp2_with fail
      refine Calls.mono (HAC.out _ HUP.out) ?_
      rintro e w4 ⟨rfl, hg4⟩
      have HG4 : Hid (wr.grownBy w4 none) := grown_trans HUP.out hg4
      clear hg4 k0 k1 k2 k3 k4
      go_wp2_with fail
      refine Calls.mono (HBC.out w4 HG4.out) ?_
      rintro e w5 ⟨rfl, hk5, a5, q5, c5, hb5⟩
      have HB5 := show Hid _ from hb5
      clear hk5 hb5
      go_wp2_with fail
      go_roundg (ll - (i + 1))
      case measure => have := HGK.out; omega
      case rel => exact ⟨i + 1, q5, c5, a5, _, _, by omega, rfl, by go_num, HNX.out, HUN.out, HB5.out⟩
    · have hin : ll = i := by omega
      subst hin
      have hid : decide (ll < ll) = false := decide_eq_false (by omega)
      have HBE : Hid (BrP tn n L R I b T ll (-1) n) := HBR.out.rest HLP.out
      generalize wr = X0 at *
      go_wp2_with fail
      go_loopg [] (T.length + unm S b * 2) (fun gk wr => ∃ (q c : Nat) (a' : Option Addr) (b : Nat → Bool) (T : List Nat) (non : Int), gk = T.length + unm S b * 2 ∧ BrP tn n L R I b T ll non n ∧ T.length + unm S b ≤ S ∧ BoAt w wr w.heap.size #[.slice ta tn tc, .slice na nn nc, .slice la ln lc, .int .i64 st, .slice (some ⟨bp, op, none⟩) n pc] w3.heap.size (w3.heap.size + 1) mb S b a' q c T)
      case atStart => exact ⟨q, c, a', b, T, -1, rfl, HBE.out, HU.out, HB.out⟩
      case round =>
        clear HBE HU HB HBR HGK
        obtain ⟨q, c, a', b, T, non, hgk, hBr, hU, hB⟩ := hrel
        have HGK : Hid (gk = T.length + unm S b * 2) := hgk
        have HBR : Hid (BrP tn n L R I b T ll non n) := hBr
        have HU : Hid (T.length + unm S b ≤ S) := hU
        have HB : Hid (BoAt w wr w.heap.size #[.slice ta tn tc, .slice na nn nc, .slice la ln lc, .int .i64 st, .slice (some ⟨bp, op, none⟩) n pc] w3.heap.size (w3.heap.size + 1) mb S b a' q c T) := hB
        have l0 : wr.cell? ⟨w3.heap.size + 1, 0, none⟩ = some (.slice a' q c) := by rw [cell_of_row _ _ _ _ _ _ hB.lbox]; rfl
        have v0 : wr.cell? ⟨w3.heap.size, 0, none⟩ = some (.slice (some ⟨mb, 0, none⟩) S S) := by rw [cell_of_row _ _ _ _ _ _ hB.vbox]; rfl
        have hq := hB.len
        clear hgk hBr hU hB
        rcases List.eq_nil_or_concat T with rfl | ⟨T1, s, hT⟩
        · have hq0 : q = 0 := by simpa using hq
          subst hq0
          clear hq
          go_wp2_with fail
          go_ret
          exact ⟨mb, b, non, rfl, HB.out.mark, HB.out.lo.2.2.2, HB.out.grown, by rw [← HLE.out]; exact HBR.out⟩
        · rw [List.concat_eq_append] at hT
          subst hT
          rw [List.length_append, List.length_singleton] at hq
          obtain ⟨t, rfl⟩ : ∃ t, q = t + 1 := ⟨q - 1, by omega⟩
          have htb : t ≤ 130 := by have := HU.out; rw [List.length_append, List.length_singleton] at this; omega
          obtain ⟨hcap, g, rfl, s0⟩ := HB.out.last
          have HP0 := show Hid _ from HBR.out.pop
          have hbs : b s = true := HBR.out.tin s (List.mem_append_right _ (List.mem_singleton.2 rfl))
          have HBS : Hid (b s = true) := hbs
          have HU1 : Hid (T1.length + unm S b ≤ S) := by have := HU.out; rw [List.length_append] at this; show _ ≤ _; omega
          have HGK1 : Hid (gk = T1.length + 1 + unm S b * 2) := by have := HGK.out; rw [List.length_append, List.length_singleton] at this; exact this
          have hB1 := HB.out.pop.1
          obtain ⟨X1, hX1⟩ : ∃ X1, X1 = wr.setCell ⟨w3.heap.size + 1, 0, none⟩ (.slice (some ⟨g, 0, none⟩) t c) := ⟨_, rfl⟩
          rw [← hX1] at hB1
          have HB1 := show Hid _ from hB1
          obtain ⟨k0, k1, k2, k3, k4⟩ := (⟨hB1.grown, hB1.box⟩ : PhAt w _ w.heap.size #[.slice ta tn tc, .slice na nn nc, .slice la ln lc, .int .i64 st, .slice (some ⟨bp, op, none⟩) n pc]).cells
          rw [hX1] at k0 k1 k2 k3 k4
          have HX1 : Hid (X1 = wr.setCell ⟨w3.heap.size + 1, 0, none⟩ (.slice (some ⟨g, 0, none⟩) t c)) := hX1
          have l1 : wr.frozen? ⟨w3.heap.size + 1, 0, none⟩ = false := frozen_of_row _ _ _ _ _ HB.out.lbox
          have ht0 : (0 : Int) ≤ (t : Int) := by omega
          have ht1 : (t : Int) < (t : Int) + 1 := by omega
          have ht2 : (t : Int) < ((t + 1 : Nat) : Int) := by omega
          have ht3 : (t : Int) ≤ (c : Int) := by omega
          have hw1 : IntKind.i64.wrap ((t : Int) + 1 - 1) = (t : Int) := by rw [IntKind.wrap_i64]; omega
          have hw2 : IntKind.i64.wrap (t : Int) = (t : Int) := by rw [IntKind.wrap_i64]; omega
          have hw3 : (t : Int) + 1 - 1 = (t : Int) := by omega
          clear hX1 hB1 hq HBR HU HGK hbs HB
          go_wp2_with fail
          rw [← HX1.out]
          go_loopg [46] n (fun gk v46 wr => ∃ (k q c : Nat) (a' : Option Addr) (b' : Nat → Bool) (T : List Nat), k ≤ n ∧ gk = n - k ∧ v46 = .int .i64 k ∧ BrP tn n L R I b' T ll (s : Int) k ∧ b' s = true ∧ T.length + unm S b' ≤ S ∧ T.length + unm S b' * 2 ≤ T1.length + unm S b * 2 ∧ BoAt w wr w.heap.size #[.slice ta tn tc, .slice na nn nc, .slice la ln lc, .int .i64 st, .slice (some ⟨bp, op, none⟩) n pc] w3.heap.size (w3.heap.size + 1) mb S b' a' q c T)
          case atStart => exact ⟨0, t, c, _, b, T1, Nat.zero_le _, rfl, rfl, HP0.out, HBS.out, HU1.out, Nat.le_refl _, HB1.out⟩
          case round =>
            obtain ⟨k, q2, c2, a2, b2, T2, hk, hgk, rfl, hBr, hbs, hU, hM, hB⟩ := hrel
            have HGP : Hid (gk = n - k) := hgk
            have HBR2 : Hid (BrP tn n L R I b2 T2 ll (s : Int) k) := hBr
            have HBS2 : Hid (b2 s = true) := hbs
            have HU2 : Hid (T2.length + unm S b2 ≤ S) := hU
            have HM2 : Hid (T2.length + unm S b2 * 2 ≤ T1.length + unm S b * 2) := hM
            have HB2 : Hid (BoAt w wr w.heap.size #[.slice ta tn tc, .slice na nn nc, .slice la ln lc, .int .i64 st, .slice (some ⟨bp, op, none⟩) n pc] w3.heap.size (w3.heap.size + 1) mb S b2 a2 q2 c2 T2) := hB
            clear hgk hBr hbs hU hM hB HB1 HP0
            by_cases hkn : k < n
            · have hk0 : (0 : Int) ≤ (k : Int) := by omega
              have hk1 : (k : Int) < (n : Int) := by omega
              have hkd : decide (k < n) = true := decide_eq_true hkn
              obtain ⟨p0, p1, p2⟩ := HP.out k hkn wr HB2.out.grown
              have HAC : Hid (∀ X, wr.grownBy X none → Calls Tryz.prog 75 #[.agg #[.slice ta tn tc, .slice na nn nc, .slice la ln lc, .int .i64 st, .slice (some ⟨bp, op, none⟩) n pc], .agg #[.int .i64 (k : Int), .int .i64 0]] X fun e y => e = .returned (.int .i64 (aheadV R ((k : Int), 0))) ∧ X.grownBy y none) := fun X hX => HAH.out X ((k : Int), 0) (grown_trans HB2.out.grown hX) (itB_begun hkn)
              have hrg := HAR.out _ (itB_begun (R := R) hkn)
              obtain ⟨sv, hsv⟩ : ∃ s, s = aheadV R ((k : Int), 0) := ⟨_, rfl⟩
              have HNX : Hid (L k = (s : Int) → BrP tn n L R I (brB tn b2 sv) (brT tn b2 T2 sv) ll (s : Int) (k + 1)) := fun h => HBR2.out.nextP hkn h HBS2.out hsv
              have HSK : Hid (L k ≠ (s : Int) → BrP tn n L R I b2 T2 ll (s : Int) (k + 1)) := fun h => HBR2.out.skipP fun h2 => absurd h2 h
              rw [← hsv] at HAC hrg
              have HUN : Hid ((brT tn b2 T2 sv).length + unm S (brB tn b2 sv) ≤ S) := Nat.le_trans (br_meas hrg).1 HU2.out
              have HMN : Hid ((brT tn b2 T2 sv).length + unm S (brB tn b2 sv) * 2 ≤ T1.length + unm S b * 2) := Nat.le_trans (br_meas hrg).2 HM2.out
              have HBC : Hid (∀ X, wr.grownBy X none → Calls Tryz.prog 89 #[.int .i64 sv, .pointer (some ⟨w.heap.size, 0, none⟩), .pointer (some ⟨w3.heap.size, 0, none⟩), .pointer (some ⟨w3.heap.size + 1, 0, none⟩)] X fun e y => BringTold w w.heap.size #[.slice ta tn tc, .slice na nn nc, .slice la ln lc, .int .i64 st, .slice (some ⟨bp, op, none⟩) n pc] w3.heap.size (w3.heap.size + 1) mb S tn b2 T2 sv X e y) := fun X hX => HBX.out X _ _ _ _ b2 a2 q2 c2 T2 sv (HB2.out.kept hX) hrg HU2.out
              obtain ⟨lk, hlk⟩ : ∃ l, l = L k := ⟨_, rfl⟩
              rw [← hlk] at p0 HNX HSK
              obtain ⟨rl, hrl⟩ : ∃ l, l = (R k).length := ⟨_, rfl⟩
              rw [← hrl] at p1
              obtain ⟨rak, hrak⟩ : ∃ l, l = ra k := ⟨_, rfl⟩
              rw [← hrak] at p1
              obtain ⟨rck, hrck⟩ : ∃ l, l = rc k := ⟨_, rfl⟩
              rw [← hrck] at p1
              obtain ⟨vk, hvk⟩ : ∃ l, l = V k := ⟨_, rfl⟩
              rw [← hvk] at p2
              clear hlk hrl hrak hrck hvk hsv hrg
              have HUP : Hid (wr.grownBy (wr.alloc (.cells #[.int .i64 lk, .slice rak rl rck, .int .i64 vk] 46)) none) := World.grownBy_alloc _ _ none
              obtain ⟨k0, k1, k2, k3, k4⟩ := (⟨(HB2.out.kept HUP.out).grown, (HB2.out.kept HUP.out).box⟩ : PhAt w _ w.heap.size #[.slice ta tn tc, .slice na nn nc, .slice la ln lc, .int .i64 st, .slice (some ⟨bp, op, none⟩) n pc]).cells
              obtain ⟨bb, hbb⟩ : ∃ x : Bool, x = (lk == (s : Int)) := ⟨_, rfl⟩
              have hb1 : (lk == (s : Int)) = bb := hbb.symm
              clear hbb
              cases bb with
              | false =>
                have HS2 := show Hid _ from HSK.out (by simpa using hb1)
                go_wp2_with fail
                go_roundg (n - (k + 1))
                case measure => have := HGP.out; omega
                case rel => exact ⟨k + 1, q2, c2, a2, b2, T2, by omega, rfl, by go_num, HS2.out, HBS2.out, HU2.out, HM2.out, HB2.out.kept HUP.out⟩
              | true =>
                have HS2 := show Hid _ from HNX.out (by simpa using hb1)
                go_wp2_with fail
                refine Calls.mono (HAC.out _ HUP.out) ?_
                rintro e w4 ⟨rfl, hg4⟩
                have HG4 : Hid (wr.grownBy w4 none) := grown_trans HUP.out hg4
                clear hg4 k0 k1 k2 k3 k4
                go_wp2_with fail
                refine Calls.mono (HBC.out w4 HG4.out) ?_
                rintro e w5 ⟨rfl, hk5, a5, q5, c5, hb5⟩
                have HB5 := show Hid _ from hb5
                clear hk5 hb5
                go_wp2_with fail
                go_roundg (n - (k + 1))
                case measure => have := HGP.out; omega
                case rel => exact ⟨k + 1, q5, c5, a5, _, _, by omega, rfl, by go_num, HS2.out, brB_mono HBS2.out, HUN.out, HMN.out, HB5.out⟩
            · have hkn2 : n = k := by omega
              subst hkn2
              have hkd : decide (n < n) = false := decide_eq_false (by omega)
              go_wp2_with fail
              go_roundg (T2.length + unm S b2 * 2)
              case measure => have h1 := HGK1.out; have h2 := HM2.out; omega
              case rel => exact ⟨q2, c2, a2, b2, T2, (s : Int), rfl, HBR2.out, HU2.out, HB2.out⟩

end Go.Proofs.YtckgjolaoifgkaaGreat.J

/-
  lr0: closure.
-/
namespace Go.Proofs.YtckgjolaoifgkaaGreat.J
open Go.RowKit Go.Maps Go.Shelf

attribute [local go_sem] Oper.semAt_some

/-- How many of G from m on have this production. -/
theorem run_of (G : List It) (k : Int) (m : Nat) (hm : m ≤ G.length) : ∃ q, m + q ≤ G.length ∧ (∀ j, m ≤ j → j < m + q → (G.getD j (0, 0)).1 = k) ∧ (m + q < G.length → (G.getD (m + q) (0, 0)).1 ≠ k) := by
  obtain ⟨d, hd⟩ : ∃ d, d = G.length - m := ⟨_, rfl⟩
  induction d generalizing m with
  | zero => exact ⟨0, by omega, fun j h1 h2 => by omega, fun h => by omega⟩
  | succ d ih =>
    by_cases e : (G.getD m (0, 0)).1 = k
    · obtain ⟨q, h1, h2, h3⟩ := ih (m + 1) (by omega) (by omega)
      refine ⟨q + 1, by omega, fun j h4 h5 => ?_, fun h => ?_⟩
      · by_cases e2 : j = m
        · rw [e2]; exact e
        · exact h2 j (by omega) (by omega)
      · rw [show m + (q + 1) = m + 1 + q by omega]; exact h3 (by omega)
    · exact ⟨0, by omega, fun j h1 h2 => by omega, fun _ => e⟩

/-- While a closure is laid. -/
structure MgAt (w X : World) (B : Nat) (cs : Array Value) (mb S : Nat) (b : Nat → Bool) (ga : Option Addr) (gc : Nat) (G : List It) (a : Option Addr) (q c : Nat) (A : List It) : Prop where
  grown : w.grownBy X none
  box : X.heap[w.heap.size]? = some (.cells cs 27 (0, 0))
  mark : ValAt X mb S 4 (fun i => .bool (b i))
  giv : X.ownsRow w.heap.size 68 2 (.slice ga G.length gc) G.length (itsV G)
  glt : ∀ g, (Value.slice ga G.length gc).ownBlock = some g → g < B
  own : X.ownsRow B 68 2 (.slice a q c) q (itsV A)
  lo : w.heap.size ≤ B ∧ B ≤ X.heap.size
section
variable {w X Y : World} {B : Nat} {cs : Array Value} {mb S : Nat} {b : Nat → Bool} {ga : Option Addr} {gc : Nat} {G : List It} {a : Option Addr} {q c : Nat} {A : List It}
theorem MgAt.kept (h : MgAt w X B cs mb S b ga gc G a q c A) (hg : X.grownBy Y none) : MgAt w Y B cs mb S b ga gc G a q c A := ⟨grown_trans h.grown hg, box_kept h.box hg, h.mark.kept hg, keep0 h.giv hg, h.glt, keep0 h.own hg, h.lo.1, Nat.le_trans h.lo.2 hg.size⟩
theorem MgAt.ph (h : MgAt w X B cs mb S b ga gc G a q c A) : PhAt w X w.heap.size cs := ⟨h.grown, h.box⟩
theorem MgAt.more {v' : Value} {m : Nat} {A' : List It} (h : MgAt w X B cs mb S b ga gc G a q c A) (hg : X.grownBy Y (Value.slice a q c).ownBlock) (ho : Y.ownsRow B 68 2 v' m (itsV A')) : ∃ a' c', v' = .slice a' m c' ∧ MgAt w Y B cs mb S b ga gc G a' m c' A' := by
  obtain ⟨a', c', rfl⟩ := owns_slice ho
  refine ⟨a', c', rfl, grown_row h.grown h.own h.lo.1 hg, br_row h.box h.own (by decide) hg, br_row h.mark h.own (by decide) hg, h.giv.kept hg ?_, h.glt, ho, h.lo.1, Nat.le_trans h.lo.2 hg.size⟩
  cases hb : (Value.slice ga G.length gc).ownBlock with
  | none => exact .inl rfl
  | some g =>
    right
    intro e
    have h1 := h.glt g hb
    rcases h.own.2 with ⟨h2, _⟩ | ⟨g2, cap, cur, hv, hB, _⟩
    · rw [h2] at e; cases e
    · rw [hv] at e
      have : g = g2 := by simpa [Value.ownBlock] using e
      omega
theorem MgAt.cell (h : MgAt w X B cs mb S b ga gc G a q c A) {j : Nat} (hj : j < G.length) : ∃ g, ga = some ⟨g, 0, none⟩ ∧ X.cell? ⟨g, j * 2, none⟩ = some (.int .i64 (G.getD j (0, 0)).1) ∧ X.cell? ⟨g, j * 2 + 1, none⟩ = some (.int .i64 (G.getD j (0, 0)).2) := by
  rcases h.giv.2 with ⟨_, h'⟩ | ⟨g, cap, cur, hv, hB, hh, _, _, hs, ht⟩
  · omega
  · simp only [Value.slice.injEq] at hv
    refine ⟨g, hv.1, ?_⟩
    obtain ⟨h3, h4⟩ := itsV_at G j hj
    rw [← ht, List.getElem?_take, if_pos (by omega)] at h3 h4
    rw [cell_of_row _ _ _ _ _ _ hh, cell_of_row _ _ _ _ _ _ hh]
    exact ⟨by simpa using h3, by simpa using h4⟩
/-- What of the given ones is left, from m on. -/
theorem MgAt.left (h : MgAt w X B cs mb S b ga gc G a q c A) {m p : Nat} {va : Option Addr} (hm : m + p ≤ G.length) (hva : p = 0 ∨ ∃ g, ga = some ⟨g, 0, none⟩ ∧ va = some ⟨g, m * 2, none⟩) : ∀ ad, va = some ad → ∀ j u, (itsV ((G.drop m).take p))[j]? = some u → X.cell? (ad.add j) = some u := by
  intro ad e j u hu
  have hj := (List.getElem?_eq_some_iff.1 hu).1
  rw [itsV_length, List.length_take, List.length_drop, Nat.min_eq_left (by omega)] at hj
  rcases hva with h0 | ⟨g, e1, e2⟩
  · omega
  · have e3 : ad = ⟨g, m * 2, none⟩ := by rw [e2] at e; simpa using e.symm
    subst e3
    rw [Addr.add_mid]
    have hl : j / 2 < ((G.drop m).take p).length := by rw [List.length_take, List.length_drop, Nat.min_eq_left (by omega)]; omega
    have h2 := itsV_at ((G.drop m).take p) (j / 2) hl
    have hgd : ((G.drop m).take p).getD (j / 2) (0, 0) = G.getD (m + j / 2) (0, 0) := by
      rw [List.getD_eq_getElem?_getD, List.getElem?_take, if_pos (by omega), List.getElem?_drop, ← List.getD_eq_getElem?_getD]
    rw [hgd] at h2
    obtain ⟨g', e4, h3, h4⟩ := h.cell (j := m + j / 2) (by omega)
    rw [e1] at e4
    have e5 : g' = g := by simpa using e4.symm
    subst e5
    have hmm : j % 2 = 0 ∨ j % 2 = 1 := by omega
    rcases hmm with hmm | hmm
    · have e : j = j / 2 * 2 := by omega
      rw [← e] at h2
      rw [show m * 2 + j = (m + j / 2) * 2 by omega, h3, ← hu, h2.1]
    · have e : j = j / 2 * 2 + 1 := by omega
      rw [← e] at h2
      rw [show m * 2 + j = (m + j / 2) * 2 + 1 by omega, h4, ← hu, h2.2]
end

set_option maxRecDepth 100000 in
set_option maxHeartbeats 4000000 in
theorem closure_any (ta na la pa : Option Addr) (tc nc lc pc : Nat) (n : Nat) (L : Nat → Int) (R : Nat → List Int) (ra : Nat → Option Addr) (rc : Nat → Nat) (V : Nat → Int) (st : Int) (w : World) (tn nn ln : Nat) (hP : ProdsAt w pa n L R ra rc V) (hn : n ≤ 97) (hn0 : 0 < n) (htn : tn ≤ 65) (hnn : nn ≤ 65) (hR : ∀ k, k < n → ∀ x ∈ R k, (0 : Int) ≤ x ∧ x < ((tn + nn : Nat) : Int)) (hLr : ∀ k, k < n → (0 : Int) ≤ L k ∧ L k < ((tn + nn : Nat) : Int)) (a : Option Addr) (cap : Nat) (I : List It) (hI : ItsAt w a I) (hnil : a = none → I.length = 0 ∧ cap = 0) (hIb : I.length ≤ 8796093072208) (hit : ∀ x ∈ I, itB n R x = true) :
    Calls Tryz.prog 74 #[.agg #[.slice ta tn tc, .slice na nn nc, .slice la ln lc, .int .i64 st, .slice pa n pc], .slice a I.length cap] w fun e y => CloTold tn n L R I w e y := by
  obtain ⟨S, hS⟩ : ∃ S, S = tn + nn := ⟨_, rfl⟩
  have hSz : S ≤ 130 := by omega
  have HBG : Hid (∀ X a cap (G : List It), w.grownBy X none → ItsAt X a G → G.length ≤ 8796093072208 → (∀ x ∈ G, itB n R x = true) → Calls Tryz.prog 83 #[.agg #[.slice ta tn tc, .slice na nn nc, .slice la ln lc, .int .i64 st, .slice pa n pc], .slice a G.length cap] X fun e y => BrgTold tn n S L R G X e y) := fun X a cap G hX h1 h2 h3 => by
    rw [hS]
    exact brought_any ta na la pa tc nc lc pc n L R ra rc V st X tn nn ln (prods_kept hP hX) hn hn0 htn hnn hR hLr a cap G h1 h2 h3
  have HIT : Hid (∀ x ∈ I, itB n R x = true) := hit
  have HIA : Hid (ItsAt w a I) := hI
  have HLP : Hid (∀ p, p < n → 0 ≤ L p ∧ L p < (S : Int)) := fun p hp => by rw [hS]; exact hLr p hp
  obtain ⟨ll, hle⟩ : ∃ m, m = I.length := ⟨_, rfl⟩
  have HLE : Hid (ll = I.length) := hle
  rw [← hle] at hnil hIb
  rw [← hle]
  obtain ⟨bp, op, rfl, hp⟩ : ∃ bp op, pa = some ⟨bp, op, none⟩ ∧ ∀ k, k < n → w.cell? ⟨bp, op + k * 3, none⟩ = some (.int .i64 (L k)) ∧ w.cell? ⟨bp, op + k * 3 + 1, none⟩ = some (.slice (ra k) (R k).length (rc k)) ∧ w.cell? ⟨bp, op + k * 3 + 2, none⟩ = some (.int .i64 (V k)) := by
    rcases hP with h | ⟨bp, op, e, h⟩
    · omega
    · exact ⟨bp, op, e, fun k hk => ⟨(h k hk).1, (h k hk).2.1, (h k hk).2.2.1⟩⟩
  have HP : Hid (∀ k, k < n → ∀ X, w.grownBy X none → X.cell? ⟨bp, op + k * 3, none⟩ = some (.int .i64 (L k)) ∧ X.cell? ⟨bp, op + k * 3 + 1, none⟩ = some (.slice (ra k) (R k).length (rc k)) ∧ X.cell? ⟨bp, op + k * 3 + 2, none⟩ = some (.int .i64 (V k))) := fun k hk X hX => ⟨hX.cell (hp k hk).1 (by simp), hX.cell (hp k hk).2.1 (by simp), hX.cell (hp k hk).2.2 (by simp)⟩
  have HNIL : Hid (a = none → ll = 0 ∧ cap = 0) := hnil
  have HX0 : Hid (PhAt w (w.alloc (.cells #[.slice ta tn tc, .slice na nn nc, .slice la ln lc, .int .i64 st, .slice (some ⟨bp, op, none⟩) n pc] 27)) w.heap.size #[.slice ta tn tc, .slice na nn nc, .slice la ln lc, .int .i64 st, .slice (some ⟨bp, op, none⟩) n pc]) := ⟨World.grownBy_alloc _ _ none, heap_alloc_last w _⟩
  have HSRC : Hid (∀ ad, a = some ad → ∀ j u, (itsV I)[j]? = some u → (w.alloc (.cells #[.slice ta tn tc, .slice na nn nc, .slice la ln lc, .int .i64 st, .slice (some ⟨bp, op, none⟩) n pc] 27)).cell? (ad.add j) = some u) := fun ad e j u hu => its_cells (HIA.out.kept HX0.out.grown) ad e j u hu
  have HBS : Hid (w.heap.size ≤ (w.alloc (.cells #[.slice ta tn tc, .slice na nn nc, .slice la ln lc, .int .i64 st, .slice (some ⟨bp, op, none⟩) n pc] 27)).heap.size) := by show _ ≤ _; simp
  obtain ⟨i0, hi0, hz0, hz1, hz2⟩ := info_parts infoItem
  clear hP hR hLr hI hit hle hS hnil hp
  go_enter Tryz.func74, Tryz.ntmps74
  go_wp2_with (at_builtin; refine wpList_append_srcW rfl _ (.tmp 11) 69 rfl w.heap.size 68 i0 (.agg #[.int .i64 0, .int .i64 0]) 2 16 Tryz.underlying69 hi0 hz0 hz1 hz2 rfl (by decide) (.slice none 0 0) 0 [] rfl (World.ownsRow_nil _ _ _ _) a ll cap (itsV I) rfl HNIL.out (by rw [itsV_length, HLE.out]) HSRC.out (itsV_one I) (by unfold maxLen; omega) (by omega) HBS.out ?_; intro v5 w1 hoB hgB; rw [Nat.zero_add, List.nil_append] at hoB; have HO1 : Hid (w1.ownsRow w.heap.size 68 2 v5 ll (itsV I)) := hoB; have HX1 : Hid (PhAt w w1 w.heap.size #[.slice ta tn tc, .slice na nn nc, .slice la ln lc, .int .i64 st, .slice (some ⟨bp, op, none⟩) n pc]) := HX0.out.kept hgB; obtain ⟨a5, c5, rfl⟩ := owns_slice hoB; clear hoB hgB)
  have HSO : Hid (Calls Tryz.prog 81 #[.slice a5 ll c5, .func (.func 82) #[] #[]] w1 fun e y => SortTold w.heap.size a5 c5 I w1 e y) := by
    have ho := HO1.out
    rw [HLE.out] at ho ⊢
    exact sort_any w1 w.heap.size a5 c5 I ho (by rw [← HLE.out]; omega)
  clear HX0 HSRC HBS HNIL HIA
  refine Calls.mono HSO.out ?_
  rintro e w2 ⟨rfl, G, hp, hs, ho2, hg2⟩
  have HPM : Hid (G.Perm I) := hp
  have HSR : Hid (Srt G) := hs
  have hGl : ll = G.length := by rw [hp.length_eq]; exact HLE.out
  have HGL : Hid (ll = G.length) := hGl
  have HO2 : Hid (w2.ownsRow w.heap.size 68 2 (.slice a5 G.length c5) G.length (itsV G)) := by rw [← hGl, HLE.out]; exact ho2
  have HX2 : Hid (PhAt w w2 w.heap.size #[.slice ta tn tc, .slice na nn nc, .slice la ln lc, .int .i64 st, .slice (some ⟨bp, op, none⟩) n pc]) := by
    have ho := HO1.out
    rw [HLE.out] at ho
    exact ⟨grown_row HX1.out.grown ho (Nat.le_refl _) hg2, br_row HX1.out.box ho (by decide) hg2⟩
  have HGI : Hid (∀ x ∈ G, itB n R x = true) := fun x hx => HIT.out x (HPM.out.mem_iff.1 hx)
  have HBC : Hid (∀ X, w2.grownBy X none → Calls Tryz.prog 83 #[.agg #[.slice ta tn tc, .slice na nn nc, .slice la ln lc, .int .i64 st, .slice (some ⟨bp, op, none⟩) n pc], .slice a5 ll c5] X fun e y => BrgTold tn n S L R G X e y) := fun X hX => by
    rw [HGL.out]
    exact HBG.out X a5 c5 G (grown_trans HX2.out.grown hX) (ItsAt.of (keep0 HO2.out hX)) (by rw [← HGL.out]; exact hIb) HGI.out
  clear hp hs ho2 hg2 hGl HSO HX1 HO1 HBG
  obtain ⟨k0, k1, k2, k3, k4⟩ := HX2.out.cells
  go_wp2_with fail
  refine Calls.mono (HBC.out _ (grown_refl _ _)) ?_
  rintro e w3 ⟨mb, b, non, rfl, hm3, hlo3, hg3, hbr3⟩
  have HBR : Hid (BrP tn n L R G b [] G.length non n) := hbr3
  have HM3 : Hid (MgAt w w3 w3.heap.size #[.slice ta tn tc, .slice na nn nc, .slice la ln lc, .int .i64 st, .slice (some ⟨bp, op, none⟩) n pc] mb S b a5 c5 G none 0 0 []) := ⟨grown_trans HX2.out.grown hg3, box_kept HX2.out.box hg3, hm3, keep0 HO2.out hg3, fun g hb => ((keep0 HO2.out hg3).lt g hb).2, World.ownsRow_nil _ _ _ _, Nat.le_trans HX2.out.grown.size hg3.size, Nat.le_refl _⟩
  have HGV : Hid ((0 = ll ∨ ∃ g, a5 = some ⟨g, 0, none⟩ ∧ a5 = some ⟨g, 0 * 2, none⟩) ∧ (a5 = none → ll = 0 ∧ c5 = 0) ∧ ll ≤ c5) := by
    rcases HO2.out.2 with ⟨h1, h2⟩ | ⟨g, cap, cur, hv, hB, hh, hn, _⟩
    · simp only [Value.slice.injEq] at h1
      rw [HGL.out]
      exact ⟨.inl h2.symm, fun _ => ⟨h2, h1.2.2⟩, by omega⟩
    · simp only [Value.slice.injEq] at hv
      obtain ⟨rfl, _, rfl⟩ := hv
      rw [HGL.out]
      exact ⟨.inr ⟨g, rfl, by rw [Nat.zero_mul]⟩, (fun h => by cases h), hn⟩
  have HMG0 : Hid (MgP G L b 0 0 []) := MgP.start fun x hx => by
    have := HGI.out x hx
    unfold itB at this
    simp only [Bool.and_eq_true, decide_eq_true_eq] at this
    exact this.1.1.1
  have HG0 : Hid (∀ x ∈ G, (0 : Int) ≤ x.2) := fun x hx => by
    have := HGI.out x hx
    unfold itB at this
    simp only [Bool.and_eq_true, decide_eq_true_eq] at this
    exact this.1.2
  obtain ⟨B, hB⟩ : ∃ B, B = w3.heap.size := ⟨_, rfl⟩
  rw [← hB] at HM3
  clear hB hm3 hlo3 hg3 hbr3 HX2 HO2 HBC k0 k1 k2 k3 k4
  obtain ⟨k0, k1, k2, k3, k4⟩ := HM3.out.ph.cells
  go_wp2_with fail
  clear k0 k1 k2 k3 k4
  go_loopg [5, 7, 21] n (fun gk v5 v7 v21 wr => ∃ (k m r q c gv : Nat) (va a' : Option Addr) (A : List It), k ≤ n ∧ gk = n - k ∧ v5 = .slice va r gv ∧ v7 = .slice a' q c ∧ v21 = .int .i64 k ∧ m + r = ll ∧ (m = ll ∨ ∃ g, a5 = some ⟨g, 0, none⟩ ∧ va = some ⟨g, m * 2, none⟩) ∧ (va = none → r = 0 ∧ gv = 0) ∧ r ≤ gv ∧ q ≤ m + k ∧ MgP G L b k m A ∧ MgAt w wr B #[.slice ta tn tc, .slice na nn nc, .slice la ln lc, .int .i64 st, .slice (some ⟨bp, op, none⟩) n pc] mb S b a5 c5 G a' q c A)
  case atStart => exact ⟨0, 0, ll, 0, 0, c5, a5, none, [], Nat.zero_le _, rfl, rfl, rfl, rfl, Nat.zero_add _, HGV.out.1, HGV.out.2.1, HGV.out.2.2, Nat.le_refl _, HMG0.out, HM3.out⟩
  case round =>
    obtain ⟨k, m, r, q, c, gv, va, a', A, hk, hgk, rfl, rfl, rfl, hmr, hva, hnl, hrg, hqb, hMG, hM⟩ := hrel
    have HGK : Hid (gk = n - k) := hgk
    have HMG : Hid (MgP G L b k m A) := hMG
    have HM : Hid (MgAt w wr B #[.slice ta tn tc, .slice na nn nc, .slice la ln lc, .int .i64 st, .slice (some ⟨bp, op, none⟩) n pc] mb S b a5 c5 G a' q c A) := hM
    have HMR : Hid (m + r = ll) := hmr
    have HVA : Hid (m = ll ∨ ∃ g, a5 = some ⟨g, 0, none⟩ ∧ va = some ⟨g, m * 2, none⟩) := hva
    have HNL : Hid (va = none → r = 0 ∧ gv = 0) := hnl
    have hmb : m ≤ 8796093072208 := by omega
    clear hgk hMG hM hmr hva hnl HM3 HGV HMG0
    by_cases hlt : k < n
    · have hk0 : (0 : Int) ≤ (k : Int) := by omega
      have hk1 : (k : Int) < (n : Int) := by omega
      have hkd : decide (k < n) = true := decide_eq_true hlt
      obtain ⟨p0, p1, p2⟩ := HP.out k hlt wr HM.out.grown
      obtain ⟨hl0, hl1⟩ := HLP.out k hlt
      obtain ⟨lk, hlk⟩ : ∃ l : Nat, (l : Int) = L k := ⟨(L k).toNat, by omega⟩
      have HLK : Hid ((lk : Int) = L k) := hlk
      rw [← hlk] at p0 hl0 hl1
      obtain ⟨rl, hrl⟩ : ∃ l, l = (R k).length := ⟨_, rfl⟩
      rw [← hrl] at p1
      obtain ⟨rak, hrak⟩ : ∃ l, l = ra k := ⟨_, rfl⟩
      rw [← hrak] at p1
      obtain ⟨rck, hrck⟩ : ∃ l, l = rc k := ⟨_, rfl⟩
      rw [← hrck] at p1
      obtain ⟨vk, hvk⟩ : ∃ l, l = V k := ⟨_, rfl⟩
      rw [← hvk] at p2
      clear hlk hrl hrak hrck hvk
      have HUP : Hid (wr.grownBy (wr.alloc (.cells #[.int .i64 (lk : Int), .slice rak rl rck, .int .i64 vk] 46)) none) := World.grownBy_alloc _ _ none
      have m0 := (HM.out.kept HUP.out).mark.cell lk (by omega)
      obtain ⟨q0, hq0, hq1, hq2⟩ := run_of G (k : Int) m (by have := HMR.out; rw [HGL.out] at this; omega)
      have HMS := show Hid _ from HMG.out.step HSR.out HG0.out hq0 hq1 hq2
      have hqr : q0 ≤ r := by have := HMR.out; rw [HGL.out] at this; omega
      have HRC : Hid (∀ X, wr.grownBy X (Value.slice a' q c).ownBlock → True) := fun _ _ => trivial
      have HCE : Hid (∀ (X : World) a1 q1 c1 A1, MgAt w X B #[.slice ta tn tc, .slice na nn nc, .slice la ln lc, .int .i64 st, .slice (some ⟨bp, op, none⟩) n pc] mb S b a5 c5 G a1 q1 c1 A1 → ∀ j, m + j < ll → ∃ g, va = some ⟨g, m * 2, none⟩ ∧ X.cell? ⟨g, m * 2 + j * 2, none⟩ = some (.int .i64 (G.getD (m + j) (0, 0)).1)) := fun X a1 q1 c1 A1 hX j hj => by
        rcases HVA.out with h | ⟨g, h1, h2⟩
        · omega
        · obtain ⟨g', e4, h3, _⟩ := hX.cell (j := m + j) (by rw [← HGL.out]; exact hj)
          rw [h1] at e4
          have e5 : g' = g := by simpa using e4.symm
          subst e5
          exact ⟨g', h2, by rw [← Nat.add_mul]; exact h3⟩
      have HQ1 : Hid (∀ j, j < q0 → (G.getD (m + j) (0, 0)).1 = (k : Int)) := fun j hj => hq1 (m + j) (by omega) (by omega)
      have HQ2 : Hid (q0 < r → (G.getD (m + q0) (0, 0)).1 ≠ (k : Int)) := fun h => hq2 (by rw [← HGL.out]; have := HMR.out; omega)
      have hlt2 : (L k).toNat = lk := by rw [← HLK.out]; simp
      rw [hlt2] at HMS
      obtain ⟨bl, hbl⟩ : ∃ x, x = b lk := ⟨_, rfl⟩
      rw [← hbl] at m0 HMS
      clear hbl hq0 hq1 hq2 hlt2 HRC
      cases bl with
      | false =>
        rw [if_neg (by decide), List.append_nil] at HMS
        have HM1 := show Hid _ from HM.out.kept HUP.out
        go_wp2_with fail
        obtain ⟨X1, hX1⟩ : ∃ X, X = wr.alloc (.cells #[.int .i64 (lk : Int), .slice rak rl rck, .int .i64 vk] 46) := ⟨_, rfl⟩
        rw [← hX1] at HM1
        rw [← hX1]
        clear hX1 m0 p0 p1 p2 HM HUP
        go_loopg [10] q0 (fun gk v10 wr => ∃ j : Nat, j ≤ q0 ∧ gk = q0 - j ∧ v10 = .int .i64 j ∧ wr = X1)
        case atStart => exact ⟨0, Nat.zero_le _, rfl, rfl, rfl⟩
        case round =>
          obtain ⟨j, hj, hgk, rfl, hw⟩ := hrel
          subst hw
          have HGJ : Hid (gk = q0 - j) := hgk
          clear hgk
          have hj0 : (0 : Int) ≤ (j : Int) := by omega
          have hjb : j ≤ 8796093072208 := by have := HMR.out; omega
          by_cases hjq : j < q0
          · have hj1 : (j : Int) < (r : Int) := by omega
            have hjd : decide (j < r) = true := decide_eq_true (by omega)
            obtain ⟨g, hg, c0⟩ := HCE.out _ _ _ _ _ HM1.out j (by have := HMR.out; omega)
            rw [HQ1.out j hjq] at c0
            subst hg
            go_wp2_with fail
            go_roundg (q0 - (j + 1))
            case measure => have := HGJ.out; omega
            case rel => exact ⟨j + 1, by omega, rfl, by go_num, rfl⟩
          · have hjq2 : q0 = j := by omega
            subst hjq2
            have HNQ : Hid (va = none → q0 = 0 ∧ gv = 0) := fun h => ⟨by have := (HNL.out h).1; omega, (HNL.out h).2⟩
            have HSC : Hid (∀ ad, va = some ad → ∀ j u, (itsV ((G.drop m).take q0))[j]? = some u → wr.cell? (ad.add j) = some u) := HM1.out.left (by have := HMR.out; rw [HGL.out] at this; omega) (by
              rcases HVA.out with h | h
              · left; have := HMR.out; omega
              · exact .inr h)
            have HSL : Hid ((itsV ((G.drop m).take q0)).length = q0 * 2) := by
              show _ = _
              rw [itsV_length, List.length_take, List.length_drop, Nat.min_eq_left (by have := HMR.out; rw [HGL.out] at this; omega)]
            have hs1 : (q0 : Int) ≤ (gv : Int) := by omega
            have hs2 : (q0 : Int) ≤ (r : Int) := by omega
            have hqq : q + q0 ≤ 8796093072305 := by have := HMR.out; omega
            have hex : (q0 < r ∧ ∃ g x, va = some ⟨g, m * 2, none⟩ ∧ wr.cell? ⟨g, m * 2 + q0 * 2, none⟩ = some (.int .i64 x) ∧ (x == (k : Int)) = false) ∨ q0 = r := by
              by_cases h : q0 < r
              · left
                obtain ⟨g, hg, c0⟩ := HCE.out _ _ _ _ _ HM1.out q0 (by have := HMR.out; omega)
                exact ⟨h, g, _, hg, c0, by simpa using HQ2.out h⟩
              · right; omega
            obtain ⟨tk, htk⟩ : ∃ t, t = itsV ((G.drop m).take q0) := ⟨_, rfl⟩
            have HTK : Hid (tk = itsV ((G.drop m).take q0)) := htk
            have HT1 : Hid (∀ u ∈ tk, u.oneCell' = true) := by rw [htk]; exact itsV_one _
            rw [← htk] at HSC HSL
            clear hjq hj htk HNL HCE HQ1 HQ2
            rcases hex with ⟨hx0, g, x, rfl, c0, hx1⟩ | hx0
            · have hxd : decide (q0 < r) = true := decide_eq_true hx0
              have hx2 : (q0 : Int) < (r : Int) := by omega
              have hcp : ¬ q0 = gv := by omega
              have hcp2 : ¬ (q0 : Int) = (gv : Int) := by omega
              have HVF : Hid (m + q0 = ll ∨ ∃ g', a5 = some ⟨g', 0, none⟩ ∧ (some ⟨g, m * 2 + q0 * 2, none⟩ : Option Addr) = some ⟨g', (m + q0) * 2, none⟩) := by
                rcases HVA.out with h | ⟨g', h1, h2⟩
                · have := HMR.out; omega
                · have e : g' = g := by simpa using h2.symm
                  subst e
                  exact .inr ⟨g', h1, by rw [Nat.add_mul]⟩
              go_wp2_with (at_builtin; refine wpList_append_srcW rfl (.tmp 51) (.tmp 54) 69 rfl B 68 i0 (.agg #[.int .i64 0, .int .i64 0]) 2 16 Tryz.underlying69 hi0 hz0 hz1 hz2 rfl (by decide) (.slice a' q c) q (itsV A) rfl HM1.out.own (some ⟨g, m * 2, none⟩) q0 gv tk rfl HNQ.out HSL.out HSC.out HT1.out (by unfold maxLen; omega) (by omega) HM1.out.lo.2 ?_; intro v7 wB hoB hgB; rw [HTK.out, ← itsV_append] at hoB; obtain ⟨a7, c7, rfl, hC7⟩ := HM1.out.more hgB hoB; have HC7 := show Hid _ from hC7; clear hoB hgB hC7)
              go_roundg (n - (k + 1))
              case measure => have := HGK.out; omega
              case rel => exact ⟨k + 1, m + q0, r - q0, q + q0, c7, gv - q0, _, a7, _, by omega, rfl, rfl, rfl, by go_num, by have := HMR.out; omega, HVF.out, (fun h => by cases h), by omega, by omega, HMS.out, HC7.out⟩
            · subst hx0
              have hxd : decide (q0 < q0) = false := decide_eq_false (by omega)
              cases va with
              | none =>
                obtain ⟨h1, h2⟩ := HNQ.out rfl
                obtain ⟨z, hz⟩ : ∃ z : Nat, z = q0 := ⟨_, rfl⟩
                subst h1
                subst h2
                go_wp2_with (at_builtin; refine wpList_append_srcW rfl (.tmp 51) (.tmp 54) 69 rfl B 68 i0 (.agg #[.int .i64 0, .int .i64 0]) 2 16 Tryz.underlying69 hi0 hz0 hz1 hz2 rfl (by decide) (.slice a' q c) q (itsV A) rfl HM1.out.own none 0 0 tk rfl HNQ.out HSL.out HSC.out HT1.out (by unfold maxLen; omega) (by omega) HM1.out.lo.2 ?_; intro v7 wB hoB hgB; rw [HTK.out, ← itsV_append] at hoB; obtain ⟨a7, c7, rfl, hC7⟩ := HM1.out.more hgB hoB; have HC7 := show Hid _ from hC7; clear hoB hgB hC7)
                go_roundg (n - (k + 1))
                case measure => have := HGK.out; omega
                case rel => exact ⟨k + 1, m + 0, 0, q + 0, c7, 0, _, a7, _, by omega, rfl, rfl, rfl, by go_num, by have := HMR.out; omega, .inl (by have := HMR.out; omega), (fun _ => ⟨rfl, rfl⟩), by omega, by omega, HMS.out, HC7.out⟩
              | some ad =>
                by_cases hcp : q0 = gv
                · subst hcp
                  go_wp2_with (at_builtin; refine wpList_append_srcW rfl (.tmp 51) (.tmp 54) 69 rfl B 68 i0 (.agg #[.int .i64 0, .int .i64 0]) 2 16 Tryz.underlying69 hi0 hz0 hz1 hz2 rfl (by decide) (.slice a' q c) q (itsV A) rfl HM1.out.own (some ad) q0 q0 tk rfl HNQ.out HSL.out HSC.out HT1.out (by unfold maxLen; omega) (by omega) HM1.out.lo.2 ?_; intro v7 wB hoB hgB; rw [HTK.out, ← itsV_append] at hoB; obtain ⟨a7, c7, rfl, hC7⟩ := HM1.out.more hgB hoB; have HC7 := show Hid _ from hC7; clear hoB hgB hC7)
                  go_roundg (n - (k + 1))
                  case measure => have := HGK.out; omega
                  case rel => exact ⟨k + 1, m + q0, 0, q + q0, c7, 0, _, a7, _, by omega, rfl, rfl, rfl, by go_num, by have := HMR.out; omega, .inl HMR.out, (fun h => by cases h), by omega, by omega, HMS.out, HC7.out⟩
                · have hcp1 : q0 < gv := by omega
                  have hcp2 : ¬ (q0 : Int) = (gv : Int) := by omega
                  go_wp2_with (at_builtin; refine wpList_append_srcW rfl (.tmp 51) (.tmp 54) 69 rfl B 68 i0 (.agg #[.int .i64 0, .int .i64 0]) 2 16 Tryz.underlying69 hi0 hz0 hz1 hz2 rfl (by decide) (.slice a' q c) q (itsV A) rfl HM1.out.own (some ad) q0 gv tk rfl HNQ.out HSL.out HSC.out HT1.out (by unfold maxLen; omega) (by omega) HM1.out.lo.2 ?_; intro v7 wB hoB hgB; rw [HTK.out, ← itsV_append] at hoB; obtain ⟨a7, c7, rfl, hC7⟩ := HM1.out.more hgB hoB; have HC7 := show Hid _ from hC7; clear hoB hgB hC7)
                  go_roundg (n - (k + 1))
                  case measure => have := HGK.out; omega
                  case rel => exact ⟨k + 1, m + q0, 0, q + q0, c7, gv - q0, _, a7, _, by omega, rfl, rfl, rfl, by go_num, by have := HMR.out; omega, .inl HMR.out, (fun h => by cases h), by omega, by omega, HMS.out, HC7.out⟩
      | true =>
        rw [if_pos rfl] at HMS
        have HUI : Hid (wr.grownBy ((wr.alloc (.cells #[.int .i64 (lk : Int), .slice rak rl rck, .int .i64 vk] 46)).alloc (.cells #[.int .i64 (k : Int), .int .i64 0] 68)) none) := grown_trans HUP.out (World.grownBy_alloc _ _ none)
        have HMI := show Hid _ from HM.out.kept HUI.out
        obtain ⟨X0, hX0⟩ : ∃ X, X = wr.alloc (.cells #[.int .i64 (lk : Int), .slice rak rl rck, .int .i64 vk] 46) := ⟨_, rfl⟩
        have HNX : Hid (∀ j z, [Value.int .i64 (k : Int), Value.int .i64 0][j]? = some z → (X0.alloc (.cells #[.int .i64 (k : Int), .int .i64 0] 68)).cell? ((⟨X0.heap.size, 0, none⟩ : Addr).add j) = some z) := news_new X0 _ _
        have hsz : X0.heap.size = wr.heap.size + 1 := by rw [hX0]; simp
        rw [hsz, hX0] at HNX
        clear hsz hX0
        go_wp2_with (at_builtin; refine wpList_append_srcW rfl (.tmp 31) (.tmp 34) 69 rfl B 68 i0 (.agg #[.int .i64 0, .int .i64 0]) 2 16 Tryz.underlying69 hi0 hz0 hz1 hz2 rfl (by decide) (.slice a' q c) q (itsV A) rfl HMI.out.own (some ⟨wr.heap.size + 1, 0, none⟩) 1 1 [.int .i64 (k : Int), .int .i64 0] rfl (fun h => by cases h) rfl (fun ad e => by cases e; exact HNX.out) (by simp [Value.oneCell']) (by unfold maxLen; omega) (by omega) HMI.out.lo.2 ?_; intro v6 X1 hoB hgB; rw [show itsV A ++ [Value.int .i64 (k : Int), Value.int .i64 0] = itsV (A ++ [((k : Int), (0 : Int))]) from by rw [itsV_append]; rfl] at hoB; obtain ⟨a1, c1, rfl, hC1⟩ := HMI.out.more hgB hoB; have HM1 := show Hid _ from hC1; clear hoB hgB hC1)
        clear m0 p0 p1 p2 HM HUP HUI HMI HNX
        go_loopg [10] q0 (fun gk v10 wr => ∃ j : Nat, j ≤ q0 ∧ gk = q0 - j ∧ v10 = .int .i64 j ∧ wr = X1)
        case atStart => exact ⟨0, Nat.zero_le _, rfl, rfl, rfl⟩
        case round =>
          obtain ⟨j, hj, hgk, rfl, hw⟩ := hrel
          subst hw
          have HGJ : Hid (gk = q0 - j) := hgk
          clear hgk
          have hj0 : (0 : Int) ≤ (j : Int) := by omega
          have hjb : j ≤ 8796093072208 := by have := HMR.out; omega
          by_cases hjq : j < q0
          · have hj1 : (j : Int) < (r : Int) := by omega
            have hjd : decide (j < r) = true := decide_eq_true (by omega)
            obtain ⟨g, hg, c0⟩ := HCE.out _ _ _ _ _ HM1.out j (by have := HMR.out; omega)
            rw [HQ1.out j hjq] at c0
            subst hg
            go_wp2_with fail
            go_roundg (q0 - (j + 1))
            case measure => have := HGJ.out; omega
            case rel => exact ⟨j + 1, by omega, rfl, by go_num, rfl⟩
          · have hjq2 : q0 = j := by omega
            subst hjq2
            have HNQ : Hid (va = none → q0 = 0 ∧ gv = 0) := fun h => ⟨by have := (HNL.out h).1; omega, (HNL.out h).2⟩
            have HSC : Hid (∀ ad, va = some ad → ∀ j u, (itsV ((G.drop m).take q0))[j]? = some u → wr.cell? (ad.add j) = some u) := HM1.out.left (by have := HMR.out; rw [HGL.out] at this; omega) (by
              rcases HVA.out with h | h
              · left; have := HMR.out; omega
              · exact .inr h)
            have HSL : Hid ((itsV ((G.drop m).take q0)).length = q0 * 2) := by
              show _ = _
              rw [itsV_length, List.length_take, List.length_drop, Nat.min_eq_left (by have := HMR.out; rw [HGL.out] at this; omega)]
            have hs1 : (q0 : Int) ≤ (gv : Int) := by omega
            have hs2 : (q0 : Int) ≤ (r : Int) := by omega
            have hqq : q + 1 + q0 ≤ 8796093072306 := by have := HMR.out; omega
            have hex : (q0 < r ∧ ∃ g x, va = some ⟨g, m * 2, none⟩ ∧ wr.cell? ⟨g, m * 2 + q0 * 2, none⟩ = some (.int .i64 x) ∧ (x == (k : Int)) = false) ∨ q0 = r := by
              by_cases h : q0 < r
              · left
                obtain ⟨g, hg, c0⟩ := HCE.out _ _ _ _ _ HM1.out q0 (by have := HMR.out; omega)
                exact ⟨h, g, _, hg, c0, by simpa using HQ2.out h⟩
              · right; omega
            obtain ⟨tk, htk⟩ : ∃ t, t = itsV ((G.drop m).take q0) := ⟨_, rfl⟩
            have HTK : Hid (tk = itsV ((G.drop m).take q0)) := htk
            have HT1 : Hid (∀ u ∈ tk, u.oneCell' = true) := by rw [htk]; exact itsV_one _
            rw [← htk] at HSC HSL
            clear hjq hj htk HNL HCE HQ1 HQ2
            rcases hex with ⟨hx0, g, x, rfl, c0, hx1⟩ | hx0
            · have hxd : decide (q0 < r) = true := decide_eq_true hx0
              have hx2 : (q0 : Int) < (r : Int) := by omega
              have hcp : ¬ q0 = gv := by omega
              have hcp2 : ¬ (q0 : Int) = (gv : Int) := by omega
              have HVF : Hid (m + q0 = ll ∨ ∃ g', a5 = some ⟨g', 0, none⟩ ∧ (some ⟨g, m * 2 + q0 * 2, none⟩ : Option Addr) = some ⟨g', (m + q0) * 2, none⟩) := by
                rcases HVA.out with h | ⟨g', h1, h2⟩
                · have := HMR.out; omega
                · have e : g' = g := by simpa using h2.symm
                  subst e
                  exact .inr ⟨g', h1, by rw [Nat.add_mul]⟩
              go_wp2_with (at_builtin; refine wpList_append_srcW rfl (.tmp 51) (.tmp 54) 69 rfl B 68 i0 (.agg #[.int .i64 0, .int .i64 0]) 2 16 Tryz.underlying69 hi0 hz0 hz1 hz2 rfl (by decide) (.slice a1 (q + 1) c1) (q + 1) (itsV (A ++ [((k : Int), (0 : Int))])) rfl HM1.out.own (some ⟨g, m * 2, none⟩) q0 gv tk rfl HNQ.out HSL.out HSC.out HT1.out (by unfold maxLen; omega) (by omega) HM1.out.lo.2 ?_; intro v7 wB hoB hgB; rw [HTK.out, ← itsV_append] at hoB; obtain ⟨a7, c7, rfl, hC7⟩ := HM1.out.more hgB hoB; have HC7 := show Hid _ from hC7; clear hoB hgB hC7)
              go_roundg (n - (k + 1))
              case measure => have := HGK.out; omega
              case rel => exact ⟨k + 1, m + q0, r - q0, (q + 1) + q0, c7, gv - q0, _, a7, _, by omega, rfl, rfl, rfl, by go_num, by have := HMR.out; omega, HVF.out, (fun h => by cases h), by omega, by omega, HMS.out, HC7.out⟩
            · subst hx0
              have hxd : decide (q0 < q0) = false := decide_eq_false (by omega)
              cases va with
              | none =>
                obtain ⟨h1, h2⟩ := HNQ.out rfl
                obtain ⟨z, hz⟩ : ∃ z : Nat, z = q0 := ⟨_, rfl⟩
                subst h1
                subst h2
                go_wp2_with (at_builtin; refine wpList_append_srcW rfl (.tmp 51) (.tmp 54) 69 rfl B 68 i0 (.agg #[.int .i64 0, .int .i64 0]) 2 16 Tryz.underlying69 hi0 hz0 hz1 hz2 rfl (by decide) (.slice a1 (q + 1) c1) (q + 1) (itsV (A ++ [((k : Int), (0 : Int))])) rfl HM1.out.own none 0 0 tk rfl HNQ.out HSL.out HSC.out HT1.out (by unfold maxLen; omega) (by omega) HM1.out.lo.2 ?_; intro v7 wB hoB hgB; rw [HTK.out, ← itsV_append] at hoB; obtain ⟨a7, c7, rfl, hC7⟩ := HM1.out.more hgB hoB; have HC7 := show Hid _ from hC7; clear hoB hgB hC7)
                go_roundg (n - (k + 1))
                case measure => have := HGK.out; omega
                case rel => exact ⟨k + 1, m + 0, 0, (q + 1) + 0, c7, 0, _, a7, _, by omega, rfl, rfl, rfl, by go_num, by have := HMR.out; omega, .inl (by have := HMR.out; omega), (fun _ => ⟨rfl, rfl⟩), by omega, by omega, HMS.out, HC7.out⟩
              | some ad =>
                by_cases hcp : q0 = gv
                · subst hcp
                  go_wp2_with (at_builtin; refine wpList_append_srcW rfl (.tmp 51) (.tmp 54) 69 rfl B 68 i0 (.agg #[.int .i64 0, .int .i64 0]) 2 16 Tryz.underlying69 hi0 hz0 hz1 hz2 rfl (by decide) (.slice a1 (q + 1) c1) (q + 1) (itsV (A ++ [((k : Int), (0 : Int))])) rfl HM1.out.own (some ad) q0 q0 tk rfl HNQ.out HSL.out HSC.out HT1.out (by unfold maxLen; omega) (by omega) HM1.out.lo.2 ?_; intro v7 wB hoB hgB; rw [HTK.out, ← itsV_append] at hoB; obtain ⟨a7, c7, rfl, hC7⟩ := HM1.out.more hgB hoB; have HC7 := show Hid _ from hC7; clear hoB hgB hC7)
                  go_roundg (n - (k + 1))
                  case measure => have := HGK.out; omega
                  case rel => exact ⟨k + 1, m + q0, 0, (q + 1) + q0, c7, 0, _, a7, _, by omega, rfl, rfl, rfl, by go_num, by have := HMR.out; omega, .inl HMR.out, (fun h => by cases h), by omega, by omega, HMS.out, HC7.out⟩
                · have hcp1 : q0 < gv := by omega
                  have hcp2 : ¬ (q0 : Int) = (gv : Int) := by omega
                  go_wp2_with (at_builtin; refine wpList_append_srcW rfl (.tmp 51) (.tmp 54) 69 rfl B 68 i0 (.agg #[.int .i64 0, .int .i64 0]) 2 16 Tryz.underlying69 hi0 hz0 hz1 hz2 rfl (by decide) (.slice a1 (q + 1) c1) (q + 1) (itsV (A ++ [((k : Int), (0 : Int))])) rfl HM1.out.own (some ad) q0 gv tk rfl HNQ.out HSL.out HSC.out HT1.out (by unfold maxLen; omega) (by omega) HM1.out.lo.2 ?_; intro v7 wB hoB hgB; rw [HTK.out, ← itsV_append] at hoB; obtain ⟨a7, c7, rfl, hC7⟩ := HM1.out.more hgB hoB; have HC7 := show Hid _ from hC7; clear hoB hgB hC7)
                  go_roundg (n - (k + 1))
                  case measure => have := HGK.out; omega
                  case rel => exact ⟨k + 1, m + q0, 0, (q + 1) + q0, c7, gv - q0, _, a7, _, by omega, rfl, rfl, rfl, by go_num, by have := HMR.out; omega, .inl HMR.out, (fun h => by cases h), by omega, by omega, HMS.out, HC7.out⟩
    · have hkn : n = k := by omega
      subst hkn
      have hkd : decide (n < n) = false := decide_eq_false (by omega)
      have hqA : q = A.length := by have := HM.out.own.1; rw [itsV_length] at this; omega
      have HQA : Hid (q = A.length) := hqA
      have HIC : Hid (IsClo tn n L R I (ddT A A.length)) := HMG.out.fin HBR.out (Nat.le_refl _) HPM.out HIT.out fun p hp => (HLP.out p hp).1
      have HLB : Hid (A.length ≤ I.length + 13000) := by
        have h1 := HMG.out.len
        have h2 := HMG.out.le
        rw [← HGL.out, HLE.out] at h2
        show _ ≤ _
        omega
      have HCO : Hid (Calls Tryz.prog 84 #[.slice a' q c] wr fun e y => CompTold B a' c A wr e y) := by
        have ho := HM.out.own
        rw [hqA] at ho
        have := compact_any wr B a' c A ho (by rw [← hqA]; omega)
        rwa [← hqA] at this
      clear hqA
      go_wp2_with fail
      refine Calls.mono HCO.out ?_
      rintro e w5 ⟨m5, hm, rfl, ho5, hg5⟩
      have HO5 : Hid (w5.ownsRow w.heap.size 68 2 (.slice a' m5 c) m5 (itsV (ddT A A.length))) := by
        refine ⟨ho5.1, ?_⟩
        rcases ho5.2 with h | ⟨g, cap, cur, hv, hB, hr⟩
        · exact .inl h
        · exact .inr ⟨g, cap, cur, hv, Nat.le_trans HM.out.lo.1 hB, hr⟩
      have HMM : Hid (m5 = (ddT A A.length).length) := hm
      have HG5 : Hid (w.grownBy w5 none) := by
        have ho := HM.out.own
        rw [HQA.out] at ho
        exact grown_row HM.out.grown ho HM.out.lo.1 hg5
      clear hm ho5 hg5 HCO
      go_wp2_with fail
      go_ret
      exact ⟨ddT A A.length, HIC.out, Nat.le_trans (ddT_len A A.length) HLB.out, a', c, by rw [← HMM.out]; rfl, by rw [← HMM.out]; exact HO5.out, HG5.out⟩

end Go.Proofs.YtckgjolaoifgkaaGreat.J

/-
  lr0: kernels.
-/
namespace Go.Proofs.YtckgjolaoifgkaaGreat.J
open Go.RowKit Go.Maps Go.Shelf

attribute [local go_sem] Oper.semAt_some

/-- The kernel behind s of items in order. -/
def kerT (R : Nat → List Int) (l : List It) (s : Int) : List It := (l.filter fun x => aheadV R x == s).map fun x => (x.1, x.2 + 1)
theorem kerT_append (R : Nat → List Int) (l m : List It) (s : Int) : kerT R (l ++ m) s = kerT R l s ++ kerT R m s := by unfold kerT; rw [List.filter_append, List.map_append]
theorem kerT_one (R : Nat → List Int) (x : It) (s : Int) : kerT R [x] s = if aheadV R x = s then [(x.1, x.2 + 1)] else [] := by
  unfold kerT
  by_cases h : aheadV R x = s
  · simp [h]
  · simp [h]
theorem kerT_len (R : Nat → List Int) (l : List It) (s : Int) : (kerT R l s).length ≤ l.length := by
  unfold kerT
  rw [List.length_map]
  exact List.length_filter_le _ _

/-- While the kernels are laid. -/
structure KnAt (w P X : World) (cs : Array Value) (rb S : Nat) (K : Nat → List It) (ua : Nat → Option Addr) (uc : Nat → Nat) : Prop where
  grown : w.grownBy X none
  from_ : P.grownBy X (some rb)
  box : X.heap[w.heap.size]? = some (.cells cs 27 (0, 0))
  row : ValAt X rb S 69 (fun s => .slice (ua s) (K s).length (uc s))
  own : ∀ s, s < S → X.ownsRow P.heap.size 68 2 (.slice (ua s) (K s).length (uc s)) (K s).length (itsV (K s))
  sep : ∀ s t, s < S → t < S → s ≠ t → (Value.slice (ua s) (K s).length (uc s)).ownBlock = none ∨ (Value.slice (ua s) (K s).length (uc s)).ownBlock ≠ (Value.slice (ua t) (K t).length (uc t)).ownBlock
  lo : w.heap.size < rb ∧ rb < P.heap.size
section
variable {w P X Y Z : World} {cs : Array Value} {rb S : Nat} {K : Nat → List It} {ua : Nat → Option Addr} {uc : Nat → Nat}
theorem KnAt.kept (h : KnAt w P X cs rb S K ua uc) (hg : X.grownBy Y none) : KnAt w P Y cs rb S K ua uc :=
  ⟨grown_trans h.grown hg, CmAt.drawn.grown_two' h.from_ hg, box_kept h.box hg, h.row.kept hg, fun s hs => keep0 (h.own s hs) hg, h.sep, h.lo⟩
theorem KnAt.ph (h : KnAt w P X cs rb S K ua uc) : PhAt w X w.heap.size cs := ⟨h.grown, h.box⟩
theorem KnAt.lst {B c m : Nat} {a : Option Addr} {l : List It} (h : KnAt w P X cs rb S K ua uc) (ho : P.ownsRow B 68 2 (.slice a m c) m (itsV l)) (hr : ∃ cur : Array Value, P.heap[rb]? = some (.cells cur 69 (0, 0))) : X.ownsRow B 68 2 (.slice a m c) m (itsV l) := by
  obtain ⟨cur, hr⟩ := hr
  exact ho.kept h.from_ (owns_nebox ho hr (by decide))
def updL {α : Type} (f : Nat → α) (s : Nat) (x : α) : Nat → α := fun i => if i = s then x else f i
theorem updL_same {α : Type} (f : Nat → α) (s : Nat) (x : α) : updL f s x s = x := if_pos rfl
theorem updL_other {α : Type} (f : Nat → α) {s i : Nat} (x : α) (h : i ≠ s) : updL f s x i = f i := if_neg h
/-- One item more behind s. -/
theorem KnAt.push {s g c : Nat} {x : It} (h : KnAt w P X cs rb S K ua uc) (hs : s < S) (hX : X.grownBy Y none) (hg : Y.grownBy Z (Value.slice (ua s) (K s).length (uc s)).ownBlock) (ho : Z.ownsRow P.heap.size 68 2 (.slice (some ⟨g, 0, none⟩) ((K s).length + 1) c) ((K s).length + 1) (itsV (K s) ++ encIt x)) (hat : (Value.slice (ua s) (K s).length (uc s)).ownBlock = some g ∨ g = Y.heap.size) :
    KnAt w P (Z.setCell ⟨rb, s, none⟩ (.slice (some ⟨g, 0, none⟩) ((K s).length + 1) c)) cs rb S (updL K s (K s ++ [x])) (updL ua s (some ⟨g, 0, none⟩)) (updL uc s c) ∧ Z.cell? ⟨rb, s, none⟩ = some (.slice (ua s) (K s).length (uc s)) ∧ Z.frozen? ⟨rb, s, none⟩ = false := by
  have hY := h.kept hX
  have kp : ∀ (b : Nat) (cs : Array Value) (e : TypeId), e ≠ 68 → Y.heap[b]? = some (.cells cs e (0, 0)) → Z.heap[b]? = some (.cells cs e (0, 0)) := fun b cs e he hb => by
    refine (hg.block b (Array.getElem?_eq_some_iff.1 hb).1 ?_).trans hb
    rcases owns_nebox (hY.own s hs) hb (fun e2 => he e2.symm) with h1 | h1
    · rw [h1]; simp
    · exact fun h2 => h1 h2.symm
  have hrowZ : ValAt Z rb S 69 (fun s => .slice (ua s) (K s).length (uc s)) := kp _ _ _ (by decide) hY.row
  have G : Z.grownBy (Z.setCell ⟨rb, s, none⟩ (.slice (some ⟨g, 0, none⟩) ((K s).length + 1) c)) (some rb) := grown_setCell _ _ _
  have hgP : P.grownBy Z (some rb) := by
    have h1 := hY.from_
    refine ⟨hg.os.trans h1.os, hg.tape.trans h1.tape, hg.output.trans h1.output, Nat.le_trans h1.size hg.size, fun k hk hne => (hg.block k (Nat.lt_of_lt_of_le hk h1.size) ?_).trans (h1.block k hk hne)⟩
    intro e
    have := ((hY.own s hs).lt k e.symm).1
    omega
  have hgw : w.grownBy Z none := by
    have h1 := hY.grown
    refine ⟨hg.os.trans h1.os, hg.tape.trans h1.tape, hg.output.trans h1.output, Nat.le_trans h1.size hg.size, fun k hk hne => (hg.block k (Nat.lt_of_lt_of_le hk h1.size) ?_).trans (h1.block k hk hne)⟩
    intro e
    have h2 := ((hY.own s hs).lt k e.symm).1
    have h3 := h.lo
    omega
  have hl := h.lo
  refine ⟨⟨grown_new hgw G (by omega), CmAt.put.two hgP G, (G.block _ (Array.getElem?_eq_some_iff.1 (kp _ _ _ (by decide) hY.box)).1 (by simp; omega)).trans (kp _ _ _ (by decide) hY.box), (hrowZ.set s _).ext fun i _ => ?_, fun t ht => ?_, fun t u ht hu hne => ?_, h.lo⟩, hrowZ.cell s hs, hrowZ.free s⟩
  · unfold put
    by_cases e : i = s
    · subst e; rw [if_pos rfl, updL_same, updL_same, updL_same]; simp
    · rw [if_neg e, updL_other _ _ e, updL_other _ _ e, updL_other _ _ e]
  · by_cases e : t = s
    · subst e
      rw [updL_same, updL_same, updL_same, itsV_append, List.length_append]
      exact ho.kept G (owns_nebox ho hrowZ (by decide))
    · rw [updL_other _ _ e, updL_other _ _ e, updL_other _ _ e]
      have h1 := (hY.own t ht).kept hg (h.sep t s ht hs e)
      exact h1.kept G (owns_nebox h1 hrowZ (by decide))
  · have key : ∀ t, t < S → t ≠ s → (Value.slice (ua t) (K t).length (uc t)).ownBlock = none ∨ (Value.slice (ua t) (K t).length (uc t)).ownBlock ≠ some g := fun t ht e => by
      rcases hat with h1 | h1
      · rw [← h1]; exact h.sep t s ht hs e
      · cases hb : (Value.slice (ua t) (K t).length (uc t)).ownBlock with
        | none => exact .inl rfl
        | some k =>
          right
          intro h2
          have := ((hY.own t ht).lt k hb).2
          have : k = g := by simpa using h2
          omega
    by_cases e : t = s
    · subst e
      have e2 : u ≠ t := fun h => hne h.symm
      rw [updL_same, updL_same, updL_same, updL_other _ _ e2, updL_other _ _ e2, updL_other _ _ e2]
      right
      rcases key u hu e2 with h1 | h1
      · rw [h1]; simp [Value.ownBlock]
      · exact fun h2 => h1 h2.symm
    · rw [updL_other _ _ e, updL_other _ _ e, updL_other _ _ e]
      by_cases e2 : u = s
      · subst e2
        rw [updL_same, updL_same, updL_same]
        exact key t ht e
      · rw [updL_other _ _ e2, updL_other _ _ e2, updL_other _ _ e2]
        exact h.sep t u ht hu hne
end

end Go.Proofs.YtckgjolaoifgkaaGreat.J

/-
  lr0: the walk over the kernels, pure.
-/
namespace Go.Proofs.YtckgjolaoifgkaaGreat.J
open Go.RowKit Go.Maps Go.Shelf

/-- The state of a kernel, and the kernels afterwards; none: one too many. -/
def askF (ks : List (List It)) (k : List It) : Option (Nat × List (List It)) := if k ∈ ks then some (ks.idxOf k, ks) else if ks.length < 256 then some (ks.length, ks ++ [k]) else none
/-- The edges of a state, by the symbols below S. -/
def leaveF (G : Nat → List It) (ks : List (List It)) : Nat → Option (List (List It) × List (Nat × Nat))
  | 0 => some (ks, [])
  | s + 1 => match leaveF G ks s with
    | none => none
    | some (ks', ed) => if G s = [] then some (ks', ed) else match askF ks' (G s) with
      | none => none
      | some (t, ks'') => some (ks'', ed ++ [(s, t)])
/-- The automaton, once the states below i have been left. -/
def autoF (G : List It → Nat → List It) (S : Nat) : Nat → Option (List (List It) × List (List (Nat × Nat)))
  | 0 => some ([[(0, 0)]], [])
  | i + 1 => match autoF G S i with
    | none => none
    | some (ks, es) => if i < ks.length then match leaveF (G (ks.getD i [])) ks S with
        | none => none
        | some (ks', ed) => some (ks', es ++ [ed])
      else some (ks, es)

theorem leaveF_none {G : Nat → List It} {ks : List (List It)} {s : Nat} (h : leaveF G ks s = none) : ∀ d, leaveF G ks (s + d) = none
  | 0 => h
  | d + 1 => by
    have := leaveF_none h d
    show leaveF G ks ((s + d) + 1) = none
    unfold leaveF
    rw [this]
theorem autoF_none {G : List It → Nat → List It} {S i : Nat} (h : autoF G S i = none) : ∀ d, autoF G S (i + d) = none
  | 0 => h
  | d + 1 => by
    have := autoF_none h d
    show autoF G S ((i + d) + 1) = none
    unfold autoF
    rw [this]
theorem autoF_stay {G : List It → Nat → List It} {S i : Nat} {ks : List (List It)} {es : List (List (Nat × Nat))} (h : autoF G S i = some (ks, es)) (hi : ks.length ≤ i) : ∀ d, autoF G S (i + d) = some (ks, es)
  | 0 => h
  | d + 1 => by
    have := autoF_stay h hi d
    show autoF G S ((i + d) + 1) = some (ks, es)
    unfold autoF
    rw [this]
    simp only
    rw [if_neg (by omega)]
theorem autoF_step {G : List It → Nat → List It} {S i : Nat} {ks : List (List It)} {es : List (List (Nat × Nat))} (h : autoF G S i = some (ks, es)) (hi : i < ks.length) : autoF G S (i + 1) = match leaveF (G (ks.getD i [])) ks S with | none => none | some (ks', ed) => some (ks', es ++ [ed]) := by
  show (match autoF G S i with | none => none | some (ks, es) => _) = _
  rw [h]
  simp only
  rw [if_pos hi]

/-- What always holds of the kernels: none twice, 256 at most; each is in P. -/
structure KsOK (P : Nat → List It → Prop) (ks : List (List It)) : Prop where
  nodup : ks.Nodup
  le : ks.length ≤ 256
  each : ∀ j, j < ks.length → P j (ks.getD j [])

theorem getD_snoc_old {α : Type} {l : List α} {x d : α} {j : Nat} (h : j < l.length) : (l ++ [x]).getD j d = l.getD j d := by
  rw [List.getD_eq_getElem?_getD, List.getD_eq_getElem?_getD, List.getElem?_append_left h]
theorem getD_snoc_new {α : Type} {l : List α} {x d : α} : (l ++ [x]).getD l.length d = x := by
  rw [List.getD_eq_getElem?_getD, List.getElem?_append_right (Nat.le_refl _), Nat.sub_self]; rfl

theorem getD_prefix {α : Type} {l m : List α} {d : α} {j : Nat} (h : l <+: m) (hj : j < l.length) : m.getD j d = l.getD j d := by
  obtain ⟨t, rfl⟩ := h
  rw [List.getD_eq_getElem?_getD, List.getD_eq_getElem?_getD, List.getElem?_append_left hj]

theorem KsOK.ask {P : Nat → List It → Prop} {ks ks' : List (List It)} {k : List It} {t : Nat} (h : KsOK P ks) (hP : P ks.length k) (e : askF ks k = some (t, ks')) : KsOK P ks' ∧ ks <+: ks' ∧ t < ks'.length ∧ ks'.getD t [] = k := by
  unfold askF at e
  by_cases hk : k ∈ ks
  · rw [if_pos hk] at e
    cases e
    have h1 := List.idxOf_lt_length_iff.2 hk
    refine ⟨h, List.prefix_refl _, h1, ?_⟩
    rw [List.getD_eq_getElem?_getD, List.getElem?_eq_getElem h1]
    simp
  · rw [if_neg hk] at e
    by_cases hl : ks.length < 256
    · rw [if_pos hl] at e
      cases e
      refine ⟨⟨?_, by rw [List.length_append]; exact hl, fun j hj => ?_⟩, List.prefix_append _ _, by rw [List.length_append]; exact Nat.lt_succ_self _, getD_snoc_new⟩
      · rw [List.nodup_append]
        exact ⟨h.nodup, by simp, fun a ha b hb => by rw [List.mem_singleton.1 hb]; intro e; exact hk (e ▸ ha)⟩
      · rw [List.length_append] at hj
        simp only [List.length_singleton] at hj
        by_cases e : j < ks.length
        · rw [getD_snoc_old e]; exact h.each j e
        · have : j = ks.length := by omega
          subst this
          rw [getD_snoc_new]; exact hP
    · rw [if_neg hl] at e; cases e

theorem KsOK.leave {P : Nat → List It → Prop} {G : Nat → List It} {ks : List (List It)} (h : KsOK P ks) (hP : ∀ m s, ks.length ≤ m → P m (G s)) : ∀ (s : Nat) {ks' : List (List It)} {ed : List (Nat × Nat)}, leaveF G ks s = some (ks', ed) → KsOK P ks' ∧ ks <+: ks' ∧ ed.length ≤ s ∧ ∀ x ∈ ed, x.1 < s ∧ x.2 < ks'.length ∧ ks'.getD x.2 [] = G x.1
  | 0, ks', ed, e => by
    unfold leaveF at e
    cases e
    exact ⟨h, List.prefix_refl _, Nat.le_refl _, fun x hx => by cases hx⟩
  | s + 1, ks', ed, e => by
    unfold leaveF at e
    cases h1 : leaveF G ks s with
    | none => rw [h1] at e; cases e
    | some q =>
      obtain ⟨k1, e1⟩ := q
      obtain ⟨i1, i2, i3, i4⟩ := KsOK.leave h hP s h1
      rw [h1] at e
      simp only at e
      by_cases hg : G s = []
      · rw [if_pos hg] at e
        cases e
        exact ⟨i1, i2, by omega, fun x hx => ⟨by have := (i4 x hx).1; omega, (i4 x hx).2⟩⟩
      · rw [if_neg hg] at e
        cases h2 : askF k1 (G s) with
        | none => rw [h2] at e; cases e
        | some q2 =>
          obtain ⟨t, k2⟩ := q2
          rw [h2] at e
          cases e
          obtain ⟨j1, j2, j3, j4⟩ := i1.ask (hP _ s i2.length_le) h2
          refine ⟨j1, i2.trans j2, by rw [List.length_append]; exact Nat.succ_le_succ i3, fun x hx => ?_⟩
          rcases List.mem_append.1 hx with hx | hx
          · obtain ⟨q1, q2, q3⟩ := i4 x hx
            refine ⟨by omega, Nat.lt_of_lt_of_le q2 j2.length_le, ?_⟩
            rw [← q3, getD_prefix j2 q2]
          · rw [List.mem_singleton.1 hx]
            exact ⟨Nat.lt_succ_self _, j3, j4⟩

/-- What always holds of the automaton under way. -/
structure AuOK (P : Nat → List It → Prop) (G : List It → Nat → List It) (S i : Nat) (ks : List (List It)) (es : List (List (Nat × Nat))) : Prop where
  kok : KsOK P ks
  pos : 0 < ks.length
  head : ks.getD 0 [] = [(0, 0)]
  len : es.length = min i ks.length
  edges : ∀ q, q < es.length → (es.getD q []).length ≤ S ∧ ∀ x ∈ es.getD q [], x.1 < S ∧ x.2 < ks.length ∧ ks.getD x.2 [] = G (ks.getD q []) x.1

theorem autoOK {P : Nat → List It → Prop} {G : List It → Nat → List It} {S : Nat} (h0 : P 0 [(0, 0)]) (hG : ∀ i m k s, P i k → i < m → P m (G k s)) : ∀ (i : Nat) {ks : List (List It)} {es : List (List (Nat × Nat))}, autoF G S i = some (ks, es) → AuOK P G S i ks es
  | 0, ks, es, e => by
    unfold autoF at e
    cases e
    refine ⟨⟨by simp, by simp, fun j hj => ?_⟩, by simp, rfl, by simp, fun q hq => absurd hq (Nat.not_lt_zero _)⟩
    have : j = 0 := by simpa using hj
    subst this
    exact h0
  | i + 1, ks', es', e => by
    cases h1 : autoF G S i with
    | none =>
      have := autoF_none h1 1
      rw [this] at e; cases e
    | some q =>
      obtain ⟨ks, es⟩ := q
      have ih := autoOK h0 hG i h1
      by_cases hi : i < ks.length
      · rw [autoF_step h1 hi] at e
        cases h2 : leaveF (G (ks.getD i [])) ks S with
        | none => rw [h2] at e; cases e
        | some q2 =>
          obtain ⟨k2, ed⟩ := q2
          rw [h2] at e
          cases e
          obtain ⟨j1, j2, j3, j4⟩ := ih.kok.leave (fun m s hm => hG i m _ s (ih.kok.each i hi) (by omega)) S h2
          have hle := j2.length_le
          have hes : es.length = i := by rw [ih.len]; omega
          refine ⟨j1, by have := ih.pos; omega, by rw [getD_prefix j2 ih.pos]; exact ih.head, by rw [List.length_append, hes]; simp; omega, fun q hq => ?_⟩
          rw [List.length_append] at hq
          simp only [List.length_singleton] at hq
          by_cases e : q < es.length
          · rw [getD_snoc_old e]
            obtain ⟨a1, a2⟩ := ih.edges q e
            refine ⟨a1, fun x hx => ?_⟩
            obtain ⟨b1, b2, b3⟩ := a2 x hx
            refine ⟨b1, by omega, ?_⟩
            rw [getD_prefix j2 b2, getD_prefix j2 (by omega), b3]
          · have : q = es.length := by omega
            subst this
            rw [getD_snoc_new, hes, getD_prefix j2 hi]
            exact ⟨j3, j4⟩
      · have := autoF_stay h1 (Nat.le_of_not_lt hi) 1
        rw [this] at e
        cases e
        exact ⟨ih.kok, ih.pos, ih.head, by rw [ih.len]; omega, ih.edges⟩

end Go.Proofs.YtckgjolaoifgkaaGreat.J

/-
  lr0: states in memory; the document's place.
-/
namespace Go.Proofs.YtckgjolaoifgkaaGreat.J
open Go.RowKit Go.Maps Go.Shelf

attribute [local go_sem] Oper.semAt_some

/-- The kernels of states in memory: ka and kc say where they lie and what room they have. -/
def KersAt (X : World) (a : Option Addr) (ks : List (List It)) (ka : Nat → Option Addr) (kc : Nat → Nat) : Prop := ks = [] ∨ ∃ b off, a = some ⟨b, off, none⟩ ∧ ∀ i, i < ks.length → X.cell? ⟨b, off + i * 2, none⟩ = some (.slice (ka i) (ks.getD i []).length (kc i)) ∧ ItsAt X (ka i) (ks.getD i [])
theorem KersAt.kept {X Y : World} {a : Option Addr} {ks : List (List It)} {ka : Nat → Option Addr} {kc : Nat → Nat} (h : KersAt X a ks ka kc) (hg : X.grownBy Y none) : KersAt Y a ks ka kc := by
  rcases h with h | ⟨b, off, e, h⟩
  · exact .inl h
  · exact .inr ⟨b, off, e, fun i hi => ⟨hg.cell (h i hi).1 (by simp), (h i hi).2.kept hg⟩⟩
theorem KersAt.at {X : World} {a : Option Addr} {ks : List (List It)} {ka : Nat → Option Addr} {kc : Nat → Nat} (h : KersAt X a ks ka kc) {i : Nat} (hi : i < ks.length) : ∃ b off, a = some ⟨b, off, none⟩ ∧ X.cell? ⟨b, off + i * 2, none⟩ = some (.slice (ka i) (ks.getD i []).length (kc i)) ∧ ItsAt X (ka i) (ks.getD i []) := by
  rcases h with h | ⟨b, off, e, h⟩
  · rw [h] at hi; cases hi
  · exact ⟨b, off, e, h i hi⟩

/-- The place of a kernel, -1: there is none. -/
def placeV (ks : List (List It)) (k : List It) : Int := if k ∈ ks then (ks.idxOf k : Int) else -1
theorem placeV_at {ks : List (List It)} {k : List It} {i : Nat} (hi : i < ks.length) (h : ks.getD i [] = k) (hno : ∀ j, j < i → ks.getD j [] ≠ k) : placeV ks k = (i : Int) := by
  have e : ks.getD i [] = ks[i] := by rw [List.getD_eq_getElem?_getD, List.getElem?_eq_getElem hi]; rfl
  have hm : k ∈ ks := by rw [← h, e]; exact List.getElem_mem hi
  unfold placeV
  rw [if_pos hm]
  have h1 := List.idxOf_lt_length_iff.2 hm
  have h2 : ks.getD (ks.idxOf k) [] = k := by rw [List.getD_eq_getElem?_getD, List.getElem?_eq_getElem h1]; simp
  have h3 : ks.idxOf k ≤ i := by
    apply Classical.byContradiction
    intro hlt
    have h4 := List.not_of_lt_findIdx (p := (· == k)) (xs := ks) (i := i) (by unfold List.idxOf at hlt; omega)
    rw [← e, h] at h4
    simp at h4
  have h5 : ¬ ks.idxOf k < i := fun h6 => hno _ h6 h2
  congr 1
  omega
theorem placeV_no {ks : List (List It)} {k : List It} (hno : ∀ j, j < ks.length → ks.getD j [] ≠ k) : placeV ks k = -1 := by
  unfold placeV
  rw [if_neg]
  intro hm
  have h1 := List.idxOf_lt_length_iff.2 hm
  exact hno _ h1 (by rw [List.getD_eq_getElem?_getD, List.getElem?_eq_getElem h1]; simp)

set_option maxRecDepth 100000 in
theorem rplace_any (a a2 : Option Addr) (c c2 : Nat) (ks : List (List It)) (ka : Nat → Option Addr) (kc : Nat → Nat) (k : List It) (w : World) (h1 : KersAt w a ks ka kc) (h2 : ItsAt w a2 k) (hks : ks.length ≤ 256) (hb : ∀ i, i < ks.length → (ks.getD i []).length ≤ 1099511627776000) (hb2 : k.length ≤ 1099511627776000) :
    Calls Tryz.prog 29 #[.slice a ks.length c, .slice a2 k.length c2] w fun e y => e = .returned (.int .i64 (placeV ks k)) ∧ w.grownBy y none := by
  obtain ⟨N, hN⟩ : ∃ n, n = ks.length := ⟨_, rfl⟩
  have HN : Hid (N = ks.length) := hN
  have HK : Hid (∀ X, w.grownBy X none → KersAt X a ks ka kc) := fun X hX => h1.kept hX
  have HSM : Hid (∀ i X (b : Bool), i < ks.length → w.grownBy X none → (b = true ↔ ks.getD i [] = k) → Calls Tryz.prog 39 #[.slice (ka i) (ks.getD i []).length (kc i), .slice a2 k.length c2] X fun e y => e = .returned (.bool b) ∧ X.grownBy y none) := fun i X b hi hX hbb => by
    obtain ⟨_, _, _, _, h3⟩ := (h1.kept hX).at hi
    exact sameItems_any (ka i) a2 (kc i) c2 _ k X h3 (h2.kept hX) (hb i hi) hb2 b hbb
  obtain ⟨m, hm⟩ : ∃ n, n = k.length := ⟨_, rfl⟩
  rw [← hm] at HSM
  rw [← hN] at hks
  rw [← hN, ← hm]
  clear h1 h2 hb hb2 hN hm
  go_enter Tryz.func29, Tryz.ntmps29
  go_wp2_with fail
  go_loopg [5] N (fun gk v5 wr => ∃ i : Nat, i ≤ N ∧ gk = N - i ∧ v5 = .int .i64 i ∧ w.grownBy wr none ∧ ∀ j, j < i → ks.getD j [] ≠ k)
  case atStart => exact ⟨0, Nat.zero_le _, rfl, rfl, grown_refl _ _, fun i hi => absurd hi (Nat.not_lt_zero _)⟩
  case round =>
    obtain ⟨i, hi, hgi, rfl, hg, hno⟩ := hrel
    have HGI : Hid (gk = N - i) := hgi
    have HG : Hid (w.grownBy wr none) := hg
    have HNO : Hid (∀ j, j < i → ks.getD j [] ≠ k) := hno
    clear hgi hg hno
    by_cases hlt : i < N
    · have hi0 : (0 : Int) ≤ (i : Int) := by omega
      have hi1 : (i : Int) < (N : Int) := by omega
      have hid : decide (i < N) = true := decide_eq_true hlt
      have hil : i < ks.length := by rw [← HN.out]; exact hlt
      obtain ⟨b, off, rfl, c0, _⟩ := (HK.out wr HG.out).at hil
      obtain ⟨bb, hbb⟩ := boolOf (ks.getD i [] = k)
      have HBB : Hid (bb = true ↔ ks.getD i [] = k) := hbb
      have HC := show Hid _ from HSM.out i wr bb hil HG.out hbb
      obtain ⟨q, hq⟩ : ∃ q, q = (ks.getD i []).length := ⟨_, rfl⟩
      rw [← hq] at c0 HC
      have HIL : Hid (i < ks.length) := hil
      clear hbb hq hil
      go_wp2_with fail
      refine Calls.mono HC.out ?_
      rintro e w2 ⟨rfl, hg2⟩
      have HG2 : Hid (w.grownBy w2 none) := grown_trans HG.out hg2
      clear HC hg2 c0
      cases bb with
      | true =>
        have HPV : Hid (placeV ks k = (i : Int)) := placeV_at HIL.out (HBB.out.1 rfl) HNO.out
        clear HBB
        go_wp2_with fail
        go_ret
        exact ⟨by rw [HPV.out]; rfl, HG2.out⟩
      | false =>
        have HNE : Hid (ks.getD i [] ≠ k) := fun h3 => absurd (HBB.out.2 h3) (by decide)
        clear HBB
        go_wp2_with fail
        go_roundg (N - (i + 1))
        case measure => have := HGI.out; omega
        case rel => exact ⟨i + 1, by omega, rfl, by go_num, HG2.out, fun j hj => by
          by_cases e : j = i
          · rw [e]; exact HNE.out
          · exact HNO.out j (by omega)⟩
    · have hin : N = i := by omega
      subst hin
      have hid : decide (N < N) = false := decide_eq_false (by omega)
      have HP : Hid (placeV ks k = -1) := placeV_no (fun j hj => HNO.out j (by rw [HN.out]; exact hj))
      go_wp2_with fail
      go_ret
      exact ⟨by rw [HP.out]; rfl, HG.out⟩

end Go.Proofs.YtckgjolaoifgkaaGreat.J

/-
  lr0: slices.Equal of items.
-/
namespace Go.Proofs.YtckgjolaoifgkaaGreat.J
open Go.RowKit Go.Maps Go.Shelf

attribute [local go_sem] Oper.semAt_some

set_option maxRecDepth 100000 in
theorem equalItems_any (a1 a2 : Option Addr) (c1 c2 : Nat) (l m : List It) (w : World) (h1 : ItsAt w a1 l) (h2 : ItsAt w a2 m) (hb : l.length ≤ 1099511627776000) (hb2 : m.length ≤ 1099511627776000) (r : Bool) (hr : r = true ↔ l = m) :
    Calls Tryz.prog 61 #[.slice a1 l.length c1, .slice a2 m.length c2] w fun e y => e = .returned (.bool r) ∧ w.grownBy y none := by
  obtain ⟨n1, hn1⟩ : ∃ n, n = l.length := ⟨_, rfl⟩
  obtain ⟨n2, hn2⟩ : ∃ n, n = m.length := ⟨_, rfl⟩
  have HR : Hid (r = true ↔ l = m) := hr
  have HN : Hid (n1 = l.length ∧ n2 = m.length) := ⟨hn1, hn2⟩
  have HI : Hid (∀ X, w.grownBy X none → ItsAt X a1 l ∧ ItsAt X a2 m) := fun X hX => ⟨h1.kept hX, h2.kept hX⟩
  rw [← hn1] at hb
  rw [← hn2] at hb2
  rw [← hn1, ← hn2]
  have hgu := guard_item
  clear hr hn1 hn2 h1 h2
  by_cases hne : n1 = n2
  · subst hne
    have hd : ((n1 : Int) != (n1 : Int)) = false := bne_self_eq_false _
    go_enter Tryz.func61, Tryz.ntmps61
    go_wp2_with fail
    go_loopg [13] n1 (fun gk v13 wr => ∃ j : Nat, j ≤ n1 ∧ gk = n1 - j ∧ v13 = .int .i64 j ∧ w.grownBy wr none ∧ ∀ i, i < j → l.getD i (0, 0) = m.getD i (0, 0))
    case atStart => exact ⟨0, Nat.zero_le _, rfl, rfl, grown_refl _ _, fun i hi => absurd hi (Nat.not_lt_zero _)⟩
    case round =>
      obtain ⟨j, hj, hgj, rfl, hg, hs⟩ := hrel
      have HGJ : Hid (gk = n1 - j) := hgj
      have HG : Hid (w.grownBy wr none) := hg
      have HS : Hid (∀ i, i < j → l.getD i (0, 0) = m.getD i (0, 0)) := hs
      clear hgj hg hs
      by_cases hlt : j < n1
      · have hj0 : (0 : Int) ≤ (j : Int) := by omega
        have hj1 : (j : Int) < (n1 : Int) := by omega
        have hjd : decide (j < n1) = true := decide_eq_true hlt
        obtain ⟨b1, o1, rfl, c0, c1'⟩ := (HI.out wr HG.out).1.at (i := j) (by rw [← HN.out.1]; exact hlt)
        obtain ⟨b2, o2, rfl, d0, d1⟩ := (HI.out wr HG.out).2.at (i := j) (by rw [← HN.out.2]; exact hlt)
        obtain ⟨x, hx⟩ : ∃ x, x = l.getD j (0, 0) := ⟨_, rfl⟩
        obtain ⟨y, hy⟩ : ∃ y, y = m.getD j (0, 0) := ⟨_, rfl⟩
        have HXY : Hid (x = l.getD j (0, 0) ∧ y = m.getD j (0, 0)) := ⟨hx, hy⟩
        rw [← hx] at c0 c1'
        rw [← hy] at d0 d1
        clear hx hy
        obtain ⟨xp, xd⟩ := x
        obtain ⟨yp, yd⟩ := y
        simp only at c0 c1' d0 d1
        obtain ⟨bb, hbb⟩ : ∃ b, b = (xp == yp && xd == yd) := ⟨_, rfl⟩
        have HBB : Hid (bb = true ↔ l.getD j (0, 0) = m.getD j (0, 0)) := by
          rw [← HXY.out.1, ← HXY.out.2, hbb, Bool.and_eq_true, beq_iff_eq, beq_iff_eq]
          exact ⟨fun h => Prod.ext h.1 h.2, fun h => ⟨congrArg Prod.fst h, congrArg Prod.snd h⟩⟩
        have hE : ∀ X : World, (binOp .neq 68 (.agg #[.int .i64 xp, .int .i64 xd]) (.agg #[.int .i64 yp, .int .i64 yd])).run Tryz.prog X = .ok (.bool (!bb)) X := fun X => by rw [hbb]; exact neq_item xp xd yp yd X
        clear hbb
        cases bb with
        | true =>
          have HEQ : Hid (l.getD j (0, 0) = m.getD j (0, 0)) := HBB.out.1 rfl
          clear HBB
          go_wp2_with fail
          go_quiet (fail)
          go_wp2_with fail
          go_roundg (n1 - (j + 1))
          case measure => have := HGJ.out; omega
          case rel => exact ⟨j + 1, by omega, rfl, by go_num, grown_trans HG.out (grown_drewN _ _), fun i hi => by
            by_cases e : i = j
            · rw [e]; exact HEQ.out
            · exact HS.out i (by omega)⟩
        | false =>
          have HRF : Hid (r = false) := by
            show _ = _
            cases hrr : r with
            | false => rfl
            | true =>
              have := HR.out.1 hrr
              rw [this] at HBB
              exact absurd (HBB.out.2 rfl) (by decide)
          go_wp2_with fail
          go_quiet (fail)
          go_wp2_with fail
          go_ret
          exact ⟨by rw [HRF.out]; rfl, grown_trans HG.out (grown_drewN _ _)⟩
      · have hjn : n1 = j := by omega
        subst hjn
        have hjd : decide (n1 < n1) = false := decide_eq_false (by omega)
        have HRT : Hid (r = true) := HR.out.2 (by
          apply List.ext_getElem (by rw [← HN.out.1, ← HN.out.2])
          intro i q1 q2
          have h3 := HS.out i (by rw [HN.out.1]; exact q1)
          rwa [List.getD_eq_getElem?_getD, List.getD_eq_getElem?_getD, List.getElem?_eq_getElem q1, List.getElem?_eq_getElem q2] at h3)
        go_wp2_with fail
        go_ret
        exact ⟨by rw [HRT.out]; rfl, HG.out⟩
  · have hd : ((n1 : Int) != (n2 : Int)) = true := bne_iff_ne.2 (by omega)
    have HRF : Hid (r = false) := by
      show _ = _
      cases hrr : r with
      | false => rfl
      | true =>
        have h3 := HR.out.1 hrr
        exact absurd (by rw [HN.out.1, HN.out.2, h3]) hne
    go_enter Tryz.func61, Tryz.ntmps61
    go_wp2_with fail
    go_ret
    exact ⟨by rw [HRF.out]; rfl, grown_refl _ _⟩

end Go.Proofs.YtckgjolaoifgkaaGreat.J

/-
  lr0: kernels, walked.
-/
namespace Go.Proofs.YtckgjolaoifgkaaGreat.J
open Go.RowKit Go.Maps Go.Shelf

attribute [local go_sem] Oper.semAt_some

theorem infoItems : (Tryz.prog.info? 69).map (fun i => (i.zero, i.size, i.bytes)) = some (some (.slice none 0 0), 1, 24) := by kernel_rfl

/-- What kernels tells. -/
def KerTold (tn n S : Nat) (L : Nat → Int) (R : Nat → List Int) (I : List It) (w : World) (e : Ending) (y : World) : Prop := ∃ (l : List It) (rb : Nat) (ua : Nat → Option Addr) (uc : Nat → Nat), IsClo tn n L R I l ∧ l.length ≤ I.length + 13000 ∧ e = .returned (.slice (some ⟨rb, 0, none⟩) S S) ∧ w.heap.size ≤ rb ∧ ValAt y rb S 69 (fun s => .slice (ua s) (kerT R l (s : Int)).length (uc s)) ∧ (∀ s, s < S → y.ownsRow w.heap.size 68 2 (.slice (ua s) (kerT R l (s : Int)).length (uc s)) (kerT R l (s : Int)).length (itsV (kerT R l (s : Int)))) ∧ w.grownBy y none

set_option maxRecDepth 100000 in
set_option maxHeartbeats 4000000 in
theorem kernels_any (ta na la pa : Option Addr) (tc nc lc pc : Nat) (n : Nat) (L : Nat → Int) (R : Nat → List Int) (ra : Nat → Option Addr) (rc : Nat → Nat) (V : Nat → Int) (st : Int) (w : World) (tn nn ln : Nat) (hP : ProdsAt w pa n L R ra rc V) (hn : n ≤ 97) (hn0 : 0 < n) (htn : tn ≤ 65) (hnn : nn ≤ 65) (hR : ∀ k, k < n → ∀ x ∈ R k, (0 : Int) ≤ x ∧ x < ((tn + nn : Nat) : Int)) (hLr : ∀ k, k < n → (0 : Int) ≤ L k ∧ L k < ((tn + nn : Nat) : Int)) (hRb : ∀ k, k < n → (R k).length ≤ 17592186044416) (a : Option Addr) (cap : Nat) (I : List It) (hI : ItsAt w a I) (hnil : a = none → I.length = 0 ∧ cap = 0) (hIb : I.length ≤ 8796093072208) (hit : ∀ x ∈ I, itB n R x = true) :
    Calls Tryz.prog 62 #[.agg #[.slice ta tn tc, .slice na nn nc, .slice la ln lc, .int .i64 st, .slice pa n pc], .slice a I.length cap] w fun e y => KerTold tn n (tn + nn) L R I w e y := by
  obtain ⟨S, hS⟩ : ∃ S, S = tn + nn := ⟨_, rfl⟩
  rw [← hS]
  have hSz : S ≤ 130 := by omega
  have HSY : Hid (∀ X, Calls Tryz.prog 73 #[.agg #[.slice ta tn tc, .slice na nn nc, .slice la ln lc, .int .i64 st, .slice pa n pc]] X fun e y => e = .returned (.int .i64 (S : Int)) ∧ X.grownBy y none) := fun X => by
    refine (symbols_any ta na la pa tc nc lc pc n st X tn nn ln (by omega) (by omega)).mono ?_
    rintro e y ⟨rfl, hg⟩
    exact ⟨by rw [hS, Int.natCast_add], hg⟩
  have HAH : Hid (∀ X x, w.grownBy X none → itB n R x = true → Calls Tryz.prog 75 #[.agg #[.slice ta tn tc, .slice na nn nc, .slice la ln lc, .int .i64 st, .slice pa n pc], .agg #[.int .i64 x.1, .int .i64 x.2]] X fun e y => e = .returned (.int .i64 (aheadV R x)) ∧ X.grownBy y none) := fun X x hX hx => ahead_any ta na la pa tc nc lc pc n L R ra rc V st X tn nn ln (prods_kept hP hX) x hx
  have HCL : Hid (∀ X, w.grownBy X none → Calls Tryz.prog 74 #[.agg #[.slice ta tn tc, .slice na nn nc, .slice la ln lc, .int .i64 st, .slice pa n pc], .slice a I.length cap] X fun e y => CloTold tn n L R I X e y) := fun X hX => closure_any ta na la pa tc nc lc pc n L R ra rc V st X tn nn ln (prods_kept hP hX) hn hn0 htn hnn hR hLr a cap I (hI.kept hX) hnil hIb hit
  have HAR : Hid (∀ x, itB n R x = true → aheadV R x = -1 ∨ ((0 : Int) ≤ aheadV R x ∧ aheadV R x < (S : Int))) := fun x hx => aheadV_range (by rw [hS]; exact hR) hx
  have HIT : Hid (∀ x ∈ I, itB n R x = true) := hit
  have HRB : Hid (∀ x, itB n R x = true → (0 : Int) ≤ x.2 ∧ x.2 ≤ 17592186044416) := fun x hx => by
    unfold itB at hx
    simp only [Bool.and_eq_true, decide_eq_true_eq] at hx
    have := hRb x.1.toNat (by omega)
    omega
  obtain ⟨ll, hle⟩ : ∃ m, m = I.length := ⟨_, rfl⟩
  have HLE : Hid (ll = I.length) := hle
  rw [← hle] at hIb HCL
  rw [← hle]
  have HX0 : Hid (PhAt w (w.alloc (.cells #[.slice ta tn tc, .slice na nn nc, .slice la ln lc, .int .i64 st, .slice pa n pc] 27)) w.heap.size #[.slice ta tn tc, .slice na nn nc, .slice la ln lc, .int .i64 st, .slice pa n pc]) := ⟨World.grownBy_alloc _ _ none, heap_alloc_last w _⟩
  obtain ⟨i0, hi0, hz0, hz1, hz2⟩ := info_parts infoItem
  obtain ⟨i1, hi1, hy0, hy1, hy2⟩ := info_parts infoItems
  clear hP hR hLr hI hit hle hS hnil hRb
  go_enter Tryz.func62, Tryz.ntmps62
  go_wp2_with fail
  refine Calls.mono (HSY.out _) ?_
  rintro e w1 ⟨rfl, hg1⟩
  have HX1 : Hid (PhAt w w1 w.heap.size #[.slice ta tn tc, .slice na nn nc, .slice la ln lc, .int .i64 st, .slice pa n pc]) := HX0.out.kept hg1
  clear hg1 HX0
  go_wp2_with (at_make; refine wpList_make_full _ rfl _ _ 104 rfl w1.heap.size 69 i1 (.slice none 0 0) 1 Tryz.underlying104 hi1 hy0 hy1 .i64 .i64 _ _ S rfl rfl (by simp) (by simp) (by rw [hy2]; omega) (by unfold maxLen; omega) (by simp) ?_)
  intro w2 hown hgrow
  have hval : ValAt w2 w1.heap.size S 69 (fun _ => .slice none 0 0) := made_rowK (B := w1.heap.size) rfl (by simpa [Value.cells] using hown)
  obtain ⟨rb, hrb⟩ : ∃ rb, rb = w1.heap.size := ⟨_, rfl⟩
  rw [← hrb] at hval
  rw [← hrb]
  have HX2 : Hid (PhAt w w2 w.heap.size #[.slice ta tn tc, .slice na nn nc, .slice la ln lc, .int .i64 st, .slice pa n pc]) := HX1.out.kept hgrow
  have HV2 : Hid (ValAt w2 rb S 69 (fun _ => .slice none 0 0)) := hval
  have HRL : Hid (w.heap.size < rb) := by show _ < _; have := (Array.getElem?_eq_some_iff.1 HX1.out.box).1; omega
  clear hown hgrow hval hrb HX1
  obtain ⟨k0, k1, k2, k3, k4⟩ := HX2.out.cells
  go_wp2_with fail
  refine Calls.mono (HCL.out _ HX2.out.grown) ?_
  rintro e P ⟨l, hIC, hll, a3, c3, rfl, ho3, hg3⟩
  have HIC : Hid (IsClo tn n L R I l) := hIC
  have HLL : Hid (l.length ≤ ll + 13000) := by rw [HLE.out]; exact hll
  have HO3 : Hid (P.ownsRow w2.heap.size 68 2 (.slice a3 l.length c3) l.length (itsV l)) := ho3
  have HVP : Hid (ValAt P rb S 69 (fun _ => .slice none 0 0)) := HV2.out.kept hg3
  have HK0 : Hid (KnAt w P P #[.slice ta tn tc, .slice na nn nc, .slice la ln lc, .int .i64 st, .slice pa n pc] rb S (fun s => kerT R (l.take 0) (s : Int)) (fun _ => none) (fun _ => 0)) := by
    refine ⟨grown_trans HX2.out.grown hg3, ⟨rfl, rfl, rfl, Nat.le_refl _, fun _ _ _ => rfl⟩, box_kept HX2.out.box hg3, HVP.out, fun s hs => World.ownsRow_nil _ _ _ _, fun s t _ _ _ => .inl rfl, HRL.out, HVP.out.lt⟩
  have HIM : Hid (∀ x ∈ l, itB n R x = true) := fun x hx => ((hIC.mem x).1 hx).item HIT.out
  obtain ⟨lm, hlm⟩ : ∃ m, m = l.length := ⟨_, rfl⟩
  have HLM : Hid (lm = l.length) := hlm
  rw [← hlm] at HO3 HLL
  rw [← hlm]
  have hlmb : lm ≤ 8796093085208 := by have := HLL.out; omega
  clear hIC hll ho3 hg3 hlm k0 k1 k2 k3 k4 HX2 HV2 HCL
  go_wp2_with fail
  go_loopg [16] lm (fun gk v16 wr => ∃ (k : Nat) (ua : Nat → Option Addr) (uc : Nat → Nat), k ≤ lm ∧ gk = lm - k ∧ v16 = .int .i64 k ∧ KnAt w P wr #[.slice ta tn tc, .slice na nn nc, .slice la ln lc, .int .i64 st, .slice pa n pc] rb S (fun s => kerT R (l.take k) (s : Int)) ua uc)
  case atStart => exact ⟨0, _, _, Nat.zero_le _, rfl, rfl, HK0.out⟩
  case round =>
    obtain ⟨k, ua, uc, hk, hgk, rfl, hK⟩ := hrel
    have HGK : Hid (gk = lm - k) := hgk
    have HK : Hid (KnAt w P wr #[.slice ta tn tc, .slice na nn nc, .slice la ln lc, .int .i64 st, .slice pa n pc] rb S (fun s => kerT R (l.take k) (s : Int)) ua uc) := hK
    clear hgk hK HK0
    by_cases hlt : k < lm
    · have hk0 : (0 : Int) ≤ (k : Int) := by omega
      have hk1 : (k : Int) < (lm : Int) := by omega
      have hkd : decide (k < lm) = true := decide_eq_true hlt
      have hkl : k < l.length := by rw [← HLM.out]; exact hlt
      obtain ⟨gb, rfl, c0, c1⟩ : ∃ gb, a3 = some ⟨gb, 0, none⟩ ∧ wr.cell? ⟨gb, k * 2, none⟩ = some (.int .i64 (l.getD k (0, 0)).1) ∧ wr.cell? ⟨gb, k * 2 + 1, none⟩ = some (.int .i64 (l.getD k (0, 0)).2) := by
        have ho := HK.out.lst HO3.out ⟨_, HVP.out⟩
        rcases ho.2 with ⟨_, h⟩ | ⟨g, cap, cur, hv, hB, hh, _, _, hs, ht⟩
        · omega
        · simp only [Value.slice.injEq] at hv
          refine ⟨g, hv.1, ?_⟩
          obtain ⟨h3, h4⟩ := itsV_at l k hkl
          rw [← ht, List.getElem?_take, if_pos (by omega)] at h3 h4
          rw [cell_of_row _ _ _ _ _ _ hh, cell_of_row _ _ _ _ _ _ hh]
          exact ⟨by simpa using h3, by simpa using h4⟩
      have hmem : l.getD k (0, 0) ∈ l := by rw [List.getD_eq_getElem?_getD, List.getElem?_eq_getElem hkl]; exact List.getElem_mem hkl
      have hxi := HIM.out _ hmem
      have hrg := HAR.out _ hxi
      have hdb := HRB.out _ hxi
      have HTK : Hid (∀ s : Int, kerT R (l.take (k + 1)) s = kerT R (l.take k) s ++ (if aheadV R (l.getD k (0, 0)) = s then [((l.getD k (0, 0)).1, (l.getD k (0, 0)).2 + 1)] else [])) := fun s => by rw [take_at hkl, kerT_append, kerT_one]
      have HAC : Hid (∀ X, wr.grownBy X none → Calls Tryz.prog 75 #[.agg #[.slice ta tn tc, .slice na nn nc, .slice la ln lc, .int .i64 st, .slice pa n pc], .agg #[.int .i64 (l.getD k (0, 0)).1, .int .i64 (l.getD k (0, 0)).2]] X fun e y => e = .returned (.int .i64 (aheadV R (l.getD k (0, 0)))) ∧ X.grownBy y none) := fun X hX => HAH.out X _ (grown_trans HK.out.grown hX) hxi
      obtain ⟨sv, hsv⟩ : ∃ s, s = aheadV R (l.getD k (0, 0)) := ⟨_, rfl⟩
      rw [← hsv] at HAC hrg HTK
      obtain ⟨x, hx⟩ : ∃ x, x = l.getD k (0, 0) := ⟨_, rfl⟩
      rw [← hx] at HAC c0 c1 HTK hdb
      clear hsv hx hxi hmem
      obtain ⟨p, d⟩ := x
      simp only at HAC c0 c1 HTK hdb
      obtain ⟨k0, k1, k2, k3, k4⟩ := (HK.out.kept (World.grownBy_alloc wr (.cells #[.int .i64 p, .int .i64 d] 68) none)).ph.cells
      go_wp2_with fail
      refine Calls.mono (HAC.out _ (World.grownBy_alloc _ _ none)) ?_
      rintro e w5 ⟨rfl, hg5⟩
      have HG5 : Hid (wr.grownBy w5 none) := grown_trans (World.grownBy_alloc _ _ none) hg5
      have HBX : Hid (w5.heap[wr.heap.size]? = some (.cells #[.int .i64 p, .int .i64 d] 68 (0, 0))) := box_kept (heap_alloc_last wr _) hg5
      have HK5 : Hid (KnAt w P w5 #[.slice ta tn tc, .slice na nn nc, .slice la ln lc, .int .i64 st, .slice pa n pc] rb S (fun s => kerT R (l.take k) (s : Int)) ua uc) := HK.out.kept HG5.out
      clear hg5 k0 k1 k2 k3 k4 c0 c1 HAC
      by_cases hs1 : sv = -1
      · subst hs1
        have HNX : Hid (∀ s : Nat, kerT R (l.take (k + 1)) (s : Int) = kerT R (l.take k) (s : Int)) := fun s => by rw [HTK.out, if_neg (by omega), List.append_nil]
        go_wp2_with fail
        go_roundg (lm - (k + 1))
        case measure => have := HGK.out; omega
        case rel =>
          refine ⟨k + 1, ua, uc, by omega, rfl, by go_num, ?_⟩
          have e9 : (fun s : Nat => kerT R (l.take (k + 1)) (s : Int)) = fun s : Nat => kerT R (l.take k) (s : Int) := funext HNX.out
          rw [e9]; exact HK5.out
      · obtain ⟨s, rfl⟩ : ∃ s : Nat, sv = (s : Int) := ⟨sv.toNat, by omega⟩
        have hsS : s < S := by omega
        have hne : ((s : Int) != -1) = true := bne_iff_ne.2 (by omega)
        have hs0 : (0 : Int) ≤ (s : Int) := by omega
        have hsi : (s : Int) < (S : Int) := by omega
        obtain ⟨d2, hd2⟩ : ∃ d2 : Nat, d = (d2 : Int) := ⟨d.toNat, by omega⟩
        subst hd2
        have hd3 : d2 ≤ 17592186044416 := by omega
        have hwr : IntKind.i64.wrap ((d2 : Int) + 1) = (d2 : Int) + 1 := by rw [IntKind.wrap_i64]; omega
        obtain ⟨ks, hks⟩ : ∃ m, m = (kerT R (l.take k) (s : Int)).length := ⟨_, rfl⟩
        have HKS : Hid (ks = (kerT R (l.take k) (s : Int)).length) := hks
        have hksb : ks ≤ 8796093085208 := by
          have h1 := kerT_len R (l.take k) (s : Int)
          have h2 : (l.take k).length ≤ k := by rw [List.length_take]; omega
          omega
        obtain ⟨us, hus⟩ : ∃ m, m = ua s := ⟨_, rfl⟩
        obtain ⟨cs, hcs⟩ : ∃ m, m = uc s := ⟨_, rfl⟩
        have HRC : Hid (∀ X, w5.grownBy X none → X.cell? ⟨rb, s, none⟩ = some (.slice us ks cs) ∧ X.cell? ⟨wr.heap.size, 0, none⟩ = some (.int .i64 p) ∧ X.cell? ⟨wr.heap.size, 1, none⟩ = some (.int .i64 (d2 : Int))) := fun X hX => by
          refine ⟨?_, ?_, ?_⟩
          · rw [hks, hus, hcs]; exact (HK5.out.kept hX).row.cell s hsS
          · rw [cell_of_row _ _ _ _ _ _ (box_kept HBX.out hX)]; rfl
          · rw [cell_of_row _ _ _ _ _ _ (box_kept HBX.out hX)]; rfl
        have HOW : Hid (∀ X, w5.grownBy X none → X.ownsRow P.heap.size 68 2 (.slice us ks cs) ks (itsV (kerT R (l.take k) (s : Int)))) := fun X hX => by
          have := (HK5.out.kept hX).own s hsS
          rwa [← hks, ← hus, ← hcs] at this
        have HPS : Hid (∀ X, w5.grownBy X none → P.heap.size ≤ X.heap.size) := fun X hX => (HK5.out.kept hX).from_.size
        have HFIN : Hid (∀ (Y Z : World) (g c : Nat), w5.grownBy Y none → Y.grownBy Z (Value.slice us ks cs).ownBlock → Z.ownsRow P.heap.size 68 2 (.slice (some ⟨g, 0, none⟩) (ks + 1) c) (ks + 1) (itsV (kerT R (l.take k) (s : Int)) ++ [.int .i64 p, .int .i64 ((d2 : Int) + 1)]) → ((Value.slice us ks cs).ownBlock = some g ∨ g = Y.heap.size) →
            (∃ ua' uc', KnAt w P (Z.setCell ⟨rb, s, none⟩ (.slice (some ⟨g, 0, none⟩) (ks + 1) c)) #[.slice ta tn tc, .slice na nn nc, .slice la ln lc, .int .i64 st, .slice pa n pc] rb S (fun s => kerT R (l.take (k + 1)) (s : Int)) ua' uc') ∧ Z.cell? ⟨rb, s, none⟩ = some (.slice us ks cs) ∧ Z.frozen? ⟨rb, s, none⟩ = false) := fun Y Z g c hY hg ho hat => by
          rw [hks, hus, hcs] at hg hat
          rw [hks] at ho
          obtain ⟨q1, q2, q3⟩ := HK5.out.push (x := (p, (d2 : Int) + 1)) hsS hY hg ho hat
          refine ⟨⟨updL ua s (some ⟨g, 0, none⟩), updL uc s c, ?_⟩, by rw [hks, hus, hcs]; exact q2, q3⟩
          rw [← hks] at q1
          have e9 : updL (fun s : Nat => kerT R (l.take k) (s : Int)) s (kerT R (l.take k) (s : Int) ++ [(p, (d2 : Int) + 1)]) = fun s : Nat => kerT R (l.take (k + 1)) (s : Int) := funext fun t => by
            rw [HTK.out]
            by_cases e : t = s
            · subst e; rw [updL_same, if_pos rfl]
            · rw [updL_other _ _ e, if_neg (by omega), List.append_nil]
          rw [e9] at q1
          exact q1
        obtain ⟨y0, y1, y2⟩ := HRC.out w5 (grown_refl _ _)
        have y3 : ∀ o, (w5.alloc o).cell? ⟨rb, s, none⟩ = some (.slice us ks cs) := fun o => (HRC.out _ (World.grownBy_alloc _ _ none)).1
        obtain ⟨xs, hxs⟩ : ∃ xs, xs = itsV (kerT R (l.take k) (s : Int)) := ⟨_, rfl⟩
        rw [← hxs] at HOW HFIN
        clear hus hcs hks hxs HTK hdb hrg
        go_wp2_with fail
        go_region_law (first
          | (refine step_append_liesW _ rfl (.tmp 30) (.tmp 37) 69 rfl P.heap.size 68 i0 (.agg #[.int .i64 0, .int .i64 0]) 2 16 Tryz.underlying69 hi0 hz0 hz1 hz2 rfl (by decide) (.slice us ks cs) ks xs (by simp [Act.eval]) (HOW.out _ (grown_trans (World.grownBy_alloc _ _ none) (grown_drewN _ 1))) ⟨w5.heap.size, 0, none⟩ 1 1 [.int .i64 p, .int .i64 ((d2 : Int) + 1)] (by simp [Act.eval]) rfl (World.news_of_block (heap_alloc_last w5 _)) (by simp [Value.oneCell']) (by decide) (by unfold maxLen; omega) (by omega) (HPS.out _ (grown_trans (World.grownBy_alloc _ _ none) (grown_drewN _ 1))) ?_; intro g7 c7 wB hoB hgB hat; obtain ⟨q1, q2, q3⟩ := HFIN.out _ wB g7 c7 (grown_trans (World.grownBy_alloc _ _ none) (grown_drewN _ 1)) hgB hoB hat; have HQ1 := show Hid _ from q1; clear q1 hoB hgB hat)
          | fail)
        all_goals go_wp2_with fail
        all_goals go_roundg (lm - (k + 1))
        all_goals first
          | exact (show ∃ (k' : Nat) (ua' : Nat → Option Addr) (uc' : Nat → Nat), _ from (by obtain ⟨ua', uc', h9⟩ := HQ1.out; exact ⟨k + 1, ua', uc', by omega, rfl, by go_num, h9⟩))
          | (have := HGK.out; omega)
    · have hkn : lm = k := by omega
      subst hkn
      have hkd : decide (lm < lm) = false := decide_eq_false (by omega)
      have HTL : Hid (l.take lm = l) := by show _ = _; rw [HLM.out]; exact List.take_length
      rw [HTL.out] at HK
      go_wp2_with fail
      go_ret
      exact ⟨l, rb, ua, uc, HIC.out, by rw [← HLM.out, ← HLE.out]; exact HLL.out, rfl, by have := HRL.out; omega, HK.out.row, fun s hs => by
        have h1 := HK.out.own s hs
        refine ⟨h1.1, ?_⟩
        rcases h1.2 with h | ⟨g, cap, cur, hv, hB, hr⟩
        · exact .inl h
        · exact .inr ⟨g, cap, cur, hv, by have h2 := HK.out.lo; omega, hr⟩, HK.out.grown⟩

end Go.Proofs.YtckgjolaoifgkaaGreat.J

/-
  lr0: Closure and Goto.
-/
namespace Go.Proofs.YtckgjolaoifgkaaGreat.J
open Go.RowKit Go.Maps Go.Shelf

attribute [local go_sem] Oper.semAt_some

structure MayOK (tn nn n : Nat) (st : Int) (L : Nat → Int) (R : Nat → List Int) (cl : Bool) : Prop where
  t0 : 0 < tn
  tmax : tn ≤ 65
  n0 : 0 < nn
  nmax : nn ≤ 65
  pmax : n ≤ 97
  p0 : 0 < n
  left : ∀ k, k < n → (tn : Int) ≤ L k ∧ L k < ((tn + nn : Nat) : Int)
  right : ∀ k, k < n → ∀ x ∈ R k, (0 : Int) < x ∧ x < ((tn + nn : Nat) : Int)
  start : (tn : Int) ≤ st ∧ st < ((tn + nn : Nat) : Int)
  added : cl = true → L 0 = tn ∧ R 0 = [st]

theorem mayOK_closed {ts : List (ByteArray × Int)} {ns : List ByteArray} {lv : List Int} {st : Int} {n : Nat} {L : Nat → Int} {R : Nat → List Int} {V : Nat → Int} (h : closedOK ts ns lv st n L R V) : MayOK ts.length ns.length n st L R true := by
  obtain ⟨ha, hf⟩ := h
  have hs := hf.start
  unfold isNonI at hs
  refine ⟨hf.terms.1.1, hf.tn, ha.nn, by have := hf.nn; omega, by have := hf.pn; omega, ha.pn, fun k hk => ?_, fun k hk x hx => ?_, by omega, fun _ => ⟨ha.left, ha.right⟩⟩
  · by_cases h0 : k = 0
    · subst h0
      have := ha.left
      have := ha.nn
      omega
    · have := (hf.prods k (by omega) hk).1
      unfold isNonI at this
      omega
  · by_cases h0 : k = 0
    · subst h0
      rw [ha.right] at hx
      simp at hx
      have := hf.terms.1.1
      omega
    · have := (hf.prods k (by omega) hk).2.2 x hx
      unfold isSymI isNonI at this
      have := hf.terms.1.1
      omega

theorem gright {w : World} {pa : Option Addr} {n : Nat} {L : Nat → Int} {R : Nat → List Int} {ra : Nat → Option Addr} {rc : Nat → Nat} {V : Nat → Int} (h : ProdsAt w pa n L R ra rc V) : ∀ k, k < n → (R k).length ≤ 17592186044416 := fun k hk => by
  rcases h with h | ⟨b, off, e, h⟩
  · omega
  · exact (h k hk).2.2.2.2.2

/-- Is x one of S symbols? -/
def symB (S : Nat) (x : Int) : Bool := decide (0 ≤ x) && decide (x < (S : Int))
/-- The answer of Closure and of Goto: a list of items and an error's number. -/
def ItsErr (l : List It) (ec : Int) (w : World) (e : Ending) (y : World) : Prop := ∃ (a : Option Addr) (c : Nat), e = .returned (.tuple #[.slice a l.length c, .int .i64 ec]) ∧ y.ownsRow w.heap.size 68 2 (.slice a l.length c) l.length (itsV l) ∧ w.grownBy y none

section
variable (ta na la pa : Option Addr) (tc nc lc pc : Nat) (ts : List (ByteArray × Int)) (ns : List ByteArray) (lv : List Int) (n : Nat) (L : Nat → Int) (R : Nat → List Int) (ra : Nat → Option Addr) (rc : Nat → Nat) (V : Nat → Int) (st : Int) (w : World) (tn nn ln : Nat) (hlen : ts.length = tn ∧ ns.length = nn ∧ lv.length = ln) (hG : GAt w ta na la pa tc nc lc pc ts ns lv n L R ra rc V) (a : Option Addr) (cap : Nat) (I : List It) (hI : ItsAt w a I)
include hlen hG hI
end

end Go.Proofs.YtckgjolaoifgkaaGreat.J

/-
  lr0: the law's small grammar.
-/
namespace Go.Proofs.YtckgjolaoifgkaaGreat.J
open Go.RowKit Go.Maps Go.Shelf

attribute [local go_sem] Oper.semAt_some

def kTs : List (ByteArray × Int) := [(⟨#[]⟩, 0), (⟨#[43]⟩, 0), (⟨#[110]⟩, 0)]
def kNs : List ByteArray := [⟨#[]⟩, ⟨#[101]⟩]
def kL (i : Nat) : Int := if i = 0 then 3 else 4
def kR (i : Nat) : List Int := if i = 0 then [4] else if i = 1 then [4, 1, 2] else [2]

theorem boxKept {X Y : World} {b : Nat} {o : Obj} (h : X.heap[b]? = some o) (hg : X.grownBy Y none) : Hid (Y.heap[b]? = some o) := box_kept h hg

theorem k_gat {Z : World} {b1 b2 b3 b4 b5 b6 : Nat} (h1 : Z.heap[b1]? = some (.cells #[.string ⟨#[]⟩, .int .i64 0, .string ⟨#[43]⟩, .int .i64 0, .string ⟨#[110]⟩, .int .i64 0] 63 (0, 0))) (h2 : Z.heap[b2]? = some (.cells #[.string ⟨#[]⟩, .string ⟨#[101]⟩] 9 (0, 0))) (h3 : Z.heap[b3]? = some (.cells #[.int .i64 4] 3 (0, 0))) (h4 : Z.heap[b4]? = some (.cells #[.int .i64 4, .int .i64 1, .int .i64 2] 3 (0, 0))) (h5 : Z.heap[b5]? = some (.cells #[.int .i64 2] 3 (0, 0))) (h6 : Z.heap[b6]? = some (.cells #[.int .i64 3, .slice (some ⟨b3, 0, none⟩) 1 1, .int .i64 0, .int .i64 4, .slice (some ⟨b4, 0, none⟩) 3 3, .int .i64 0, .int .i64 4, .slice (some ⟨b5, 0, none⟩) 1 1, .int .i64 0] 46 (0, 0))) :
    ∃ ra rc, GAt Z (some ⟨b1, 0, none⟩) (some ⟨b2, 0, none⟩) none (some ⟨b6, 0, none⟩) 3 2 0 3 kTs kNs [] 3 kL kR ra rc (fun _ => 0) := by
  refine ⟨fun i => if i = 0 then some ⟨b3, 0, none⟩ else if i = 1 then some ⟨b4, 0, none⟩ else some ⟨b5, 0, none⟩, fun i => if i = 1 then 3 else 1, .inr ⟨_, 0, rfl, fun i hi => ?_⟩, .inr ⟨_, 0, rfl, fun i hi => ?_⟩, .inl rfl, .inr ⟨_, 0, rfl, fun k hk => ?_⟩, by decide, by decide, by decide, (fun h => by cases h), (fun h => by cases h), by decide, by decide, by decide, by decide⟩
  · have h2 : i = 0 ∨ i = 1 ∨ i = 2 := by simp [kTs] at hi; omega
    rcases h2 with rfl | rfl | rfl <;> exact ⟨by rw [cell_of_row _ _ _ _ _ _ h1]; rfl, by rw [cell_of_row _ _ _ _ _ _ h1]; rfl⟩
  · have h3 : i = 0 ∨ i = 1 := by simp [kNs] at hi; omega
    rcases h3 with rfl | rfl <;> (rw [cell_of_row _ _ _ _ _ _ h2]; rfl)
  · have h7 : k = 0 ∨ k = 1 ∨ k = 2 := by omega
    rcases h7 with rfl | rfl | rfl
    · refine ⟨by rw [cell_of_row _ _ _ _ _ _ h6]; rfl, by rw [cell_of_row _ _ _ _ _ _ h6]; rfl, by rw [cell_of_row _ _ _ _ _ _ h6]; rfl, .inr ⟨b3, 0, rfl, fun i hi => ?_⟩, (fun h => by cases h), by decide⟩
      have h8 : i = 0 := by simp [kR] at hi; omega
      subst h8
      rw [cell_of_row _ _ _ _ _ _ h3]; rfl
    · refine ⟨by rw [cell_of_row _ _ _ _ _ _ h6]; rfl, by rw [cell_of_row _ _ _ _ _ _ h6]; rfl, by rw [cell_of_row _ _ _ _ _ _ h6]; rfl, .inr ⟨b4, 0, rfl, fun i hi => ?_⟩, (fun h => by cases h), by decide⟩
      have h8 : i = 0 ∨ i = 1 ∨ i = 2 := by simp [kR] at hi; omega
      rcases h8 with rfl | rfl | rfl <;> (rw [cell_of_row _ _ _ _ _ _ h4]; rfl)
    · refine ⟨by rw [cell_of_row _ _ _ _ _ _ h6]; rfl, by rw [cell_of_row _ _ _ _ _ _ h6]; rfl, by rw [cell_of_row _ _ _ _ _ _ h6]; rfl, .inr ⟨b5, 0, rfl, fun i hi => ?_⟩, (fun h => by cases h), by decide⟩
      have h8 : i = 0 := by simp [kR] at hi; omega
      subst h8
      rw [cell_of_row _ _ _ _ _ _ h5]; rfl

theorem infoGramK : (Tryz.prog.info? 27).map (·.size) = some 5 := by kernel_rfl

/-- The blocks of the small grammar, one behind the other. -/
theorem k_chain (w : World) (cs : Array Value) : ((((((((w.alloc (.cells cs 27)).alloc (.cells #[.string ⟨#[]⟩, .int .i64 0, .string ⟨#[43]⟩, .int .i64 0, .string ⟨#[110]⟩, .int .i64 0] 63)).alloc (.cells #[.string ⟨#[]⟩, .string ⟨#[101]⟩] 9)).alloc (.cells #[.int .i64 4] 3)).alloc (.cells #[.int .i64 4, .int .i64 1, .int .i64 2] 3)).alloc (.cells #[.int .i64 2] 3)).alloc (.cells #[.int .i64 3, .slice (some ⟨w.heap.size + 1 + 1 + 1, 0, none⟩) 1 1, .int .i64 0, .int .i64 4, .slice (some ⟨w.heap.size + 1 + 1 + 1 + 1, 0, none⟩) 3 3, .int .i64 0, .int .i64 4, .slice (some ⟨w.heap.size + 1 + 1 + 1 + 1 + 1, 0, none⟩) 1 1, .int .i64 0] 46)).heap[w.heap.size]? = some (.cells cs 27 (0, 0)) ∧ (((((((w.alloc (.cells cs 27)).alloc (.cells #[.string ⟨#[]⟩, .int .i64 0, .string ⟨#[43]⟩, .int .i64 0, .string ⟨#[110]⟩, .int .i64 0] 63)).alloc (.cells #[.string ⟨#[]⟩, .string ⟨#[101]⟩] 9)).alloc (.cells #[.int .i64 4] 3)).alloc (.cells #[.int .i64 4, .int .i64 1, .int .i64 2] 3)).alloc (.cells #[.int .i64 2] 3)).alloc (.cells #[.int .i64 3, .slice (some ⟨w.heap.size + 1 + 1 + 1, 0, none⟩) 1 1, .int .i64 0, .int .i64 4, .slice (some ⟨w.heap.size + 1 + 1 + 1 + 1, 0, none⟩) 3 3, .int .i64 0, .int .i64 4, .slice (some ⟨w.heap.size + 1 + 1 + 1 + 1 + 1, 0, none⟩) 1 1, .int .i64 0] 46)).heap[w.heap.size + 1]? = some (.cells #[.string ⟨#[]⟩, .int .i64 0, .string ⟨#[43]⟩, .int .i64 0, .string ⟨#[110]⟩, .int .i64 0] 63 (0, 0)) ∧ (((((((w.alloc (.cells cs 27)).alloc (.cells #[.string ⟨#[]⟩, .int .i64 0, .string ⟨#[43]⟩, .int .i64 0, .string ⟨#[110]⟩, .int .i64 0] 63)).alloc (.cells #[.string ⟨#[]⟩, .string ⟨#[101]⟩] 9)).alloc (.cells #[.int .i64 4] 3)).alloc (.cells #[.int .i64 4, .int .i64 1, .int .i64 2] 3)).alloc (.cells #[.int .i64 2] 3)).alloc (.cells #[.int .i64 3, .slice (some ⟨w.heap.size + 1 + 1 + 1, 0, none⟩) 1 1, .int .i64 0, .int .i64 4, .slice (some ⟨w.heap.size + 1 + 1 + 1 + 1, 0, none⟩) 3 3, .int .i64 0, .int .i64 4, .slice (some ⟨w.heap.size + 1 + 1 + 1 + 1 + 1, 0, none⟩) 1 1, .int .i64 0] 46)).heap[w.heap.size + 1 + 1]? = some (.cells #[.string ⟨#[]⟩, .string ⟨#[101]⟩] 9 (0, 0)) ∧ (((((((w.alloc (.cells cs 27)).alloc (.cells #[.string ⟨#[]⟩, .int .i64 0, .string ⟨#[43]⟩, .int .i64 0, .string ⟨#[110]⟩, .int .i64 0] 63)).alloc (.cells #[.string ⟨#[]⟩, .string ⟨#[101]⟩] 9)).alloc (.cells #[.int .i64 4] 3)).alloc (.cells #[.int .i64 4, .int .i64 1, .int .i64 2] 3)).alloc (.cells #[.int .i64 2] 3)).alloc (.cells #[.int .i64 3, .slice (some ⟨w.heap.size + 1 + 1 + 1, 0, none⟩) 1 1, .int .i64 0, .int .i64 4, .slice (some ⟨w.heap.size + 1 + 1 + 1 + 1, 0, none⟩) 3 3, .int .i64 0, .int .i64 4, .slice (some ⟨w.heap.size + 1 + 1 + 1 + 1 + 1, 0, none⟩) 1 1, .int .i64 0] 46)).heap[w.heap.size + 1 + 1 + 1]? = some (.cells #[.int .i64 4] 3 (0, 0)) ∧ (((((((w.alloc (.cells cs 27)).alloc (.cells #[.string ⟨#[]⟩, .int .i64 0, .string ⟨#[43]⟩, .int .i64 0, .string ⟨#[110]⟩, .int .i64 0] 63)).alloc (.cells #[.string ⟨#[]⟩, .string ⟨#[101]⟩] 9)).alloc (.cells #[.int .i64 4] 3)).alloc (.cells #[.int .i64 4, .int .i64 1, .int .i64 2] 3)).alloc (.cells #[.int .i64 2] 3)).alloc (.cells #[.int .i64 3, .slice (some ⟨w.heap.size + 1 + 1 + 1, 0, none⟩) 1 1, .int .i64 0, .int .i64 4, .slice (some ⟨w.heap.size + 1 + 1 + 1 + 1, 0, none⟩) 3 3, .int .i64 0, .int .i64 4, .slice (some ⟨w.heap.size + 1 + 1 + 1 + 1 + 1, 0, none⟩) 1 1, .int .i64 0] 46)).heap[w.heap.size + 1 + 1 + 1 + 1]? = some (.cells #[.int .i64 4, .int .i64 1, .int .i64 2] 3 (0, 0)) ∧ (((((((w.alloc (.cells cs 27)).alloc (.cells #[.string ⟨#[]⟩, .int .i64 0, .string ⟨#[43]⟩, .int .i64 0, .string ⟨#[110]⟩, .int .i64 0] 63)).alloc (.cells #[.string ⟨#[]⟩, .string ⟨#[101]⟩] 9)).alloc (.cells #[.int .i64 4] 3)).alloc (.cells #[.int .i64 4, .int .i64 1, .int .i64 2] 3)).alloc (.cells #[.int .i64 2] 3)).alloc (.cells #[.int .i64 3, .slice (some ⟨w.heap.size + 1 + 1 + 1, 0, none⟩) 1 1, .int .i64 0, .int .i64 4, .slice (some ⟨w.heap.size + 1 + 1 + 1 + 1, 0, none⟩) 3 3, .int .i64 0, .int .i64 4, .slice (some ⟨w.heap.size + 1 + 1 + 1 + 1 + 1, 0, none⟩) 1 1, .int .i64 0] 46)).heap[w.heap.size + 1 + 1 + 1 + 1 + 1]? = some (.cells #[.int .i64 2] 3 (0, 0)) ∧ (((((((w.alloc (.cells cs 27)).alloc (.cells #[.string ⟨#[]⟩, .int .i64 0, .string ⟨#[43]⟩, .int .i64 0, .string ⟨#[110]⟩, .int .i64 0] 63)).alloc (.cells #[.string ⟨#[]⟩, .string ⟨#[101]⟩] 9)).alloc (.cells #[.int .i64 4] 3)).alloc (.cells #[.int .i64 4, .int .i64 1, .int .i64 2] 3)).alloc (.cells #[.int .i64 2] 3)).alloc (.cells #[.int .i64 3, .slice (some ⟨w.heap.size + 1 + 1 + 1, 0, none⟩) 1 1, .int .i64 0, .int .i64 4, .slice (some ⟨w.heap.size + 1 + 1 + 1 + 1, 0, none⟩) 3 3, .int .i64 0, .int .i64 4, .slice (some ⟨w.heap.size + 1 + 1 + 1 + 1 + 1, 0, none⟩) 1 1, .int .i64 0] 46)).heap[w.heap.size + 1 + 1 + 1 + 1 + 1 + 1]? = some (.cells #[.int .i64 3, .slice (some ⟨w.heap.size + 1 + 1 + 1, 0, none⟩) 1 1, .int .i64 0, .int .i64 4, .slice (some ⟨w.heap.size + 1 + 1 + 1 + 1, 0, none⟩) 3 3, .int .i64 0, .int .i64 4, .slice (some ⟨w.heap.size + 1 + 1 + 1 + 1 + 1, 0, none⟩) 1 1, .int .i64 0] 46 (0, 0))) ∧ w.grownBy (((((((w.alloc (.cells cs 27)).alloc (.cells #[.string ⟨#[]⟩, .int .i64 0, .string ⟨#[43]⟩, .int .i64 0, .string ⟨#[110]⟩, .int .i64 0] 63)).alloc (.cells #[.string ⟨#[]⟩, .string ⟨#[101]⟩] 9)).alloc (.cells #[.int .i64 4] 3)).alloc (.cells #[.int .i64 4, .int .i64 1, .int .i64 2] 3)).alloc (.cells #[.int .i64 2] 3)).alloc (.cells #[.int .i64 3, .slice (some ⟨w.heap.size + 1 + 1 + 1, 0, none⟩) 1 1, .int .i64 0, .int .i64 4, .slice (some ⟨w.heap.size + 1 + 1 + 1 + 1, 0, none⟩) 3 3, .int .i64 0, .int .i64 4, .slice (some ⟨w.heap.size + 1 + 1 + 1 + 1 + 1, 0, none⟩) 1 1, .int .i64 0] 46)) none := by
  have g0 := World.grownBy_alloc w (.cells cs 27) none
  have c0 := heap_alloc_last w (.cells cs 27)
  have g1 := World.grownBy_alloc (w.alloc (.cells cs 27)) (.cells #[.string ⟨#[]⟩, .int .i64 0, .string ⟨#[43]⟩, .int .i64 0, .string ⟨#[110]⟩, .int .i64 0] 63) none
  have c1 := heap_alloc_last (w.alloc (.cells cs 27)) (.cells #[.string ⟨#[]⟩, .int .i64 0, .string ⟨#[43]⟩, .int .i64 0, .string ⟨#[110]⟩, .int .i64 0] 63)
  rw [World.size_alloc] at c1
  have g2 := World.grownBy_alloc ((w.alloc (.cells cs 27)).alloc (.cells #[.string ⟨#[]⟩, .int .i64 0, .string ⟨#[43]⟩, .int .i64 0, .string ⟨#[110]⟩, .int .i64 0] 63)) (.cells #[.string ⟨#[]⟩, .string ⟨#[101]⟩] 9) none
  have c2 := heap_alloc_last ((w.alloc (.cells cs 27)).alloc (.cells #[.string ⟨#[]⟩, .int .i64 0, .string ⟨#[43]⟩, .int .i64 0, .string ⟨#[110]⟩, .int .i64 0] 63)) (.cells #[.string ⟨#[]⟩, .string ⟨#[101]⟩] 9)
  rw [World.size_alloc, World.size_alloc] at c2
  have g3 := World.grownBy_alloc (((w.alloc (.cells cs 27)).alloc (.cells #[.string ⟨#[]⟩, .int .i64 0, .string ⟨#[43]⟩, .int .i64 0, .string ⟨#[110]⟩, .int .i64 0] 63)).alloc (.cells #[.string ⟨#[]⟩, .string ⟨#[101]⟩] 9)) (.cells #[.int .i64 4] 3) none
  have c3 := heap_alloc_last (((w.alloc (.cells cs 27)).alloc (.cells #[.string ⟨#[]⟩, .int .i64 0, .string ⟨#[43]⟩, .int .i64 0, .string ⟨#[110]⟩, .int .i64 0] 63)).alloc (.cells #[.string ⟨#[]⟩, .string ⟨#[101]⟩] 9)) (.cells #[.int .i64 4] 3)
  rw [World.size_alloc, World.size_alloc, World.size_alloc] at c3
  have g4 := World.grownBy_alloc ((((w.alloc (.cells cs 27)).alloc (.cells #[.string ⟨#[]⟩, .int .i64 0, .string ⟨#[43]⟩, .int .i64 0, .string ⟨#[110]⟩, .int .i64 0] 63)).alloc (.cells #[.string ⟨#[]⟩, .string ⟨#[101]⟩] 9)).alloc (.cells #[.int .i64 4] 3)) (.cells #[.int .i64 4, .int .i64 1, .int .i64 2] 3) none
  have c4 := heap_alloc_last ((((w.alloc (.cells cs 27)).alloc (.cells #[.string ⟨#[]⟩, .int .i64 0, .string ⟨#[43]⟩, .int .i64 0, .string ⟨#[110]⟩, .int .i64 0] 63)).alloc (.cells #[.string ⟨#[]⟩, .string ⟨#[101]⟩] 9)).alloc (.cells #[.int .i64 4] 3)) (.cells #[.int .i64 4, .int .i64 1, .int .i64 2] 3)
  rw [World.size_alloc, World.size_alloc, World.size_alloc, World.size_alloc] at c4
  have g5 := World.grownBy_alloc (((((w.alloc (.cells cs 27)).alloc (.cells #[.string ⟨#[]⟩, .int .i64 0, .string ⟨#[43]⟩, .int .i64 0, .string ⟨#[110]⟩, .int .i64 0] 63)).alloc (.cells #[.string ⟨#[]⟩, .string ⟨#[101]⟩] 9)).alloc (.cells #[.int .i64 4] 3)).alloc (.cells #[.int .i64 4, .int .i64 1, .int .i64 2] 3)) (.cells #[.int .i64 2] 3) none
  have c5 := heap_alloc_last (((((w.alloc (.cells cs 27)).alloc (.cells #[.string ⟨#[]⟩, .int .i64 0, .string ⟨#[43]⟩, .int .i64 0, .string ⟨#[110]⟩, .int .i64 0] 63)).alloc (.cells #[.string ⟨#[]⟩, .string ⟨#[101]⟩] 9)).alloc (.cells #[.int .i64 4] 3)).alloc (.cells #[.int .i64 4, .int .i64 1, .int .i64 2] 3)) (.cells #[.int .i64 2] 3)
  rw [World.size_alloc, World.size_alloc, World.size_alloc, World.size_alloc, World.size_alloc] at c5
  have g6 := World.grownBy_alloc ((((((w.alloc (.cells cs 27)).alloc (.cells #[.string ⟨#[]⟩, .int .i64 0, .string ⟨#[43]⟩, .int .i64 0, .string ⟨#[110]⟩, .int .i64 0] 63)).alloc (.cells #[.string ⟨#[]⟩, .string ⟨#[101]⟩] 9)).alloc (.cells #[.int .i64 4] 3)).alloc (.cells #[.int .i64 4, .int .i64 1, .int .i64 2] 3)).alloc (.cells #[.int .i64 2] 3)) (.cells #[.int .i64 3, .slice (some ⟨w.heap.size + 1 + 1 + 1, 0, none⟩) 1 1, .int .i64 0, .int .i64 4, .slice (some ⟨w.heap.size + 1 + 1 + 1 + 1, 0, none⟩) 3 3, .int .i64 0, .int .i64 4, .slice (some ⟨w.heap.size + 1 + 1 + 1 + 1 + 1, 0, none⟩) 1 1, .int .i64 0] 46) none
  have c6 := heap_alloc_last ((((((w.alloc (.cells cs 27)).alloc (.cells #[.string ⟨#[]⟩, .int .i64 0, .string ⟨#[43]⟩, .int .i64 0, .string ⟨#[110]⟩, .int .i64 0] 63)).alloc (.cells #[.string ⟨#[]⟩, .string ⟨#[101]⟩] 9)).alloc (.cells #[.int .i64 4] 3)).alloc (.cells #[.int .i64 4, .int .i64 1, .int .i64 2] 3)).alloc (.cells #[.int .i64 2] 3)) (.cells #[.int .i64 3, .slice (some ⟨w.heap.size + 1 + 1 + 1, 0, none⟩) 1 1, .int .i64 0, .int .i64 4, .slice (some ⟨w.heap.size + 1 + 1 + 1 + 1, 0, none⟩) 3 3, .int .i64 0, .int .i64 4, .slice (some ⟨w.heap.size + 1 + 1 + 1 + 1 + 1, 0, none⟩) 1 1, .int .i64 0] 46)
  rw [World.size_alloc, World.size_alloc, World.size_alloc, World.size_alloc, World.size_alloc, World.size_alloc] at c6
  have c0 := (boxKept c0 g1).out
  have c0 := (boxKept c0 g2).out
  have c0 := (boxKept c0 g3).out
  have c0 := (boxKept c0 g4).out
  have c0 := (boxKept c0 g5).out
  have c0 := (boxKept c0 g6).out
  have c1 := (boxKept c1 g2).out
  have c1 := (boxKept c1 g3).out
  have c1 := (boxKept c1 g4).out
  have c1 := (boxKept c1 g5).out
  have c1 := (boxKept c1 g6).out
  have c2 := (boxKept c2 g3).out
  have c2 := (boxKept c2 g4).out
  have c2 := (boxKept c2 g5).out
  have c2 := (boxKept c2 g6).out
  have c3 := (boxKept c3 g4).out
  have c3 := (boxKept c3 g5).out
  have c3 := (boxKept c3 g6).out
  have c4 := (boxKept c4 g5).out
  have c4 := (boxKept c4 g6).out
  have c5 := (boxKept c5 g6).out
  exact ⟨⟨c0, c1, c2, c3, c4, c5, c6⟩, (grown_trans g0 (grown_trans g1 (grown_trans g2 (grown_trans g3 (grown_trans g4 (grown_trans g5 g6))))))⟩

set_option maxRecDepth 100000 in
set_option maxHeartbeats 1000000 in
theorem small_any (w : World) : Calls Tryz.prog 12 #[] w fun e y => ∃ b1 b2 b6 ra rc, e = .returned (.agg #[.slice (some ⟨b1, 0, none⟩) 3 3, .slice (some ⟨b2, 0, none⟩) 2 2, .slice none 0 0, .int .i64 4, .slice (some ⟨b6, 0, none⟩) 3 3]) ∧ GAt y (some ⟨b1, 0, none⟩) (some ⟨b2, 0, none⟩) none (some ⟨b6, 0, none⟩) 3 2 0 3 kTs kNs [] 3 kL kR ra rc (fun _ => 0) ∧ w.grownBy y none := by
  have HC := show Hid _ from k_chain w #[.slice (some ⟨w.heap.size + 1, 0, none⟩) 3 3, .slice (some ⟨w.heap.size + 1 + 1, 0, none⟩) 2 2, .slice none 0 0, .int .i64 4, .slice (some ⟨w.heap.size + 1 + 1 + 1 + 1 + 1 + 1, 0, none⟩) 3 3]
  go_enter Tryz.func12, Tryz.ntmps12
  go_wp2_with fail
  obtain ⟨⟨c0, c1, c2, c3, c4, c5, c6⟩, hg⟩ := HC.out
  obtain ⟨ra, rc, hG⟩ := k_gat c1 c2 c3 c4 c5 c6
  exact bodyPost_ret (v := .agg #[.slice (some ⟨w.heap.size + 1, 0, none⟩) 3 3, .slice (some ⟨w.heap.size + 1 + 1, 0, none⟩) 2 2, .slice none 0 0, .int .i64 4, .slice (some ⟨w.heap.size + 1 + 1 + 1 + 1 + 1 + 1, 0, none⟩) 3 3]) (results_cell_row (fr := (0, 0)) rfl _ _ w.heap.size 27 #[.slice (some ⟨w.heap.size + 1, 0, none⟩) 3 3, .slice (some ⟨w.heap.size + 1 + 1, 0, none⟩) 2 2, .slice none 0 0, .int .i64 4, .slice (some ⟨w.heap.size + 1 + 1 + 1 + 1 + 1 + 1, 0, none⟩) 3 3] _ rfl c0 Tryz.underlying27 rfl infoGramK) rfl ⟨_, _, _, ra, rc, rfl, hG, hg⟩

end Go.Proofs.YtckgjolaoifgkaaGreat.J

/-
  lr0: the law's small grammar is closed.
-/
namespace Go.Proofs.YtckgjolaoifgkaaGreat.J
open Go.RowKit Go.Maps Go.Shelf

theorem k_closed : closedOK kTs kNs [] 4 3 kL kR (fun _ => 0) := by
  refine ⟨⟨by decide, rfl, by decide, rfl, rfl, rfl⟩, ⟨by decide, by decide, by decide, by decide, by decide, by decide, ⟨⟨by decide, rfl⟩, fun i h1 h2 => ?_⟩, fun j hj => absurd hj (Nat.not_lt_zero j), fun i h1 h2 => ?_, fun i h1 h2 => ?_, rfl, ⟨by decide, by decide⟩⟩⟩
  · have h3 : i = 1 ∨ i = 2 := by simp [kTs] at h2; omega
    rcases h3 with rfl | rfl
    · exact ⟨⟨by rfl, by decide, by decide⟩, fun k h4 h5 => absurd h5 (by omega)⟩
    · refine ⟨⟨by rfl, by decide, by decide⟩, fun k h4 h5 => ?_⟩
      have h6 : k = 1 := by omega
      subst h6
      decide
  · have h3 : i = 1 := by simp [kNs] at h2; omega
    subst h3
    exact ⟨by rfl, fun k h4 h5 => absurd h5 (by omega)⟩
  · have h3 : i = 1 ∨ i = 2 := by omega
    rcases h3 with rfl | rfl
    · refine ⟨⟨by decide, by decide⟩, ⟨by decide, by decide⟩, ?_⟩
      intro x hx
      simp [kR] at hx
      rcases hx with rfl | rfl | rfl
      · exact .inr ⟨by decide, by decide⟩
      · exact .inl ⟨by decide, by decide⟩
      · exact .inl ⟨by decide, by decide⟩
    · refine ⟨⟨by decide, by decide⟩, ⟨by decide, by decide⟩, ?_⟩
      intro x hx
      simp [kR] at hx
      subst hx
      exact .inl ⟨by decide, by decide⟩

end Go.Proofs.YtckgjolaoifgkaaGreat.J

/-
  lr0: the automaton of the law's small grammar, pure.
-/
namespace Go.Proofs.YtckgjolaoifgkaaGreat.J
open Go.RowKit Go.Maps Go.Shelf

theorem isClo_mk {tn n : Nat} {L : Nat → Int} {R : Nat → List Int} {I l : List It} (hA : Asc l) (hI : ∀ x ∈ I, x ∈ l) (hl : ∀ x ∈ l, Clo tn n L R I x) (hc : ∀ y ∈ l, ∀ k, k < n → (tn : Int) ≤ aheadV R y → L k = aheadV R y → ((k : Int), (0 : Int)) ∈ l) : IsClo tn n L R I l :=
  ⟨hA, fun x => ⟨hl x, fun h => h (fun y => y ∈ l) hI fun y k hy ht hk hk2 => hc y hy k hk ht hk2⟩⟩
theorem isClo_self {tn n : Nat} {L : Nat → Int} {R : Nat → List Int} {l : List It} (hA : Asc l) (hc : ∀ y ∈ l, aheadV R y < (tn : Int)) : IsClo tn n L R l l :=
  isClo_mk hA (fun _ h => h) (fun _ h => Clo.base h) fun y hy k _ ht _ => absurd (hc y hy) (by omega)

def kCl (k : List It) : List It := if k = [(0, 0)] then [(0, 0), (1, 0), (2, 0)] else k
def kKs : List (List It) := [[(0, 0)], [(2, 1)], [(0, 1), (1, 1)], [(1, 2)], [(1, 3)]]
def kEs : List (List (Nat × Nat)) := [[(2, 1), (4, 2)], [], [(1, 3)], [(2, 4)], []]

theorem k_clo : ∀ k ∈ kKs, IsClo 3 3 kL kR k (kCl k) := by
  intro k hk
  simp only [kKs, List.mem_cons, List.not_mem_nil, or_false] at hk
  rcases hk with rfl | rfl | rfl | rfl | rfl
  · refine isClo_mk (by simp [kCl, Asc, ltI]) (by simp [kCl]) (fun x hx => ?_) (fun y hy k hk _ _ => ?_)
    · have h0 : Clo 3 3 kL kR [((0 : Int), (0 : Int))] ((0 : Int), (0 : Int)) := Clo.base (by simp)
      simp [kCl] at hx
      rcases hx with rfl | rfl | rfl
      · exact h0
      · exact h0.step (k := 1) (by decide) (by decide) (by decide)
      · exact h0.step (k := 2) (by decide) (by decide) (by decide)
    · have h3 : k = 0 ∨ k = 1 ∨ k = 2 := by omega
      rcases h3 with rfl | rfl | rfl <;> simp [kCl]
  all_goals
    refine isClo_self (by simp [Asc, ltI]) (fun y hy => ?_)
    simp at hy
    rcases hy with rfl | rfl <;> decide

/-- Whatever closes the kernels, the automaton is this one. -/
theorem k_auto {CL : List It → List It} (h : ∀ k ∈ kKs, IsClo 3 3 kL kR k (CL k)) : autoF (fun k (s : Nat) => kerT kR (CL k) (s : Int)) 5 256 = some (kKs, kEs) := by
  have hc : ∀ k ∈ kKs, CL k = kCl k := fun k hk => (h k hk).unique (k_clo k hk)
  have c0 := hc [(0, 0)] (by simp [kKs])
  have c1 := hc [(2, 1)] (by simp [kKs])
  have c2 := hc [(0, 1), (1, 1)] (by simp [kKs])
  have c3 := hc [(1, 2)] (by simp [kKs])
  have c4 := hc [(1, 3)] (by simp [kKs])
  obtain ⟨G, hG⟩ : ∃ G : List It → Nat → List It, G = fun k (s : Nat) => kerT kR (CL k) (s : Int) := ⟨_, rfl⟩
  rw [← hG]
  have g0 : G [(0, 0)] = fun (s : Nat) => kerT kR (kCl [(0, 0)]) (s : Int) := by rw [hG]; simp only; rw [c0]
  have g1 : G [(2, 1)] = fun (s : Nat) => kerT kR (kCl [(2, 1)]) (s : Int) := by rw [hG]; simp only; rw [c1]
  have g2 : G [(0, 1), (1, 1)] = fun (s : Nat) => kerT kR (kCl [(0, 1), (1, 1)]) (s : Int) := by rw [hG]; simp only; rw [c2]
  have g3 : G [(1, 2)] = fun (s : Nat) => kerT kR (kCl [(1, 2)]) (s : Int) := by rw [hG]; simp only; rw [c3]
  have g4 : G [(1, 3)] = fun (s : Nat) => kerT kR (kCl [(1, 3)]) (s : Int) := by rw [hG]; simp only; rw [c4]
  have a0 : autoF G 5 0 = some ([[(0, 0)]], []) := rfl
  have a1 : autoF G 5 1 = some ([[(0, 0)], [(2, 1)], [(0, 1), (1, 1)]], [[(2, 1), (4, 2)]]) := by
    rw [autoF_step a0 (by decide), show ([[((0 : Int), (0 : Int))]] : List (List It)).getD 0 [] = [(0, 0)] from rfl, g0]
    decide
  have a2 : autoF G 5 2 = some ([[(0, 0)], [(2, 1)], [(0, 1), (1, 1)]], [[(2, 1), (4, 2)], []]) := by
    rw [autoF_step a1 (by decide), show ([[(0, 0)], [(2, 1)], [(0, 1), (1, 1)]] : List (List It)).getD 1 [] = [(2, 1)] from rfl, g1]
    decide
  have a3 : autoF G 5 3 = some ([[(0, 0)], [(2, 1)], [(0, 1), (1, 1)], [(1, 2)]], [[(2, 1), (4, 2)], [], [(1, 3)]]) := by
    rw [autoF_step a2 (by decide), show ([[(0, 0)], [(2, 1)], [(0, 1), (1, 1)]] : List (List It)).getD 2 [] = [(0, 1), (1, 1)] from rfl, g2]
    decide
  have a4 : autoF G 5 4 = some (kKs, [[(2, 1), (4, 2)], [], [(1, 3)], [(2, 4)]]) := by
    rw [autoF_step a3 (by decide), show ([[(0, 0)], [(2, 1)], [(0, 1), (1, 1)], [(1, 2)]] : List (List It)).getD 3 [] = [(1, 2)] from rfl, g3]
    decide
  have a5 : autoF G 5 5 = some (kKs, kEs) := by
    rw [autoF_step a4 (by decide), show kKs.getD 4 [] = [(1, 3)] from rfl, g4]
    decide
  exact autoF_stay a5 (by decide) 251

end Go.Proofs.YtckgjolaoifgkaaGreat.J
