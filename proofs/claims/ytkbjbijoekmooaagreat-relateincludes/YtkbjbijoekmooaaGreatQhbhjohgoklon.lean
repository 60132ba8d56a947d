import Derived.Test.YtkbjbijoekmooaaGreatQmpcbebpiinof
import Derived.Test.YtkbjbijoekmooaaGreatQnlapjleheilf
import Derived.Deep.AppendLies
import Derived.Deep.RegionHeld3
import Derived.Test.YtkbjbijoekmooaaGreatQlboifickjjaa

/-
  relate: the tables of an automaton, pure and in memory.
-/
namespace Go.Proofs.YtkbjbijoekmooaaGreat.J
open Go.RowKit Go.Maps Go.Shelf

/-- Where the edge by s leads, among these edges; 0: there is none. -/
def ldF (l : List (Nat × Nat)) (s : Nat) : Int := (nextL l (s : Int)).getD 0
theorem ldF_snoc {l : List (Nat × Nat)} {a b : Nat} (hno : a ∉ l.map Prod.fst) (s : Nat) : ldF (l ++ [(a, b)]) s = if s = a then (b : Int) else ldF l s := by
  unfold ldF
  rw [nextL_snoc hno]
  by_cases e : s = a
  · rw [if_pos (by rw [e]), if_pos e]; rfl
  · rw [if_neg (by omega), if_neg e]
/-- The number of a transition; 0: it is none. -/
def nmF (l : List It) (q s : Nat) : Int := if ((q : Int), (s : Int)) ∈ l then (l.idxOf ((q : Int), (s : Int)) : Int) else 0
theorem nmF_nil (q s : Nat) : nmF [] q s = 0 := by simp [nmF]
theorem nmF_snoc {l : List It} {x : It} (hno : x ∉ l) (q s : Nat) : nmF (l ++ [x]) q s = if ((q : Int), (s : Int)) = x then (l.length : Int) else nmF l q s := by
  unfold nmF
  by_cases e : ((q : Int), (s : Int)) = x
  · rw [if_pos (by simp [e]), if_pos e, e, List.idxOf_append, if_neg hno]
    simp
  · rw [if_neg e]
    by_cases h : ((q : Int), (s : Int)) ∈ l
    · rw [if_pos (List.mem_append.2 (.inl h)), if_pos h, List.idxOf_append, if_pos h]
    · rw [if_neg h, if_neg]
      intro h2
      rcases List.mem_append.1 h2 with h2 | h2
      · exact h h2
      · exact e (List.mem_singleton.1 h2)
theorem nodup_at {α : Type} [BEq α] [LawfulBEq α] : ∀ (l : List α), l.Nodup → ∀ (k : Nat) (x : α), l[k]? = some x → l.idxOf x = k
  | [], _, k, x, h => by simp at h
  | y :: l, hn, k, x, h => by
    rw [List.nodup_cons] at hn
    cases k with
    | zero =>
      simp only [List.getElem?_cons_zero, Option.some.injEq] at h
      subst h
      simp
    | succ k =>
      simp only [List.getElem?_cons_succ] at h
      have hne : ¬ y = x := fun e => hn.1 (by rw [e]; exact List.mem_of_getElem? h)
      have hb : (y == x) = false := beq_false_of_ne hne
      rw [List.idxOf_cons, nodup_at l hn.2 k x h, hb]
      rfl
theorem nmF_at {l : List It} (hnd : l.Nodup) {k q s : Nat} (e : l[k]? = some ((q : Int), (s : Int))) : nmF l q s = (k : Int) := by
  unfold nmF
  rw [if_pos (List.mem_of_getElem? e), nodup_at l hnd k _ e]
theorem trI_nodup {tn : Nat} {l : List (Nat × Nat)} (i : Nat) (h : (l.map Prod.fst).Nodup) : (trI tn l i).Nodup := by
  unfold trI
  have h1 : ((l.filter fun x => decide (tn ≤ x.1)).map Prod.fst).Nodup := List.Nodup.sublist (List.Sublist.map _ List.filter_sublist) h
  unfold List.Nodup at h1 ⊢
  rw [List.pairwise_map] at h1 ⊢
  refine h1.imp fun hne e => hne ?_
  simp only [Prod.mk.injEq] at e
  omega
theorem trT_fst {tn : Nat} {es : List (List (Nat × Nat))} : ∀ (i : Nat) (x : It), x ∈ trT tn es i → x.1 < (i : Int)
  | 0, x, h => by simp [trT] at h
  | i + 1, x, h => by
    unfold trT at h
    rcases List.mem_append.1 h with h | h
    · have := trT_fst i x h
      omega
    · unfold trI at h
      obtain ⟨y, _, rfl⟩ := List.mem_map.1 h
      show (i : Int) < _
      omega
theorem trT_nodup {tn : Nat} {es : List (List (Nat × Nat))} : ∀ (i : Nat), (∀ q, q < i → ((es.getD q []).map Prod.fst).Nodup) → (trT tn es i).Nodup
  | 0, _ => by simp [trT]
  | i + 1, h => by
    unfold trT
    rw [List.nodup_append]
    refine ⟨trT_nodup i fun q hq => h q (by omega), trI_nodup i (h i (by omega)), fun x hx y hy e => ?_⟩
    subst e
    have h1 := trT_fst i x hx
    unfold trI at hy
    obtain ⟨y, _, rfl⟩ := List.mem_map.1 hy
    have h1' : (i : Int) < (i : Int) := h1
    omega

/-- The cells of a table: its rows lie in the blocks lb. -/
def tabV (lb : Nat → Nat) (S : Nat) : Nat → List Value
  | 0 => []
  | i + 1 => tabV lb S i ++ [.slice (some ⟨lb i, 0, none⟩) S S]
theorem tabV_len (lb : Nat → Nat) (S : Nat) : ∀ i, (tabV lb S i).length = i
  | 0 => rfl
  | i + 1 => by rw [tabV, List.length_append, tabV_len lb S i]; rfl
theorem tabV_congr {lb lb' : Nat → Nat} {S : Nat} : ∀ i, (∀ q, q < i → lb q = lb' q) → tabV lb S i = tabV lb' S i
  | 0, _ => rfl
  | i + 1, h => by rw [tabV, tabV, tabV_congr i fun q hq => h q (by omega), h i (by omega)]
theorem tabV_at (lb : Nat → Nat) (S : Nat) : ∀ i q, q < i → (tabV lb S i)[q]? = some (.slice (some ⟨lb q, 0, none⟩) S S)
  | 0, q, h => by omega
  | i + 1, q, h => by
    rw [tabV]
    by_cases e : q < i
    · rw [List.getElem?_append_left (by rw [tabV_len]; exact e)]; exact tabV_at lb S i q e
    · have e2 : q = i := by omega
      subst e2
      rw [List.getElem?_append_right (by rw [tabV_len]; exact Nat.le_refl _), tabV_len, Nat.sub_self]; rfl

/-- A table under way: i rows stand in it, il rows are made. -/
structure TbP (B : Nat) (X : World) (v : Value) (i il S : Nat) (lb : Nat → Nat) (ld : Nat → Nat → Int) : Prop where
  row : X.ownsRow B 24 1 v i (tabV lb S i)
  val : ∀ q, q < il → ValAt X (lb q) S 3 (fun s => .int .i64 (ld q s))
  inj : ∀ q r, q < il → r < il → lb q = lb r → q = r
  lo : ∀ q, q < il → B ≤ lb q
  le : i ≤ il
section
variable {B : Nat} {X Y : World} {v : Value} {i il S : Nat} {lb : Nat → Nat} {ld : Nat → Nat → Int}
theorem TbP.none_ (B : Nat) (X : World) (S : Nat) (lb : Nat → Nat) (ld : Nat → Nat → Int) : TbP B X (.slice none 0 0) 0 0 S lb ld :=
  ⟨World.ownsRow_nil _ _ _ _, fun _ hq => absurd hq (Nat.not_lt_zero _), fun _ _ hq => absurd hq (Nat.not_lt_zero _), fun _ hq => absurd hq (Nat.not_lt_zero _), Nat.le_refl _⟩
theorem TbP.kept (h : TbP B X v i il S lb ld) (hg : X.grownBy Y none) : TbP B Y v i il S lb ld :=
  ⟨keep0 h.row hg, fun q hq => (h.val q hq).kept hg, h.inj, h.lo, h.le⟩
/-- A box of another type is turned. -/
theorem TbP.boxed (h : TbP B X v i il S lb ld) {b : Nat} {cs : Array Value} {t : TypeId} (hb : X.heap[b]? = some (.cells cs t (0, 0))) (h1 : 24 ≠ t) (h2 : 3 ≠ t) (hg : X.grownBy Y (some b)) : TbP B Y v i il S lb ld :=
  ⟨h.row.kept hg (owns_nebox h.row hb h1), fun q hq => (h.val q hq).at hg fun e => by
    have h3 := h.val q hq
    unfold ValAt at h3
    rw [e, hb] at h3
    simp only [Option.some.injEq, Obj.cells.injEq] at h3
    exact h2 h3.2.1.symm, h.inj, h.lo, h.le⟩
/-- A row of the other table is turned. -/
theorem TbP.far (h : TbP B X v i il S lb ld) {b x : Nat} {u : Value} {t : TypeId} {len : Nat} {c : Nat → Value} (hb : ValAt X b len t c) (ht : 24 ≠ t) (hne : ∀ q, q < il → lb q ≠ b) : TbP B (X.setCell ⟨b, x, none⟩ u) v i il S lb ld :=
  have hg : X.grownBy (X.setCell ⟨b, x, none⟩ u) (some b) := grown_setCell _ _ _
  ⟨h.row.kept hg (owns_nebox h.row hb ht), fun q hq => (h.val q hq).at hg (hne q hq), h.inj, h.lo, h.le⟩
/-- The other table grows. -/
theorem TbP.beside (h : TbP B X v i il S lb ld) {B' n : Nat} {v' : Value} {xs : List Value} (ho : X.ownsRow B' 24 1 v' n xs) (hne : v.ownBlock = none ∨ v.ownBlock ≠ v'.ownBlock) (hg : X.grownBy Y v'.ownBlock) : TbP B Y v i il S lb ld :=
  ⟨h.row.kept hg hne, fun q hq => box_row (h.val q hq) ho (by decide) hg, h.inj, h.lo, h.le⟩
/-- A row more is made. -/
theorem TbP.made (h : TbP B X v i il S lb ld) (hB : B ≤ X.heap.size) {g : Nat} {f : Nat → Int} (hg : X.grownBy Y none) (hn : X.heap.size ≤ g) (hv : ValAt Y g S 3 (fun s => .int .i64 (f s))) : TbP B Y v i (il + 1) S (updL lb il g) (updL ld il f) := by
  refine ⟨?_, fun q hq => ?_, fun q r hq hr e => ?_, fun q hq => ?_, by have := h.le; omega⟩
  · rw [tabV_congr (lb' := lb) i fun q hq => updL_other _ _ (by have := h.le; omega)]
    exact keep0 h.row hg
  · by_cases e : q = il
    · subst e; rw [updL_same, updL_same]; exact hv
    · rw [updL_other _ _ e, updL_other _ _ e]; exact (h.val q (by omega)).kept hg
  · by_cases e1 : q = il
    · by_cases e2 : r = il
      · rw [e1, e2]
      · rw [e1, updL_same, updL_other _ _ e2] at e
        have := (h.val r (by omega)).lt
        omega
    · by_cases e2 : r = il
      · rw [e2, updL_same, updL_other _ _ e1] at e
        have := (h.val q (by omega)).lt
        omega
      · rw [updL_other _ _ e1, updL_other _ _ e2] at e
        exact h.inj q r (by omega) (by omega) e
  · by_cases e : q = il
    · subst e; rw [updL_same]; omega
    · rw [updL_other _ _ e]; exact h.lo q (by omega)
/-- A cell of a row is turned. -/
theorem TbP.set (h : TbP B X v i il S lb ld) {q : Nat} (hq : q < il) (s : Nat) (x : Int) : TbP B (X.setCell ⟨lb q, s, none⟩ (.int .i64 x)) v i il S lb (updL ld q (fun u => if u = s then x else ld q u)) := by
  have hg : X.grownBy (X.setCell ⟨lb q, s, none⟩ (.int .i64 x)) (some (lb q)) := grown_setCell _ _ _
  refine ⟨h.row.kept hg (owns_nebox h.row (h.val q hq) (by decide)), fun r hr => ?_, h.inj, h.lo, h.le⟩
  by_cases e : r = q
  · subst e
    rw [updL_same]
    refine ((h.val r hq).set s (.int .i64 x)).ext fun u _ => ?_
    unfold put
    by_cases e : u = s
    · simp only [if_pos e]
    · simp only [if_neg e]
  · rw [updL_other _ _ e]
    exact (h.val r hr).at hg fun e2 => e (h.inj r q hr hq e2)
/-- A row more stands in it. -/
theorem TbP.push (h : TbP B X v i (i + 1) S lb ld) {v' : Value} (hg : X.grownBy Y v.ownBlock) (ho : Y.ownsRow B 24 1 v' (i + 1) (tabV lb S i ++ [.slice (some ⟨lb i, 0, none⟩) S S])) : TbP B Y v' (i + 1) (i + 1) S lb ld :=
  ⟨ho, fun q hq => box_row (h.val q hq) h.row (by decide) hg, h.inj, h.lo, Nat.le_refl _⟩
theorem TbP.ext (h : TbP B X v i il S lb ld) {ld' : Nat → Nat → Int} (e : ∀ q, q < il → ∀ s, s < S → ld q s = ld' q s) : TbP B X v i il S lb ld' :=
  ⟨h.row, fun q hq => (h.val q hq).ext fun s hs => by rw [e q hq s hs], h.inj, h.lo, h.le⟩
/-- What is read of it. -/
theorem TbP.at (h : TbP B X v i il S lb ld) {q : Nat} (hq : q < i) : ∃ g c, v = .slice (some ⟨g, 0, none⟩) i c ∧ X.cell? ⟨g, q, none⟩ = some (.slice (some ⟨lb q, 0, none⟩) S S) ∧ ∀ s, s < S → X.cell? ⟨lb q, s, none⟩ = some (.int .i64 (ld q s)) := by
  obtain ⟨g, c, e, h1⟩ := owns_at h.row (by omega)
  exact ⟨g, c, e, h1 q _ (tabV_at lb S i q hq), fun s hs => (h.val q (by have := h.le; omega)).cell s hs⟩
end

end Go.Proofs.YtkbjbijoekmooaaGreat.J

/-
  relate: automatonOf, where there is none.
-/
namespace Go.Proofs.YtkbjbijoekmooaaGreat.J
open Go.RowKit Go.Maps Go.Shelf

attribute [local go_sem] Oper.semAt_some

theorem set10_heap {w : World} {g : Nat} {t : TypeId} {a0 a1 a2 a3 a4 a5 a6 a7 a8 a9 : Value} (h : w.heap[g]? = some (.cells #[a0, a1, a2, a3, a4, a5, a6, a7, a8, a9] t (0, 0))) (v0 v1 v2 v3 v4 v5 v6 v7 v8 v9 : Value) :
    ((((((((((w.setCell ⟨g, 0, none⟩ v0).setCell ⟨g, 1, none⟩ v1).setCell ⟨g, 2, none⟩ v2).setCell ⟨g, 3, none⟩ v3).setCell ⟨g, 4, none⟩ v4).setCell ⟨g, 5, none⟩ v5).setCell ⟨g, 6, none⟩ v6).setCell ⟨g, 7, none⟩ v7).setCell ⟨g, 8, none⟩ v8).setCell ⟨g, 9, none⟩ v9).heap[g]? = some (.cells #[v0, v1, v2, v3, v4, v5, v6, v7, v8, v9] t (0, 0)) := by
  have h0 : (w.setCell ⟨g, 0, none⟩ v0).heap[g]? = some (.cells #[v0, a1, a2, a3, a4, a5, a6, a7, a8, a9] t (0, 0)) := heap_setCell_same _ g 0 _ _ v0 h
  generalize w.setCell ⟨g, 0, none⟩ v0 = w0 at h0 ⊢
  have h1 : (w0.setCell ⟨g, 1, none⟩ v1).heap[g]? = some (.cells #[v0, v1, a2, a3, a4, a5, a6, a7, a8, a9] t (0, 0)) := heap_setCell_same _ g 1 _ _ v1 h0
  generalize w0.setCell ⟨g, 1, none⟩ v1 = w1 at h1 ⊢
  have h2 : (w1.setCell ⟨g, 2, none⟩ v2).heap[g]? = some (.cells #[v0, v1, v2, a3, a4, a5, a6, a7, a8, a9] t (0, 0)) := heap_setCell_same _ g 2 _ _ v2 h1
  generalize w1.setCell ⟨g, 2, none⟩ v2 = w2 at h2 ⊢
  have h3 : (w2.setCell ⟨g, 3, none⟩ v3).heap[g]? = some (.cells #[v0, v1, v2, v3, a4, a5, a6, a7, a8, a9] t (0, 0)) := heap_setCell_same _ g 3 _ _ v3 h2
  generalize w2.setCell ⟨g, 3, none⟩ v3 = w3 at h3 ⊢
  have h4 : (w3.setCell ⟨g, 4, none⟩ v4).heap[g]? = some (.cells #[v0, v1, v2, v3, v4, a5, a6, a7, a8, a9] t (0, 0)) := heap_setCell_same _ g 4 _ _ v4 h3
  generalize w3.setCell ⟨g, 4, none⟩ v4 = w4 at h4 ⊢
  have h5 : (w4.setCell ⟨g, 5, none⟩ v5).heap[g]? = some (.cells #[v0, v1, v2, v3, v4, v5, a6, a7, a8, a9] t (0, 0)) := heap_setCell_same _ g 5 _ _ v5 h4
  generalize w4.setCell ⟨g, 5, none⟩ v5 = w5 at h5 ⊢
  have h6 : (w5.setCell ⟨g, 6, none⟩ v6).heap[g]? = some (.cells #[v0, v1, v2, v3, v4, v5, v6, a7, a8, a9] t (0, 0)) := heap_setCell_same _ g 6 _ _ v6 h5
  generalize w5.setCell ⟨g, 6, none⟩ v6 = w6 at h6 ⊢
  have h7 : (w6.setCell ⟨g, 7, none⟩ v7).heap[g]? = some (.cells #[v0, v1, v2, v3, v4, v5, v6, v7, a8, a9] t (0, 0)) := heap_setCell_same _ g 7 _ _ v7 h6
  generalize w6.setCell ⟨g, 7, none⟩ v7 = w7 at h7 ⊢
  have h8 : (w7.setCell ⟨g, 8, none⟩ v8).heap[g]? = some (.cells #[v0, v1, v2, v3, v4, v5, v6, v7, v8, a9] t (0, 0)) := heap_setCell_same _ g 8 _ _ v8 h7
  generalize w7.setCell ⟨g, 8, none⟩ v8 = w8 at h8 ⊢
  exact heap_setCell_same _ g 9 _ _ v9 h8
theorem set10_grown (w : World) (g : Nat) (v0 v1 v2 v3 v4 v5 v6 v7 v8 v9 : Value) :
    w.grownBy ((((((((((w.setCell ⟨g, 0, none⟩ v0).setCell ⟨g, 1, none⟩ v1).setCell ⟨g, 2, none⟩ v2).setCell ⟨g, 3, none⟩ v3).setCell ⟨g, 4, none⟩ v4).setCell ⟨g, 5, none⟩ v5).setCell ⟨g, 6, none⟩ v6).setCell ⟨g, 7, none⟩ v7).setCell ⟨g, 8, none⟩ v8).setCell ⟨g, 9, none⟩ v9) (some g) :=
  grown_trans (grown_trans (grown_trans (set7_grown w g v0 v1 v2 v3 v4 v5 v6) (grown_setCell _ _ _)) (grown_setCell _ _ _)) (grown_setCell _ _ _)
theorem results_uof (tmps : Array Value) (w : World) (g : Nat) (cs : Array Value) (x : Value) (h2 : tmps.getD 2 undef = .pointer (some ⟨g, 0, none⟩)) (h3 : tmps.getD 3 undef = x) (hg : w.heap[g]? = some (.cells cs 81 (0, 0))) (hs : cs.size = 10) :
    (results Tryz.f30 tmps).run Tryz.prog w = .ok (.tuple #[.agg cs, x]) w := by
  have h2' : tmps[2]?.getD undef = .pointer (some ⟨g, 0, none⟩) := by simpa using h2
  have h3' : tmps[3]?.getD undef = x := by simpa using h3
  have hl := run_loadVar_row (P := Tryz.prog) w g 81 81 cs (0, 0) _ hg Tryz.underlying81 rfl (by rw [hs]; kernel_rfl)
  simp [results, Tryz.results30, h2', h3', asAddr, hl]

section
variable (ta na la pa : Option Addr) (tc nc lc pc : Nat) (n : Nat) (st : Int) (w : World) (tn nn ln : Nat)

set_option maxRecDepth 100000 in
set_option maxHeartbeats 2000000 in
theorem uof_bad (ec : Int) (hec : ec = 1 ∨ ec = 11)
    (hBU : ∀ X, w.grownBy X none → Calls Tryz.prog 22 #[.agg #[.slice ta tn tc, .slice na nn nc, .slice la ln lc, .int .i64 st, .slice pa n pc]] X fun e y => e = .returned (.tuple #[.agg #[.slice none 0 0, .int .i64 0, .int .i64 0], .int .i64 ec]) ∧ X.grownBy y none) :
    Calls Tryz.prog 30 #[.agg #[.slice ta tn tc, .slice na nn nc, .slice la ln lc, .int .i64 st, .slice pa n pc]] w fun e y => e = .returned (.tuple #[.agg #[.slice none 0 0, .slice none 0 0, .slice none 0 0, .int .i64 0, .slice none 0 0, .slice none 0 0, .slice none 0 0, .slice none 0 0, .slice none 0 0, .slice none 0 0], .int .i64 ec]) ∧ w.grownBy y none := by
  have HBU := show Hid _ from hBU
  have HX0 : Hid (w.grownBy ((w.alloc (.cells #[.slice ta tn tc, .slice na nn nc, .slice la ln lc, .int .i64 st, .slice pa n pc] 27)).alloc (.cells #[.slice none 0 0, .slice none 0 0, .slice none 0 0, .int .i64 0, .slice none 0 0, .slice none 0 0, .slice none 0 0, .slice none 0 0, .slice none 0 0, .slice none 0 0] 81)) none) := grown_trans (World.grownBy_alloc _ _ none) (World.grownBy_alloc _ _ none)
  have HB0 : Hid (((w.alloc (.cells #[.slice ta tn tc, .slice na nn nc, .slice la ln lc, .int .i64 st, .slice pa n pc] 27)).alloc (.cells #[.slice none 0 0, .slice none 0 0, .slice none 0 0, .int .i64 0, .slice none 0 0, .slice none 0 0, .slice none 0 0, .slice none 0 0, .slice none 0 0, .slice none 0 0] 81)).heap[w.heap.size + 1]? = some (.cells #[.slice none 0 0, .slice none 0 0, .slice none 0 0, .int .i64 0, .slice none 0 0, .slice none 0 0, .slice none 0 0, .slice none 0 0, .slice none 0 0, .slice none 0 0] 81 (0, 0))) := by
    have h := heap_alloc_last (w.alloc (.cells #[.slice ta tn tc, .slice na nn nc, .slice la ln lc, .int .i64 st, .slice pa n pc] 27)) (.cells #[.slice none 0 0, .slice none 0 0, .slice none 0 0, .int .i64 0, .slice none 0 0, .slice none 0 0, .slice none 0 0, .slice none 0 0, .slice none 0 0, .slice none 0 0] 81)
    rw [World.size_alloc] at h; exact h
  have hne : (ec != 0) = true := bne_iff_ne.2 (by omega)
  clear hBU hec
  go_enter Tryz.func30, Tryz.ntmps30
  go_wp2_with fail
  refine Calls.mono (HBU.out _ HX0.out) ?_
  rintro e w1 ⟨rfl, hg1⟩
  have HB1 : Hid ((w1.alloc (.cells #[.slice none 0 0, .int .i64 0, .int .i64 0] 59)).heap[w.heap.size + 1]? = some (.cells #[.slice none 0 0, .slice none 0 0, .slice none 0 0, .int .i64 0, .slice none 0 0, .slice none 0 0, .slice none 0 0, .slice none 0 0, .slice none 0 0, .slice none 0 0] 81 (0, 0))) := box_kept HB0.out (grown_trans hg1 (World.grownBy_alloc _ _ none))
  have HG1 : Hid (w.grownBy (w1.alloc (.cells #[.slice none 0 0, .int .i64 0, .int .i64 0] 59)) none) := grown_trans HX0.out (grown_trans hg1 (World.grownBy_alloc _ _ none))
  clear hg1 HB0 HX0
  have kc := fun j => cell_of_row _ (w.heap.size + 1) j _ _ _ HB1.out
  obtain ⟨k0, k1, k2, k3, k4, k5, k6, k7, k8, k9⟩ : _ ∧ _ ∧ _ ∧ _ ∧ _ ∧ _ ∧ _ ∧ _ ∧ _ ∧ _ := ⟨kc 0, kc 1, kc 2, kc 3, kc 4, kc 5, kc 6, kc 7, kc 8, kc 9⟩
  have kf := fun j => frozen_of_row _ (w.heap.size + 1) j _ _ HB1.out
  simp only [List.getElem?_toArray, List.getElem?_cons_zero, List.getElem?_cons_succ] at k0 k1 k2 k3 k4 k5 k6 k7 k8 k9
  clear kc
  go_wp2_with fail
  refine bodyPost_ret (v := .tuple #[.agg #[.slice none 0 0, .slice none 0 0, .slice none 0 0, .int .i64 0, .slice none 0 0, .slice none 0 0, .slice none 0 0, .slice none 0 0, .slice none 0 0, .slice none 0 0], .int .i64 ec]) ?_ rfl ?_
  · exact results_uof _ _ (w.heap.size + 1) _ _ rfl rfl (set10_heap HB1.out _ _ _ _ _ _ _ _ _ _) rfl
  · exact ⟨rfl, grown_new HG1.out (set10_grown _ _ _ _ _ _ _ _ _ _ _ _) (by omega)⟩
end

end Go.Proofs.YtkbjbijoekmooaaGreat.J

/-
  relate: automatonOf under way, in memory.
-/
namespace Go.Proofs.YtkbjbijoekmooaaGreat.J
open Go.RowKit Go.Maps Go.Shelf

/-- All blocks stay but numbers, rows of rows, and the box ab. -/
def KeepA (ab : Nat) (X Y : World) : Prop := ∀ (b : Nat) (cs : Array Value) (t : TypeId), X.heap[b]? = some (.cells cs t (0, 0)) → t ≠ 3 → t ≠ 24 → (t = 81 → b ≠ ab) → Y.heap[b]? = some (.cells cs t (0, 0))
section
variable {ab : Nat} {X Y : World}
theorem KeepA.none_ (h : X.grownBy Y none) : KeepA ab X Y := fun _ _ _ h1 _ _ _ => box_kept h1 h
theorem KeepA.box {cs : Array Value} (hb : X.heap[ab]? = some (.cells cs 81 (0, 0))) (h : X.grownBy Y (some ab)) : KeepA ab X Y := fun b cs' t h1 _ _ h4 => by
  refine (h.block b (Array.getElem?_eq_some_iff.1 h1).1 ?_).trans h1
  intro e
  have e2 : b = ab := by simpa using e
  have h5 := h1
  rw [e2, hb] at h5
  simp only [Option.some.injEq, Obj.cells.injEq] at h5
  exact h4 h5.2.1.symm e2
theorem KeepA.int {b : Nat} {cs : Array Value} (hb : X.heap[b]? = some (.cells cs 3 (0, 0))) (h : X.grownBy Y (some b)) : KeepA ab X Y := fun b' cs' t h1 h2 _ _ => by
  refine (h.block b' (Array.getElem?_eq_some_iff.1 h1).1 ?_).trans h1
  intro e
  have e2 : b' = b := by simpa using e
  have h5 := h1
  rw [e2, hb] at h5
  simp only [Option.some.injEq, Obj.cells.injEq] at h5
  exact h2 h5.2.1.symm
theorem KeepA.row {B n : Nat} {v : Value} {xs : List Value} (ho : X.ownsRow B 24 1 v n xs) (h : X.grownBy Y v.ownBlock) : KeepA ab X Y := fun _ _ _ h1 _ h3 _ => box_row h1 ho (fun e => h3 e.symm) h
theorem KeepA.owns {B e s n : Nat} {v : Value} {xs : List Value} (h : KeepA ab X Y) (ho : X.ownsRow B e s v n xs) (h1 : e ≠ 3) (h2 : e ≠ 24) (h3 : e ≠ 81) : Y.ownsRow B e s v n xs := by
  refine ⟨ho.1, ?_⟩
  rcases ho.2 with hn | ⟨g, cap, cur, rfl, hb, hgg, rest⟩
  · exact .inl hn
  · exact .inr ⟨g, cap, cur, rfl, hb, h g _ _ hgg h1 h2 (fun e => absurd e h3), rest⟩
end

/-- What automatonOf has got, beside its tables. -/
structure UPas (B : Nat) (X : World) (gb rb nb nn : Nat) (c0 c1 c2 c3 c4 sv tv : Value) (ks : List (List It)) (es : List (List (Nat × Nat))) (kv ev : Nat → Value) (tl : List It) (F : Nat → Bool) : Prop where
  gbox : X.heap[gb]? = some (.cells #[c0, c1, c2, c3, c4] 27 (0, 0))
  res : X.heap[rb]? = some (.cells #[.slice none 0 0, .slice none 0 0, .slice none 0 0, .int .i64 0, .slice none 0 0, .slice none 0 0, .slice none 0 0, .slice none 0 0, .slice none 0 0, .slice none 0 0] 81 (0, 0))
  aut : AutP B X sv ks (elF es) kv ev
  trs : X.ownsRow B 53 2 tv tl.length (itsV tl)
  nul : ValAt X nb nn 4 (fun i => .bool (F i))
section
variable {B : Nat} {X Y : World} {ab gb rb nb nn : Nat} {c0 c1 c2 c3 c4 sv tv : Value} {ks : List (List It)} {es : List (List (Nat × Nat))} {kv ev : Nat → Value} {tl : List It} {F : Nat → Bool}
theorem UPas.keep (h : UPas B X gb rb nb nn c0 c1 c2 c3 c4 sv tv ks es kv ev tl F) (hk : KeepA ab X Y) (hne : rb ≠ ab) : UPas B Y gb rb nb nn c0 c1 c2 c3 c4 sv tv ks es kv ev tl F :=
  ⟨hk _ _ _ h.gbox (by decide) (by decide) (fun e => absurd e (by decide)), hk _ _ _ h.res (by decide) (by decide) (fun _ => hne),
    ⟨hk.owns h.aut.row (by decide) (by decide) (by decide), fun i hi => hk.owns (h.aut.ker i hi) (by decide) (by decide) (by decide), fun i hi => hk.owns (h.aut.edg i hi) (by decide) (by decide) (by decide)⟩,
    hk.owns h.trs (by decide) (by decide) (by decide), hk _ _ _ h.nul (by decide) (by decide) (fun e => absurd e (by decide))⟩
end

/-- Where the edges lead, once j of those of i have been gone over. -/
def ldJ (es : List (List (Nat × Nat))) (i j q s : Nat) : Int := if q = i then ldF ((es.getD i []).take j) s else ldF (es.getD q []) s
theorem ldJ_zero (es : List (List (Nat × Nat))) (i q s : Nat) : updL (fun q s => ldF (es.getD q []) s) i (fun _ => 0) q s = ldJ es i 0 q s := by
  unfold ldJ updL
  by_cases e : q = i
  · rw [if_pos e, if_pos e]; rfl
  · rw [if_neg e, if_neg e]
theorem ldJ_end (es : List (List (Nat × Nat))) (i q s : Nat) : ldJ es i (es.getD i []).length q s = ldF (es.getD q []) s := by
  unfold ldJ
  rw [List.take_length]
  by_cases e : q = i
  · rw [if_pos e, e]
  · rw [if_neg e]
theorem ldJ_step {es : List (List (Nat × Nat))} {i j s t : Nat} (hj : j < (es.getD i []).length) (he : (es.getD i []).getD j (0, 0) = (s, t)) (hnd : ((es.getD i []).map Prod.fst).Nodup) (q u : Nat) : updL (ldJ es i j) i (fun u => if u = s then (t : Int) else ldJ es i j i u) q u = ldJ es i (j + 1) q u := by
  unfold updL
  by_cases e : q = i
  · rw [if_pos e]
    unfold ldJ
    rw [if_pos rfl, if_pos e, take_snocE hj he, ldF_snoc]
    have h2 : (((es.getD i []).take (j + 1)).map Prod.fst).Nodup := List.Nodup.sublist (List.Sublist.map _ (List.take_sublist _ _)) hnd
    rw [take_snocE hj he, List.map_append, List.nodup_append] at h2
    intro h3
    exact h2.2.2 s h3 s (by simp) rfl
  · rw [if_neg e]
    unfold ldJ
    rw [if_neg e, if_neg e]

/-- automatonOf under way. -/
structure RlP (w X : World) (ab gb rb nb nn : Nat) (c0 c1 c2 c3 c4 nv sv tv bl bm lv mv : Value) (i il j jl S : Nat) (lb mb : Nat → Nat) (ld nm : Nat → Nat → Int) (ks : List (List It)) (es : List (List (Nat × Nat))) (kv ev : Nat → Value) (tl : List It) (F : Nat → Bool) : Prop where
  grown : w.grownBy X none
  box : X.heap[ab]? = some (.cells #[c0, c1, c2, c3, c4, nv, sv, tv, bl, bm] 81 (0, 0))
  pas : UPas w.heap.size X gb rb nb nn c0 c1 c2 c3 c4 sv tv ks es kv ev tl F
  l : TbP w.heap.size X lv i il S lb ld
  m : TbP w.heap.size X mv j jl S mb nm
  lm : ∀ q r, q < il → r < jl → lb q ≠ mb r
  apart : ∀ b, lv.ownBlock = some b → mv.ownBlock ≠ some b
  lo : w.heap.size ≤ ab ∧ w.heap.size ≤ rb
  ne : rb ≠ ab
section
variable {w X Y : World} {ab gb rb nb nn : Nat} {c0 c1 c2 c3 c4 nv sv tv bl bm lv mv : Value} {i il j jl S : Nat} {lb mb : Nat → Nat} {ld nm : Nat → Nat → Int} {ks : List (List It)} {es : List (List (Nat × Nat))} {kv ev : Nat → Value} {tl : List It} {F : Nat → Bool}
theorem RlP.kept (h : RlP w X ab gb rb nb nn c0 c1 c2 c3 c4 nv sv tv bl bm lv mv i il j jl S lb mb ld nm ks es kv ev tl F) (hg : X.grownBy Y none) : RlP w Y ab gb rb nb nn c0 c1 c2 c3 c4 nv sv tv bl bm lv mv i il j jl S lb mb ld nm ks es kv ev tl F :=
  ⟨grown_trans h.grown hg, box_kept h.box hg, h.pas.keep (.none_ hg) h.ne, h.l.kept hg, h.m.kept hg, h.lm, h.apart, h.lo, h.ne⟩
theorem RlP.setL (h : RlP w X ab gb rb nb nn c0 c1 c2 c3 c4 nv sv tv bl bm lv mv i il j jl S lb mb ld nm ks es kv ev tl F) (v : Value) : RlP w (X.setCell ⟨ab, 8, none⟩ v) ab gb rb nb nn c0 c1 c2 c3 c4 nv sv tv v bm lv mv i il j jl S lb mb ld nm ks es kv ev tl F :=
  have hg : X.grownBy (X.setCell ⟨ab, 8, none⟩ v) (some ab) := grown_setCell _ _ _
  ⟨grown_new h.grown hg h.lo.1, heap_setCell_same _ _ _ _ _ _ h.box, h.pas.keep (.box h.box hg) h.ne, h.l.boxed h.box (by decide) (by decide) hg, h.m.boxed h.box (by decide) (by decide) hg, h.lm, h.apart, h.lo, h.ne⟩
theorem RlP.setM (h : RlP w X ab gb rb nb nn c0 c1 c2 c3 c4 nv sv tv bl bm lv mv i il j jl S lb mb ld nm ks es kv ev tl F) (v : Value) : RlP w (X.setCell ⟨ab, 9, none⟩ v) ab gb rb nb nn c0 c1 c2 c3 c4 nv sv tv bl v lv mv i il j jl S lb mb ld nm ks es kv ev tl F :=
  have hg : X.grownBy (X.setCell ⟨ab, 9, none⟩ v) (some ab) := grown_setCell _ _ _
  ⟨grown_new h.grown hg h.lo.1, heap_setCell_same _ _ _ _ _ _ h.box, h.pas.keep (.box h.box hg) h.ne, h.l.boxed h.box (by decide) (by decide) hg, h.m.boxed h.box (by decide) (by decide) hg, h.lm, h.apart, h.lo, h.ne⟩
theorem RlP.madeL (h : RlP w X ab gb rb nb nn c0 c1 c2 c3 c4 nv sv tv bl bm lv mv i il j jl S lb mb ld nm ks es kv ev tl F) {g : Nat} {f : Nat → Int} (hg : X.grownBy Y none) (hn : X.heap.size ≤ g) (hv : ValAt Y g S 3 (fun s => .int .i64 (f s))) : RlP w Y ab gb rb nb nn c0 c1 c2 c3 c4 nv sv tv bl bm lv mv i (il + 1) j jl S (updL lb il g) mb (updL ld il f) nm ks es kv ev tl F := by
  have h2 := h.kept hg
  refine ⟨h2.grown, h2.box, h2.pas, h.l.made h.grown.size hg hn hv, h2.m, fun q r hq hr => ?_, h.apart, h.lo, h.ne⟩
  by_cases e : q = il
  · rw [e, updL_same]
    have := (h.m.val r hr).lt
    omega
  · rw [updL_other _ _ e]; exact h.lm q r (by omega) hr
theorem RlP.madeM (h : RlP w X ab gb rb nb nn c0 c1 c2 c3 c4 nv sv tv bl bm lv mv i il j jl S lb mb ld nm ks es kv ev tl F) {g : Nat} {f : Nat → Int} (hg : X.grownBy Y none) (hn : X.heap.size ≤ g) (hv : ValAt Y g S 3 (fun s => .int .i64 (f s))) : RlP w Y ab gb rb nb nn c0 c1 c2 c3 c4 nv sv tv bl bm lv mv i il j (jl + 1) S lb (updL mb jl g) ld (updL nm jl f) ks es kv ev tl F := by
  have h2 := h.kept hg
  refine ⟨h2.grown, h2.box, h2.pas, h2.l, h.m.made h.grown.size hg hn hv, fun q r hq hr => ?_, h.apart, h.lo, h.ne⟩
  by_cases e : r = jl
  · rw [e, updL_same]
    have := (h.l.val q hq).lt
    omega
  · rw [updL_other _ _ e]; exact h.lm q r hq (by omega)
theorem RlP.putL (h : RlP w X ab gb rb nb nn c0 c1 c2 c3 c4 nv sv tv bl bm lv mv i il j jl S lb mb ld nm ks es kv ev tl F) {q : Nat} (hq : q < il) (s : Nat) (x : Int) : RlP w (X.setCell ⟨lb q, s, none⟩ (.int .i64 x)) ab gb rb nb nn c0 c1 c2 c3 c4 nv sv tv bl bm lv mv i il j jl S lb mb (updL ld q (fun u => if u = s then x else ld q u)) nm ks es kv ev tl F := by
  have hg : X.grownBy (X.setCell ⟨lb q, s, none⟩ (.int .i64 x)) (some (lb q)) := grown_setCell _ _ _
  have hv := h.l.val q hq
  exact ⟨grown_new h.grown hg (h.l.lo q hq), KeepB h.box hv hg, h.pas.keep (.int hv hg) h.ne, h.l.set hq s x, h.m.far hv (by decide) (fun r hr e => h.lm q r hq hr e.symm), h.lm, h.apart, h.lo, h.ne⟩
where
  KeepB {X Y : World} {b ab len : Nat} {cs : Array Value} {c : Nat → Value} (hb : X.heap[ab]? = some (.cells cs 81 (0, 0))) (hv : ValAt X b len 3 c) (hg : X.grownBy Y (some b)) : Y.heap[ab]? = some (.cells cs 81 (0, 0)) := by
    refine (hg.block ab (Array.getElem?_eq_some_iff.1 hb).1 ?_).trans hb
    intro e
    have e2 : ab = b := by simpa using e
    unfold ValAt at hv
    rw [e2, hv] at hb
    simp only [Option.some.injEq, Obj.cells.injEq] at hb
    exact absurd hb.2.1 (by decide)
theorem RlP.putM (h : RlP w X ab gb rb nb nn c0 c1 c2 c3 c4 nv sv tv bl bm lv mv i il j jl S lb mb ld nm ks es kv ev tl F) {q : Nat} (hq : q < jl) (s : Nat) (x : Int) : RlP w (X.setCell ⟨mb q, s, none⟩ (.int .i64 x)) ab gb rb nb nn c0 c1 c2 c3 c4 nv sv tv bl bm lv mv i il j jl S lb mb ld (updL nm q (fun u => if u = s then x else nm q u)) ks es kv ev tl F := by
  have hg : X.grownBy (X.setCell ⟨mb q, s, none⟩ (.int .i64 x)) (some (mb q)) := grown_setCell _ _ _
  have hv := h.m.val q hq
  exact ⟨grown_new h.grown hg (h.m.lo q hq), RlP.putL.KeepB h.box hv hg, h.pas.keep (.int hv hg) h.ne, h.l.far hv (by decide) (fun r hr => h.lm r q hr hq), h.m.set hq s x, h.lm, h.apart, h.lo, h.ne⟩
theorem RlP.pushL (h : RlP w X ab gb rb nb nn c0 c1 c2 c3 c4 nv sv tv bl bm lv mv i (i + 1) j jl S lb mb ld nm ks es kv ev tl F) {g c : Nat} (hg : X.grownBy Y lv.ownBlock) (ho : Y.ownsRow w.heap.size 24 1 (.slice (some ⟨g, 0, none⟩) (i + 1) c) (i + 1) (tabV lb S i ++ [.slice (some ⟨lb i, 0, none⟩) S S])) (hat : lv.ownBlock = some g ∨ g = X.heap.size) : RlP w Y ab gb rb nb nn c0 c1 c2 c3 c4 nv sv tv bl bm (.slice (some ⟨g, 0, none⟩) (i + 1) c) mv (i + 1) (i + 1) j jl S lb mb ld nm ks es kv ev tl F := by
  refine ⟨grown_owned h.grown h.l.row (Nat.le_refl _) hg, box_row h.box h.l.row (by decide) hg, h.pas.keep (.row h.l.row hg) h.ne, h.l.push hg ho, h.m.beside h.l.row ?_ hg, h.lm, fun b hb hm => ?_, h.lo, h.ne⟩
  · cases hb : mv.ownBlock with
    | none => exact .inl rfl
    | some b => exact .inr fun e => h.apart b e.symm hb
  · have e : g = b := by simpa [Value.ownBlock] using hb
    subst e
    rcases hat with h1 | h1
    · exact h.apart g h1 hm
    · have := (h.m.row.lt g hm).2
      omega
theorem RlP.pushM (h : RlP w X ab gb rb nb nn c0 c1 c2 c3 c4 nv sv tv bl bm lv mv i il j (j + 1) S lb mb ld nm ks es kv ev tl F) {g c : Nat} (hg : X.grownBy Y mv.ownBlock) (ho : Y.ownsRow w.heap.size 24 1 (.slice (some ⟨g, 0, none⟩) (j + 1) c) (j + 1) (tabV mb S j ++ [.slice (some ⟨mb j, 0, none⟩) S S])) (hat : mv.ownBlock = some g ∨ g = X.heap.size) : RlP w Y ab gb rb nb nn c0 c1 c2 c3 c4 nv sv tv bl bm lv (.slice (some ⟨g, 0, none⟩) (j + 1) c) i il (j + 1) (j + 1) S lb mb ld nm ks es kv ev tl F := by
  refine ⟨grown_owned h.grown h.m.row (Nat.le_refl _) hg, box_row h.box h.m.row (by decide) hg, h.pas.keep (.row h.m.row hg) h.ne, h.l.beside h.m.row ?_ hg, h.m.push hg ho, h.lm, fun b hb hm => ?_, h.lo, h.ne⟩
  · cases hb : lv.ownBlock with
    | none => exact .inl rfl
    | some b => exact .inr fun e => h.apart b hb e.symm
  · have e : g = b := by simpa [Value.ownBlock] using hm
    subst e
    rcases hat with h1 | h1
    · exact h.apart g hb h1
    · have := (h.l.row.lt g hb).2
      omega
theorem RlP.extL (h : RlP w X ab gb rb nb nn c0 c1 c2 c3 c4 nv sv tv bl bm lv mv i il j jl S lb mb ld nm ks es kv ev tl F) {ld' : Nat → Nat → Int} (e : ∀ q, q < il → ∀ s, s < S → ld q s = ld' q s) : RlP w X ab gb rb nb nn c0 c1 c2 c3 c4 nv sv tv bl bm lv mv i il j jl S lb mb ld' nm ks es kv ev tl F :=
  ⟨h.grown, h.box, h.pas, h.l.ext e, h.m, h.lm, h.apart, h.lo, h.ne⟩
theorem RlP.extM (h : RlP w X ab gb rb nb nn c0 c1 c2 c3 c4 nv sv tv bl bm lv mv i il j jl S lb mb ld nm ks es kv ev tl F) {nm' : Nat → Nat → Int} (e : ∀ q, q < jl → ∀ s, s < S → nm q s = nm' q s) : RlP w X ab gb rb nb nn c0 c1 c2 c3 c4 nv sv tv bl bm lv mv i il j jl S lb mb ld nm' ks es kv ev tl F :=
  ⟨h.grown, h.box, h.pas, h.l, h.m.ext e, h.lm, h.apart, h.lo, h.ne⟩
theorem RlP.cells (h : RlP w X ab gb rb nb nn c0 c1 c2 c3 c4 nv sv tv bl bm lv mv i il j jl S lb mb ld nm ks es kv ev tl F) : (X.cell? ⟨ab, 6, none⟩ = some sv ∧ X.cell? ⟨ab, 7, none⟩ = some tv ∧ X.cell? ⟨ab, 8, none⟩ = some bl ∧ X.cell? ⟨ab, 9, none⟩ = some bm) ∧ ∀ k, X.frozen? ⟨ab, k, none⟩ = false := by
  refine ⟨⟨?_, ?_, ?_, ?_⟩, fun k => frozen_of_row _ _ _ _ _ h.box⟩ <;> rw [cell_of_row _ _ _ _ _ _ h.box] <;> rfl
end

end Go.Proofs.YtkbjbijoekmooaaGreat.J

/-
  relate: automatonOf, where there is an automaton.
-/
namespace Go.Proofs.YtkbjbijoekmooaaGreat.J
open Go.RowKit Go.Maps Go.Shelf

attribute [local go_sem] Oper.semAt_some

theorem infoInts : (Tryz.prog.info? 24).map (fun i => (i.zero, i.size, i.bytes)) = some (some (.slice none 0 0), 1, 24) := by kernel_rfl
theorem mk_ints (u : World) {i0 : TypeInfo} (hi0 : Tryz.prog.info? 3 = some i0) (hz0 : i0.zero = some (.int .i64 0)) (hz1 : i0.size = 1) (hz2 : i0.bytes = 8) {S : Nat} (hS : S ≤ 130) : (Instr.makeSlice 24 (.int .i64 (S : Int)) (.int .i64 (S : Int))).run Tryz.prog u = .ok (.slice (some ⟨u.heap.size, 0, none⟩) S S) (u.alloc (.cells (madeCells #[.int .i64 0] S) 3)) := by
  have h := run_make (P := Tryz.prog) u 24 3 i0 (.int .i64 0) Tryz.underlying24 hi0 hz0 .i64 .i64 (S : Int) (S : Int) (by omega) (Int.le_refl _) (by rw [hz2]; omega) (by omega)
  rw [h]
  simp [hz1, Value.cells]
theorem mk_val {Y : World} {b S : Nat} (h : Y.heap[b]? = some (.cells (madeCells #[.int .i64 0] S) 3 (0, 0))) : ValAt Y b S 3 (fun _ => .int .i64 0) := by
  unfold ValAt
  rw [h]
  congr 2
  apply Array.ext'
  rw [toList_madeCells_one, List.map_const', List.length_range]
theorem u_first (X : World) (o1 : Obj) (o2 : Obj) (k : Nat) : (((X.alloc o1).alloc o2).drewN k).heap[X.heap.size]? = some o1 := by
  show ((X.alloc o1).alloc o2).heap[X.heap.size]? = _
  exact ((World.grownBy_alloc (X.alloc o1) o2 none).block _ (by rw [World.size_alloc]; omega) (by simp)).trans (heap_alloc_last X o1)
theorem u_second (X : World) (o1 : Obj) (o2 : Obj) (k : Nat) : (((X.alloc o1).alloc o2).drewN k).heap[X.heap.size + 1]? = some o2 := by
  show ((X.alloc o1).alloc o2).heap[X.heap.size + 1]? = _
  have h := heap_alloc_last (X.alloc o1) o2
  rw [World.size_alloc] at h; exact h
/-- An automaton of relate in memory. -/
structure RaAt (B : Nat) (X : World) (nb nn S : Nat) (sv tv lv mv : Value) (ks : List (List It)) (es : List (List (Nat × Nat))) (kv ev : Nat → Value) (tl : List It) (F : Nat → Bool) (lb mb : Nat → Nat) : Prop where
  aut : AutP B X sv ks (elF es) kv ev
  trs : X.ownsRow B 53 2 tv tl.length (itsV tl)
  nul : ValAt X nb nn 4 (fun i => .bool (F i))
  l : TbP B X lv ks.length ks.length S lb (fun q s => ldF (es.getD q []) s)
  m : TbP B X mv ks.length ks.length S mb (fun q s => nmF tl q s)
/-- What automatonOf tells. -/
def UofTold (ta na la pa : Option Addr) (tc nc lc pc : Nat) (n : Nat) (st : Int) (tn nn ln : Nat) (ks : List (List It)) (es : List (List (Nat × Nat))) (tl : List It) (F : Nat → Bool) (w : World) (e : Ending) (y : World) : Prop :=
  ∃ (nb : Nat) (sa xa la' ma : Option Addr) (sc xc lc' mc : Nat) (kv ev : Nat → Value) (lb mb : Nat → Nat), e = .returned (.tuple #[.agg #[.slice ta tn tc, .slice na nn nc, .slice la ln lc, .int .i64 st, .slice pa n pc, .slice (some ⟨nb, 0, none⟩) nn nn, .slice sa ks.length sc, .slice xa tl.length xc, .slice la' ks.length lc', .slice ma ks.length mc], .int .i64 0]) ∧ RaAt w.heap.size y nb nn (tn + nn) (.slice sa ks.length sc) (.slice xa tl.length xc) (.slice la' ks.length lc') (.slice ma ks.length mc) ks es kv ev tl F lb mb ∧ w.grownBy y none

section
variable (ta na la pa : Option Addr) (tc nc lc pc : Nat) (n : Nat) (st : Int) (w : World) (tn nn ln : Nat)

set_option maxRecDepth 100000 in
set_option maxHeartbeats 4000000 in
theorem uof_ok (ask : Nat) (ks : List (List It)) (es : List (List (Nat × Nat))) (tl : List It) (F : Nat → Bool) (htn : tn ≤ 65) (hnn : nn ≤ 65) (hN256 : ks.length ≤ 256) (hes : ∀ q, q < ks.length → (es.getD q []).length ≤ 130 ∧ ((es.getD q []).map Prod.fst).Nodup ∧ ∀ x ∈ es.getD q [], x.1 < tn + nn ∧ x.2 < 256) (htl : tl.length ≤ 40000) (htnd : tl.Nodup) (htb : ∀ x ∈ tl, ∃ q s : Nat, x = ((q : Int), (s : Int)) ∧ q < ks.length ∧ s < tn + nn)
    (hBU : ∀ X, w.grownBy X none → Calls Tryz.prog 22 #[.agg #[.slice ta tn tc, .slice na nn nc, .slice la ln lc, .int .i64 st, .slice pa n pc]] X fun e y => ∃ sa sc kv ev, e = .returned (.tuple #[.agg #[.slice sa ks.length sc, .int .i64 (ask : Int), .int .i64 (ks.length : Int)], .int .i64 0]) ∧ AutP w.heap.size y (.slice sa ks.length sc) ks (elF es) kv ev ∧ X.grownBy y none)
    (hLI : ∀ X, w.grownBy X none → Calls Tryz.prog 36 #[.agg #[.slice ta tn tc, .slice na nn nc, .slice la ln lc, .int .i64 st, .slice pa n pc]] X fun e y => TrErr tl X e y)
    (hNU : ∀ X, w.grownBy X none → Calls Tryz.prog 38 #[.agg #[.slice ta tn tc, .slice na nn nc, .slice la ln lc, .int .i64 st, .slice pa n pc]] X fun e y => ∃ k, e = .returned (.tuple #[.slice (some ⟨k, 0, none⟩) nn nn, .int .i64 0]) ∧ X.heap.size ≤ k ∧ ValAt y k nn 4 (fun i => .bool (F i)) ∧ X.grownBy y none) :
    Calls Tryz.prog 30 #[.agg #[.slice ta tn tc, .slice na nn nc, .slice la ln lc, .int .i64 st, .slice pa n pc]] w fun e y => UofTold ta na la pa tc nc lc pc n st tn nn ln ks es tl F w e y := by
  have HBU := show Hid _ from hBU
  have HLI := show Hid _ from hLI
  have HNU := show Hid _ from hNU
  have HES := show Hid _ from hes
  have HTN := show Hid _ from htnd
  have HTB := show Hid _ from htb
  have HX0 : Hid (PhAt w ((w.alloc (.cells #[.slice ta tn tc, .slice na nn nc, .slice la ln lc, .int .i64 st, .slice pa n pc] 27)).alloc (.cells #[.slice none 0 0, .slice none 0 0, .slice none 0 0, .int .i64 0, .slice none 0 0, .slice none 0 0, .slice none 0 0, .slice none 0 0, .slice none 0 0, .slice none 0 0] 81)) w.heap.size #[.slice ta tn tc, .slice na nn nc, .slice la ln lc, .int .i64 st, .slice pa n pc]) := PhAt.kept ⟨World.grownBy_alloc _ _ none, heap_alloc_last w _⟩ (World.grownBy_alloc _ _ none)
  have HB0 : Hid (((w.alloc (.cells #[.slice ta tn tc, .slice na nn nc, .slice la ln lc, .int .i64 st, .slice pa n pc] 27)).alloc (.cells #[.slice none 0 0, .slice none 0 0, .slice none 0 0, .int .i64 0, .slice none 0 0, .slice none 0 0, .slice none 0 0, .slice none 0 0, .slice none 0 0, .slice none 0 0] 81)).heap[w.heap.size + 1]? = some (.cells #[.slice none 0 0, .slice none 0 0, .slice none 0 0, .int .i64 0, .slice none 0 0, .slice none 0 0, .slice none 0 0, .slice none 0 0, .slice none 0 0, .slice none 0 0] 81 (0, 0))) := by
    have h := heap_alloc_last (w.alloc (.cells #[.slice ta tn tc, .slice na nn nc, .slice la ln lc, .int .i64 st, .slice pa n pc] 27)) (.cells #[.slice none 0 0, .slice none 0 0, .slice none 0 0, .int .i64 0, .slice none 0 0, .slice none 0 0, .slice none 0 0, .slice none 0 0, .slice none 0 0, .slice none 0 0] 81)
    rw [World.size_alloc] at h; exact h
  obtain ⟨i0, hi0, hz0, hz1, hz2⟩ := info_parts infoInt
  obtain ⟨i1, hq1, hu0, hu1, hu2⟩ := info_parts infoInts
  obtain ⟨N, hN⟩ : ∃ n, n = ks.length := ⟨_, rfl⟩
  have HN : Hid (N = ks.length) := hN
  rw [← hN] at hN256 HBU
  obtain ⟨T, hT⟩ : ∃ n, n = tl.length := ⟨_, rfl⟩
  have HT : Hid (T = tl.length) := hT
  rw [← hT] at htl
  clear hBU hes hLI hNU htnd htb hN hT
  go_enter Tryz.func30, Tryz.ntmps30
  go_wp2_with fail
  refine Calls.mono (HBU.out _ HX0.out.grown) ?_
  rintro e w1 ⟨sa, sc, kv, ev, rfl, hAP, hg1⟩
  have hbd : ∀ u, (Instr.build 81 #[(0, .agg #[.slice ta tn tc, .slice na nn nc, .slice la ln lc, .int .i64 st, .slice pa n pc]), (2, .slice sa N sc)]).run Tryz.prog u = .ok (.agg #[.slice ta tn tc, .slice na nn nc, .slice la ln lc, .int .i64 st, .slice pa n pc, .slice none 0 0, .slice sa N sc, .slice none 0 0, .slice none 0 0, .slice none 0 0]) u := fun u => run_build u _ _ _ (by kernel_rfl)
  obtain ⟨W, hW⟩ : ∃ W, W = w1.alloc (.cells #[.slice sa N sc, .int .i64 (ask : Int), .int .i64 (N : Int)] 59) := ⟨_, rfl⟩
  obtain ⟨ub, hub⟩ : ∃ b, b = w1.heap.size := ⟨_, rfl⟩
  have hgW : w1.grownBy W none := by rw [hW]; exact World.grownBy_alloc _ _ none
  have HXW : Hid (PhAt w W w.heap.size #[.slice ta tn tc, .slice na nn nc, .slice la ln lc, .int .i64 st, .slice pa n pc]) := HX0.out.kept (grown_trans hg1 hgW)
  have HBW : Hid (W.heap[w.heap.size + 1]? = some (.cells #[.slice none 0 0, .slice none 0 0, .slice none 0 0, .int .i64 0, .slice none 0 0, .slice none 0 0, .slice none 0 0, .slice none 0 0, .slice none 0 0, .slice none 0 0] 81 (0, 0))) := box_kept HB0.out (grown_trans hg1 hgW)
  have HAW : Hid (W.heap[ub]? = some (.cells #[.slice sa N sc, .int .i64 (ask : Int), .int .i64 (N : Int)] 59 (0, 0))) := by rw [hW, hub]; exact heap_alloc_last w1 _
  have HPW : Hid (AutP w.heap.size W (.slice sa N sc) ks (elF es) kv ev) := hAP.kept hgW
  have HWE := show Hid _ from hW
  have HBE := show Hid _ from hub
  clear hg1 hAP HX0 HB0 hgW hW hub
  have y0 : (w1.alloc (.cells #[.slice sa N sc, .int .i64 (ask : Int), .int .i64 (N : Int)] 59)).cell? ⟨w1.heap.size, 0, none⟩ = some (.slice sa N sc) := by rw [← HWE.out, ← HBE.out, cell_of_row _ _ _ _ _ _ HAW.out]; rfl
  obtain ⟨k0, k1, k2, k3, k4⟩ := HXW.out.cells
  rw [HWE.out] at k0 k1 k2 k3 k4
  have m0 := fun o => (World.grownBy_alloc _ o none).cell k0 (by simp)
  have m1 := fun o => (World.grownBy_alloc _ o none).cell k1 (by simp)
  have m2 := fun o => (World.grownBy_alloc _ o none).cell k2 (by simp)
  have m3 := fun o => (World.grownBy_alloc _ o none).cell k3 (by simp)
  have m4 := fun o => (World.grownBy_alloc _ o none).cell k4 (by simp)
  go_wp2_with fail
  rw [← HWE.out, ← HBE.out]
  clear k0 k1 k2 k3 k4 m0 m1 m2 m3 m4 y0 hbd
  obtain ⟨ab, hab⟩ : ∃ b, b = ub + 1 := ⟨_, rfl⟩
  have hsz : W.heap.size = ab := by rw [HWE.out, World.size_alloc, ← HBE.out, hab]
  have HLO : Hid (w.heap.size ≤ ab ∧ w.heap.size + 1 < ab) := by
    have h1 := HXW.out.grown.size
    have h2 := (Array.getElem?_eq_some_iff.1 HBW.out).1
    show _ ∧ _
    omega
  rw [← hab]
  obtain ⟨W0, hW0⟩ : ∃ X, X = W.alloc (.cells #[.slice ta tn tc, .slice na nn nc, .slice la ln lc, .int .i64 st, .slice pa n pc, .slice none 0 0, .slice sa N sc, .slice none 0 0, .slice none 0 0, .slice none 0 0] 81) := ⟨_, rfl⟩
  have hg0 : W.grownBy W0 none := by rw [hW0]; exact World.grownBy_alloc _ _ none
  have HX0 : Hid (PhAt w W0 w.heap.size #[.slice ta tn tc, .slice na nn nc, .slice la ln lc, .int .i64 st, .slice pa n pc]) := HXW.out.kept hg0
  have HR0 : Hid (W0.heap[w.heap.size + 1]? = some (.cells #[.slice none 0 0, .slice none 0 0, .slice none 0 0, .int .i64 0, .slice none 0 0, .slice none 0 0, .slice none 0 0, .slice none 0 0, .slice none 0 0, .slice none 0 0] 81 (0, 0))) := box_kept HBW.out hg0
  have HB0 : Hid (W0.heap[ab]? = some (.cells #[.slice ta tn tc, .slice na nn nc, .slice la ln lc, .int .i64 st, .slice pa n pc, .slice none 0 0, .slice sa N sc, .slice none 0 0, .slice none 0 0, .slice none 0 0] 81 (0, 0))) := by rw [hW0, ← hsz]; exact heap_alloc_last W _
  have HP0 : Hid (AutP w.heap.size W0 (.slice sa N sc) ks (elF es) kv ev) := HPW.out.kept hg0
  rw [← hW0]
  clear hW0 hg0 HXW HBW HAW HPW HWE HBE hab hsz
  refine Calls.mono (HLI.out _ HX0.out.grown) ?_
  rintro e w2 ⟨xa, xc, rfl, hown2, hg2⟩
  rw [← HT.out] at hown2 ⊢
  obtain ⟨y0, y1⟩ : w2.cell? ⟨ab, 7, none⟩ = some (.slice none 0 0) ∧ w2.frozen? ⟨ab, 7, none⟩ = false := by
    have h := box_kept HB0.out hg2
    exact ⟨by rw [cell_of_row _ _ _ _ _ _ h]; rfl, frozen_of_row _ _ _ _ _ h⟩
  have HB2 : Hid (w2.heap[ab]? = some (.cells #[.slice ta tn tc, .slice na nn nc, .slice la ln lc, .int .i64 st, .slice pa n pc, .slice none 0 0, .slice sa N sc, .slice none 0 0, .slice none 0 0, .slice none 0 0] 81 (0, 0))) := box_kept HB0.out hg2
  have HX2 : Hid (PhAt w w2 w.heap.size #[.slice ta tn tc, .slice na nn nc, .slice la ln lc, .int .i64 st, .slice pa n pc]) := HX0.out.kept hg2
  have HR2 : Hid (w2.heap[w.heap.size + 1]? = some (.cells #[.slice none 0 0, .slice none 0 0, .slice none 0 0, .int .i64 0, .slice none 0 0, .slice none 0 0, .slice none 0 0, .slice none 0 0, .slice none 0 0, .slice none 0 0] 81 (0, 0))) := box_kept HR0.out hg2
  have HP2 : Hid (AutP w.heap.size w2 (.slice sa N sc) ks (elF es) kv ev) := HP0.out.kept hg2
  have HT2 : Hid (w2.ownsRow w.heap.size 53 2 (.slice xa T xc) T (itsV tl)) := owns_base hown2 HX0.out.grown.size
  clear HB0 HX0 HR0 HP0 hown2 hg2
  obtain ⟨k0, k1, k2, k3, k4⟩ := HX2.out.cells
  go_wp2_with fail
  clear y0 y1 k0 k1 k2 k3 k4
  obtain ⟨X3, hX3⟩ : ∃ X, X = w2.setCell ⟨ab, 7, none⟩ (.slice xa T xc) := ⟨_, rfl⟩
  have hg3 : w2.grownBy X3 (some ab) := by rw [hX3]; exact grown_setCell _ _ _
  have hk3 : KeepA ab w2 X3 := .box HB2.out hg3
  have HB3 : Hid (X3.heap[ab]? = some (.cells #[.slice ta tn tc, .slice na nn nc, .slice la ln lc, .int .i64 st, .slice pa n pc, .slice none 0 0, .slice sa N sc, .slice xa T xc, .slice none 0 0, .slice none 0 0] 81 (0, 0))) := by rw [hX3]; exact heap_setCell_same _ _ _ _ _ _ HB2.out
  have HX3 : Hid (PhAt w X3 w.heap.size #[.slice ta tn tc, .slice na nn nc, .slice la ln lc, .int .i64 st, .slice pa n pc]) := ⟨grown_new HX2.out.grown hg3 HLO.out.1, hk3 _ _ _ HX2.out.box (by decide) (by decide) (fun e => absurd e (by decide))⟩
  have HR3 : Hid (X3.heap[w.heap.size + 1]? = some (.cells #[.slice none 0 0, .slice none 0 0, .slice none 0 0, .int .i64 0, .slice none 0 0, .slice none 0 0, .slice none 0 0, .slice none 0 0, .slice none 0 0, .slice none 0 0] 81 (0, 0))) := hk3 _ _ _ HR2.out (by decide) (by decide) (fun _ => Nat.ne_of_lt HLO.out.2)
  have HP3 : Hid (AutP w.heap.size X3 (.slice sa N sc) ks (elF es) kv ev) := ⟨hk3.owns HP2.out.row (by decide) (by decide) (by decide), fun i hi => hk3.owns (HP2.out.ker i hi) (by decide) (by decide) (by decide), fun i hi => hk3.owns (HP2.out.edg i hi) (by decide) (by decide) (by decide)⟩
  have HT3 : Hid (X3.ownsRow w.heap.size 53 2 (.slice xa T xc) T (itsV tl)) := hk3.owns HT2.out (by decide) (by decide) (by decide)
  rw [← hX3]
  clear hX3 hg3 hk3 HB2 HX2 HR2 HP2 HT2
  refine Calls.mono (HNU.out _ HX3.out.grown) ?_
  rintro e w4 ⟨nb, rfl, hnb, hval4, hg4⟩
  have HB4 : Hid (w4.heap[ab]? = some (.cells #[.slice ta tn tc, .slice na nn nc, .slice la ln lc, .int .i64 st, .slice pa n pc, .slice none 0 0, .slice sa N sc, .slice xa T xc, .slice none 0 0, .slice none 0 0] 81 (0, 0))) := box_kept HB3.out hg4
  have HU4 : Hid (UPas w.heap.size w4 w.heap.size (w.heap.size + 1) nb nn (.slice ta tn tc) (.slice na nn nc) (.slice la ln lc) (.int .i64 st) (.slice pa n pc) (.slice sa N sc) (.slice xa T xc) ks es kv ev tl F) := ⟨box_kept HX3.out.box hg4, box_kept HR3.out hg4, HP3.out.kept hg4, by rw [← HT.out]; exact keep0 HT3.out hg4, hval4⟩
  have HG4 : Hid (w.grownBy w4 none) := grown_trans HX3.out.grown hg4
  obtain ⟨y0, y1⟩ : w4.cell? ⟨ab, 5, none⟩ = some (.slice none 0 0) ∧ w4.frozen? ⟨ab, 5, none⟩ = false := ⟨by rw [cell_of_row _ _ _ _ _ _ HB4.out]; rfl, frozen_of_row _ _ _ _ _ HB4.out⟩
  have hz : ∀ k, (w4.setCell ⟨ab, 5, none⟩ (.slice (some ⟨nb, 0, none⟩) nn nn)).cell? ⟨w.heap.size, k, none⟩ = (#[.slice ta tn tc, .slice na nn nc, .slice la ln lc, .int .i64 st, .slice pa n pc] : Array Value)[k]? := fun k => by
    have h := (KeepA.box HB4.out (grown_setCell (w := w4) ab 5 (.slice (some ⟨nb, 0, none⟩) nn nn))) _ _ _ HU4.out.gbox (by decide) (by decide) (fun e => absurd e (by decide))
    exact cell_of_row _ _ _ _ _ _ h
  have k0 := hz 0
  have k1 := hz 1
  simp only [List.getElem?_toArray, List.getElem?_cons_zero, List.getElem?_cons_succ] at k0 k1
  have HL4 : Hid (RlP w (w4.setCell ⟨ab, 5, none⟩ (.slice (some ⟨nb, 0, none⟩) nn nn)) ab w.heap.size (w.heap.size + 1) nb nn (.slice ta tn tc) (.slice na nn nc) (.slice la ln lc) (.int .i64 st) (.slice pa n pc) (.slice (some ⟨nb, 0, none⟩) nn nn) (.slice sa N sc) (.slice xa T xc) (.slice none 0 0) (.slice none 0 0) (.slice none 0 0) (.slice none 0 0) 0 0 0 0 (tn + nn) (fun _ => 0) (fun _ => 0) (fun q s => ldF (es.getD q []) s) (fun _ _ => 0) ks es kv ev tl F) := by
    have hg := grown_setCell (w := w4) ab 5 (.slice (some ⟨nb, 0, none⟩) nn nn)
    exact ⟨grown_new HG4.out hg HLO.out.1, heap_setCell_same _ _ _ _ _ _ HB4.out, HU4.out.keep (.box HB4.out hg) (Nat.ne_of_lt HLO.out.2), .none_ _ _ _ _ _, .none_ _ _ _ _ _, fun _ _ h => absurd h (Nat.not_lt_zero _), fun b hb => (by cases hb), ⟨HLO.out.1, by omega⟩, Nat.ne_of_lt HLO.out.2⟩
  clear hg4 hval4 hnb HB3 HX3 HR3 HP3 HT3 HU4 HG4 HB4 hz
  obtain ⟨y6, -⟩ := HL4.out.cells.1
  go_wp2_with fail
  obtain ⟨S, hS⟩ : ∃ S, S = tn + nn := ⟨_, rfl⟩
  have hSi : (tn : Int) + (nn : Int) = (S : Int) := by omega
  have hSb : S ≤ 130 := by omega
  have HSE : Hid (S = tn + nn) := hS
  rw [← hS] at HL4 HES HTB
  rw [hSi]
  clear y0 y1 k0 k1 y6 hSi hS
  generalize w4.setCell ⟨ab, 5, none⟩ (.slice (some ⟨nb, 0, none⟩) nn nn) = X5 at HL4 ⊢
  go_loopg [50] N (fun gk v50 wr => ∃ (i lc1 mc1 : Nat) (la1 ma1 : Option Addr) (lb mb : Nat → Nat), i ≤ N ∧ gk = N - i ∧ v50 = .int .i64 i ∧ RlP w wr ab w.heap.size (w.heap.size + 1) nb nn (.slice ta tn tc) (.slice na nn nc) (.slice la ln lc) (.int .i64 st) (.slice pa n pc) (.slice (some ⟨nb, 0, none⟩) nn nn) (.slice sa N sc) (.slice xa T xc) (.slice la1 i lc1) (.slice ma1 i mc1) (.slice la1 i lc1) (.slice ma1 i mc1) i i i i S lb mb (fun q s => ldF (es.getD q []) s) (fun _ _ => 0) ks es kv ev tl F)
  case atStart => exact ⟨0, 0, 0, none, none, _, _, Nat.zero_le _, rfl, rfl, HL4.out⟩
  case round =>
    obtain ⟨i, lc1, mc1, la1, ma1, lb, mb, hi, hgi, rfl, hR⟩ := hrel
    have HGI : Hid (gk = N - i) := hgi
    have HR := show Hid _ from hR
    clear hgi hR HL4
    generalize wr = Z at *
    by_cases hlt : i < N
    · have hid : decide (i < N) = true := decide_eq_true hlt
      have hi0' : (0 : Int) ≤ (i : Int) := by omega
      have hi1 : (i : Int) < (N : Int) := by omega
      have hik : i < ks.length := by rw [← HN.out]; exact hlt
      have hPZ : AutP w.heap.size Z (.slice sa N sc) ks (elF es) kv ev := HR.out.pas.aut
      rw [HN.out] at hPZ
      obtain ⟨sb, sc', hsv, hs0, hs1⟩ := hPZ.st hik
      simp only [Value.slice.injEq] at hsv
      obtain ⟨rfl, _, rfl⟩ := hsv
      obtain ⟨ka, kc, hkv, _, _⟩ := hPZ.kerAt hik
      obtain ⟨ea, ec, hev, _⟩ := hPZ.edgAt hik
      have HEA : Hid (∀ Y, AutP w.heap.size Y (.slice (some ⟨sb, 0, none⟩) N sc) ks (elF es) kv ev → ItsAt Y ea (elF es i)) := fun Y h => by
        rw [HN.out] at h
        obtain ⟨ea2, ec2, h1, h2⟩ := h.edgAt hik
        rw [hev] at h1
        simp only [Value.slice.injEq] at h1
        rw [h1.1]; exact h2
      rw [hkv] at hs0
      rw [hev] at hs1
      obtain ⟨kl, hkl⟩ : ∃ k, k = (ks.getD i []).length := ⟨_, rfl⟩
      obtain ⟨E, hE⟩ : ∃ E, E = (elF es i).length := ⟨_, rfl⟩
      rw [← hkl] at hs0
      rw [← hE] at hs1
      have HE : Hid (E = (es.getD i []).length) := by show _ = _; rw [hE]; exact elF_len _ _
      have hEb : E ≤ 130 := by rw [HE.out]; exact (HES.out i hik).1
      clear hkl hE hkv hev hPZ
      go_wp2_with (at_make; refine wpList_make_full _ rfl _ _ 24 rfl w.heap.size 3 i0 (.int .i64 0) 1 Tryz.underlying24 hi0 hz0 hz1 .i64 .i64 _ _ S rfl rfl (by simp) (by simp) (by rw [hz2]; omega) (by unfold maxLen; omega) (by have := HR.out.grown.size; simp; omega) ?_)
      intro W1 hown hgrow
      have hval : ValAt W1 (Z.heap.size + 1) S 3 (fun _ => .int .i64 0) := made_rowK (B := w.heap.size) rfl (by simpa [Value.cells] using hown)
      obtain ⟨lb1, hlb1⟩ : ∃ f, f = updL lb i (Z.heap.size + 1) := ⟨_, rfl⟩
      have hlbi : Z.heap.size + 1 = lb1 i := by rw [hlb1, updL_same]
      have HR1 := show Hid _ from (HR.out.madeL (f := fun _ => 0) (grown_trans (World.grownBy_alloc _ _ none) hgrow) (Nat.le_succ _) hval).extL (fun q _ s _ => ldJ_zero es i q s)
      rw [← hlb1] at HR1
      rw [hlbi]
      have hc1 : W1.cell? ⟨Z.heap.size, 1, none⟩ = some (.slice ea E ec) := by rw [cell_of_row _ _ _ _ _ _ (box_kept (heap_alloc_last Z _) hgrow)]; rfl
      clear hown hgrow hval hlb1 hlbi HR hs0 hs1
      go_wp2_with fail
      go_loopg [59] E (fun gk v59 wr => ∃ (j : Nat), j ≤ E ∧ gk = E - j ∧ v59 = .int .i64 j ∧ RlP w wr ab w.heap.size (w.heap.size + 1) nb nn (.slice ta tn tc) (.slice na nn nc) (.slice la ln lc) (.int .i64 st) (.slice pa n pc) (.slice (some ⟨nb, 0, none⟩) nn nn) (.slice (some ⟨sb, 0, none⟩) N sc) (.slice xa T xc) (.slice la1 i lc1) (.slice ma1 i mc1) (.slice la1 i lc1) (.slice ma1 i mc1) i (i + 1) i i S lb1 mb (ldJ es i j) (fun _ _ => 0) ks es kv ev tl F)
      case atStart => exact ⟨0, Nat.zero_le _, rfl, rfl, HR1.out⟩
      case round =>
        obtain ⟨j, hj, hgj, rfl, hR2⟩ := hrel
        have HGJ : Hid (gk = E - j) := hgj
        have HR2 := show Hid _ from hR2
        clear hgj hR2 HR1
        by_cases hlj : j < E
        · have hjd : decide (j < E) = true := decide_eq_true hlj
          have hj0 : (0 : Int) ≤ (j : Int) := by omega
          have hj1 : (j : Int) < (E : Int) := by omega
          have hje : j < (es.getD i []).length := by rw [← HE.out]; exact hlj
          obtain ⟨eb, eo, hea, c0, c1⟩ := (HEA.out wr HR2.out.pas.aut).cellAt (i := j) (by rw [elF_len]; exact hje)
          subst hea
          rw [(elF_at hje).2] at c0 c1
          obtain ⟨x, hx⟩ : ∃ x, x = (es.getD i []).getD j (0, 0) := ⟨_, rfl⟩
          have hxb := (HES.out i hik).2.2 x (by
            rw [hx]
            generalize es.getD i [] = l at hje ⊢
            rw [List.getD_eq_getElem?_getD, List.getElem?_eq_getElem hje]; exact List.getElem_mem hje)
          rw [← hx] at c0 c1
          obtain ⟨s, t⟩ := x
          simp only at c0 c1 hxb
          have hR3 := HR2.out.kept (World.grownBy_alloc wr (.cells #[.int .i64 (s : Int), .int .i64 (t : Int)] 115) none)
          have HR4 := show Hid _ from (hR3.putL (q := i) (by omega) s (t : Int)).extL (fun q _ u _ => ldJ_step hje hx.symm (HES.out i hik).2.1 q u)
          have d0 := (hR3.l.val i (by omega)).cell s hxb.1
          have d1 := (hR3.l.val i (by omega)).free s
          have hs0 : (0 : Int) ≤ (s : Int) := by omega
          have hs1 : (s : Int) < (S : Int) := by omega
          clear hx hje hxb hR3
          go_wp2_with fail
          go_roundg (E - (j + 1))
          case measure => have := HGJ.out; omega
          case rel => exact ⟨j + 1, by omega, rfl, by go_num, HR4.out⟩
        · have hjE : E = j := by omega
          subst hjE
          have hjd : decide (E < E) = false := decide_eq_false (by omega)
          have HR3 := show Hid _ from HR2.out.extL (ld' := fun q s => ldF (es.getD q []) s) (fun q _ s _ => by rw [HE.out]; exact ldJ_end es i q s)
          clear HR2
          obtain ⟨⟨_, _, y8, y9⟩, yf⟩ := HR3.out.cells
          have HL3 : Hid (wr.ownsRow w.heap.size 24 1 (.slice la1 i lc1) i (tabV lb1 S i)) := HR3.out.l.row
          have hsz := HR3.out.grown.size
          go_wp2_with (at_builtin; refine wpList_append_lies _ rfl (.tmp 71) (.tmp 73) 30 rfl w.heap.size 24 i1 (.slice none 0 0) 1 24 Tryz.underlying30 hq1 hu0 hu1 hu2 rfl (by decide) (.slice la1 i lc1) i (tabV lb1 S i) rfl (HL3.out.alloc _) ⟨wr.heap.size, 0, none⟩ 1 1 [.slice (some ⟨lb1 i, 0, none⟩) S S] rfl rfl (World.news_of_block (heap_alloc_last wr _)) (by simp [Value.oneCell']) (by decide) (by unfold maxLen; omega) (by omega) (by simp; omega) _ rfl ?_)
          intro g7 c7 V hoV hgV hat _
          have HR5 := show Hid _ from (HR3.out.kept (World.grownBy_alloc wr (.cells #[.slice (some ⟨lb1 i, 0, none⟩) S S] 24) none)).pushL hgV hoV (by rw [World.size_alloc]; exact hat)
          have hR6 := HR5.out.setL (.slice (some ⟨g7, 0, none⟩) (i + 1) c7)
          obtain ⟨⟨_, _, z8, _⟩, zf⟩ := HR5.out.cells
          have z8f := zf 8
          have HR6 := show Hid _ from hR6
          clear y8 y9 yf HL3 hoV hgV hat hR6 zf hsz HR3
          go_wp2_with fail
          clear HR5 z8 z8f
          generalize V.setCell ⟨ab, 8, none⟩ (.slice (some ⟨g7, 0, none⟩) (i + 1) c7) = X6 at HR6 ⊢
          obtain ⟨⟨-, -, -, z9⟩, -⟩ := HR6.out.cells
          have m9 : ∀ o, (X6.alloc o).cell? ⟨ab, 9, none⟩ = some (.slice ma1 i mc1) := fun o => (World.grownBy_alloc _ o none).cell z9 (by simp)
          have n9 : ∀ o o', ((X6.alloc o).alloc o').cell? ⟨ab, 9, none⟩ = some (.slice ma1 i mc1) := fun o o' => (World.grownBy_alloc _ o' none).cell (m9 o) (by simp)
          have HOW : Hid (∀ Y, X6.grownBy Y none → Y.ownsRow w.heap.size 24 1 (.slice ma1 i mc1) i (tabV mb S i)) := fun Y hY => keep0 HR6.out.m.row hY
          have HPS : Hid (∀ Y, X6.grownBy Y none → w.heap.size ≤ Y.heap.size) := fun Y hY => Nat.le_trans HR6.out.grown.size hY.size
          have HFIN : Hid (∀ (Y V7 : World) (g c : Nat), X6.grownBy Y none → ValAt Y X6.heap.size S 3 (fun _ => .int .i64 0) → Y.grownBy V7 (Value.slice ma1 i mc1).ownBlock → V7.ownsRow w.heap.size 24 1 (.slice (some ⟨g, 0, none⟩) (i + 1) c) (i + 1) (tabV mb S i ++ [.slice (some ⟨X6.heap.size, 0, none⟩) S S]) → ((Value.slice ma1 i mc1).ownBlock = some g ∨ g = Y.heap.size) → V7.cell? ⟨ab, 9, none⟩ = some (.slice ma1 i mc1) ∧ V7.frozen? ⟨ab, 9, none⟩ = false ∧ ∃ mb2, RlP w (V7.setCell ⟨ab, 9, none⟩ (.slice (some ⟨g, 0, none⟩) (i + 1) c)) ab w.heap.size (w.heap.size + 1) nb nn (.slice ta tn tc) (.slice na nn nc) (.slice la ln lc) (.int .i64 st) (.slice pa n pc) (.slice (some ⟨nb, 0, none⟩) nn nn) (.slice (some ⟨sb, 0, none⟩) N sc) (.slice xa T xc) (.slice (some ⟨g7, 0, none⟩) (i + 1) c7) (.slice (some ⟨g, 0, none⟩) (i + 1) c) (.slice (some ⟨g7, 0, none⟩) (i + 1) c7) (.slice (some ⟨g, 0, none⟩) (i + 1) c) (i + 1) (i + 1) (i + 1) (i + 1) S lb1 mb2 (fun q s => ldF (es.getD q []) s) (fun _ _ => 0) ks es kv ev tl F) := fun Y V7 g c hY hv hg ho hat => by
            have h1 := HR6.out.madeM (f := fun _ => 0) hY (Nat.le_refl _) hv
            have h2 := (h1.pushM (g := g) (c := c) hg (by rw [updL_same, tabV_congr (lb' := mb) i fun q hq => updL_other _ _ (by omega)]; exact ho) hat).extM (nm' := fun _ _ => 0) (fun q _ s _ => by
              unfold updL
              by_cases e : q = i
              · rw [if_pos e]
              · rw [if_neg e])
            obtain ⟨⟨-, -, -, h3⟩, h4⟩ := h2.cells
            exact ⟨h3, h4 9, _, h2.setM _⟩
          have hmk : ∀ u : World, (Instr.makeSlice 24 (.int .i64 (S : Int)) (.int .i64 (S : Int))).run Tryz.prog u = .ok (.slice (some ⟨u.heap.size, 0, none⟩) S S) (u.alloc (.cells (madeCells #[.int .i64 0] S) 3)) := fun u => mk_ints u hi0 hz0 hz1 hz2 hSb
          have HVA : Hid (∀ Y : World, Y.heap[X6.heap.size]? = some (.cells (madeCells #[.int .i64 0] S) 3 (0, 0)) → ValAt Y X6.heap.size S 3 (fun _ => .int .i64 0)) := fun Y h => mk_val h
          clear HR6
          go_region_law (first
            | (refine step_append_liesW _ rfl (.tmp 77) (.tmp 80) 30 rfl w.heap.size 24 i1 (.slice none 0 0) 1 24 Tryz.underlying30 hq1 hu0 hu1 hu2 rfl (by decide) (.slice ma1 i mc1) i (tabV mb S i) (by simp [Act.eval]) (HOW.out _ (grown_trans (World.grownBy_alloc _ _ none) (grown_trans (World.grownBy_alloc _ _ none) (grown_drewN _ _)))) ⟨X6.heap.size + 1, 0, none⟩ 1 1 [.slice (some ⟨X6.heap.size, 0, none⟩) S S] (by simp [Act.eval]) rfl (World.news_of_block (u_second _ _ _ _)) (by simp [Value.oneCell']) (by decide) (by unfold maxLen; omega) (by omega) (HPS.out _ (grown_trans (World.grownBy_alloc _ _ none) (grown_trans (World.grownBy_alloc _ _ none) (grown_drewN _ _)))) ?_; intro g9 c9 wB hoB hgB hat; obtain ⟨q1, q2, q3⟩ := HFIN.out _ wB g9 c9 (grown_trans (World.grownBy_alloc _ _ none) (grown_trans (World.grownBy_alloc _ _ none) (grown_drewN _ _))) (HVA.out _ (u_first _ _ _ _)) hgB hoB hat; have HQ1 := show Hid _ from q3; clear q3 hoB hgB hat)
            | fail)
          all_goals go_wp2_with fail
          all_goals go_roundg (N - (i + 1))
          all_goals first
            | exact (show ∃ (i' lc1' mc1' : Nat) (la1' ma1' : Option Addr) (lb' mb' : Nat → Nat), _ from (by obtain ⟨mb2, h9⟩ := HQ1.out; exact ⟨i + 1, _, _, _, _, lb1, mb2, by omega, rfl, by go_num, h9⟩))
            | (have := HGI.out; omega)
    · have hiN : N = i := by omega
      subst hiN
      have hid : decide (N < N) = false := decide_eq_false (by omega)
      obtain ⟨⟨-, y7, -, -⟩, -⟩ := HR.out.cells
      go_wp2_with fail
      clear y7
      have HR7 := show Hid _ from HR.out.extM (nm' := fun q s => nmF (tl.take 0) q s) (fun q _ s _ => by rw [List.take_zero]; exact (nmF_nil q s).symm)
      clear HR
      go_loopg [87] T (fun gk v87 wr => ∃ (k : Nat), k ≤ T ∧ gk = T - k ∧ v87 = .int .i64 k ∧ RlP w wr ab w.heap.size (w.heap.size + 1) nb nn (.slice ta tn tc) (.slice na nn nc) (.slice la ln lc) (.int .i64 st) (.slice pa n pc) (.slice (some ⟨nb, 0, none⟩) nn nn) (.slice sa N sc) (.slice xa T xc) (.slice la1 N lc1) (.slice ma1 N mc1) (.slice la1 N lc1) (.slice ma1 N mc1) N N N N S lb mb (fun q s => ldF (es.getD q []) s) (fun q s => nmF (tl.take k) q s) ks es kv ev tl F)
      case atStart => exact ⟨0, Nat.zero_le _, rfl, rfl, HR7.out⟩
      case round =>
        obtain ⟨k, hk, hgk, rfl, hR8⟩ := hrel
        have HGK : Hid (gk = T - k) := hgk
        have HR8 := show Hid _ from hR8
        clear hgk hR8 HR7
        generalize wr = Y at *
        by_cases hlk : k < T
        · have hkd : decide (k < T) = true := decide_eq_true hlk
          have hk0 : (0 : Int) ≤ (k : Int) := by omega
          have hk1 : (k : Int) < (T : Int) := by omega
          have hkt : k < tl.length := by rw [← HT.out]; exact hlk
          have hTR := HR8.out.pas.trs
          rw [HT.out] at hTR
          obtain ⟨xb, xo, hxa, c0, c1⟩ := (ItsAt.ofT hTR).cellAt hkt
          subst hxa
          obtain ⟨q, s, hqs, hqN, hsS⟩ := HTB.out (tl.getD k (0, 0)) (by
            rw [List.getD_eq_getElem?_getD, List.getElem?_eq_getElem hkt]; exact List.getElem_mem hkt)
          rw [hqs] at c0 c1
          rw [← HN.out] at hqN
          have HTK : Hid (tl.take (k + 1) = tl.take k ++ [((q : Int), (s : Int))] ∧ ((q : Int), (s : Int)) ∉ tl.take k ∧ (tl.take k).length = k) := by
            have e1 : tl.take (k + 1) = tl.take k ++ [((q : Int), (s : Int))] := by
              rw [List.take_succ_eq_append_getElem hkt]
              rw [List.getD_eq_getElem?_getD, List.getElem?_eq_getElem hkt] at hqs
              exact congrArg _ (congrArg (fun y => [y]) hqs)
            refine ⟨e1, ?_, List.length_take_of_le (by omega)⟩
            have h2 : (tl.take (k + 1)).Nodup := List.Nodup.sublist (List.take_sublist _ _) HTN.out
            rw [e1, List.nodup_append] at h2
            intro h3
            exact h2.2.2 _ h3 _ (by simp) rfl
          have HRT : Hid (∀ u, Y.grownBy u none → RlP w u ab w.heap.size (w.heap.size + 1) nb nn (.slice ta tn tc) (.slice na nn nc) (.slice la ln lc) (.int .i64 st) (.slice pa n pc) (.slice (some ⟨nb, 0, none⟩) nn nn) (.slice sa N sc) (.slice (some ⟨xb, xo, none⟩) T xc) (.slice la1 N lc1) (.slice ma1 N mc1) (.slice la1 N lc1) (.slice ma1 N mc1) N N N N S lb mb (fun q s => ldF (es.getD q []) s) (fun q s => nmF (tl.take k) q s) ks es kv ev tl F) := fun u hu => HR8.out.kept hu
          obtain ⟨g, c, hmv, d0, d1⟩ := HR8.out.m.at hqN
          simp only [Value.slice.injEq, true_and] at hmv
          obtain ⟨rfl, rfl⟩ := hmv
          have hq0 : (0 : Int) ≤ (q : Int) := by omega
          have hq1' : (q : Int) < (N : Int) := by omega
          have hs0 : (0 : Int) ≤ (s : Int) := by omega
          have hs1 : (s : Int) < (S : Int) := by omega
          clear hTR hqs
          go_wp2_with fail
          obtain ⟨X9, hX9⟩ : ∃ X, X = Y.alloc (.cells #[.int .i64 (q : Int), .int .i64 (s : Int)] 53) := ⟨_, rfl⟩
          have hg9 : Y.grownBy X9 none := by rw [hX9]; exact World.grownBy_alloc _ _ none
          have t0 : X9.cell? ⟨Y.heap.size, 0, none⟩ = some (.int .i64 (q : Int)) := by rw [hX9, cell_of_row _ _ _ _ _ _ (heap_alloc_last Y _)]; rfl
          have t1 : X9.cell? ⟨Y.heap.size, 1, none⟩ = some (.int .i64 (s : Int)) := by rw [hX9, cell_of_row _ _ _ _ _ _ (heap_alloc_last Y _)]; rfl
          have t2 : X9.cell? ⟨ab, 9, none⟩ = some (.slice (some ⟨g, 0, none⟩) N mc1) := (HRT.out X9 hg9).cells.1.2.2.2
          have t3 : X9.cell? ⟨g, q, none⟩ = some (.slice (some ⟨mb q, 0, none⟩) S S) := hg9.cell d0 (by simp)
          have t4 : X9.cell? ⟨mb q, s, none⟩ = some (.int .i64 (nmF (tl.take k) q s)) := hg9.cell (d1 s hsS) (by simp)
          have t5 : X9.frozen? ⟨mb q, s, none⟩ = false := ((HRT.out X9 hg9).m.val q hqN).free s
          have HFIN : Hid (∀ u, X9.grownBy u none → RlP w (u.setCell ⟨mb q, s, none⟩ (.int .i64 (k : Int))) ab w.heap.size (w.heap.size + 1) nb nn (.slice ta tn tc) (.slice na nn nc) (.slice la ln lc) (.int .i64 st) (.slice pa n pc) (.slice (some ⟨nb, 0, none⟩) nn nn) (.slice sa N sc) (.slice (some ⟨xb, xo, none⟩) T xc) (.slice la1 N lc1) (.slice (some ⟨g, 0, none⟩) N mc1) (.slice la1 N lc1) (.slice (some ⟨g, 0, none⟩) N mc1) N N N N S lb mb (fun q s => ldF (es.getD q []) s) (fun q s => nmF (tl.take (k + 1)) q s) ks es kv ev tl F) := fun u hu => ((HRT.out u (grown_trans hg9 hu)).putM hqN s (k : Int)).extM (fun q' _ s' _ => by
            obtain ⟨e1, e2, e3⟩ := HTK.out
            rw [e1, nmF_snoc e2, e3]
            unfold updL
            by_cases e : q' = q
            · subst e
              rw [if_pos rfl]
              by_cases e4 : s' = s
              · subst e4
                rw [if_pos rfl, if_pos rfl]
              · rw [if_neg e4, if_neg (by simp only [Prod.mk.injEq]; omega)]
            · rw [if_neg e, if_neg (by simp only [Prod.mk.injEq]; omega)])
          have HKS : Hid ((X9.setCell ⟨mb q, s, none⟩ (.int .i64 (k : Int))).cell? ⟨Y.heap.size, 0, none⟩ = some (.int .i64 (q : Int)) ∧ (X9.setCell ⟨mb q, s, none⟩ (.int .i64 (k : Int))).cell? ⟨Y.heap.size, 1, none⟩ = some (.int .i64 (s : Int)) ∧ (X9.setCell ⟨mb q, s, none⟩ (.int .i64 (k : Int))).cell? ⟨ab, 9, none⟩ = some (.slice (some ⟨g, 0, none⟩) N mc1) ∧ (X9.setCell ⟨mb q, s, none⟩ (.int .i64 (k : Int))).cell? ⟨g, q, none⟩ = some (.slice (some ⟨mb q, 0, none⟩) S S)) := by
            have hgs : X9.grownBy (X9.setCell ⟨mb q, s, none⟩ (.int .i64 (k : Int))) (some (mb q)) := grown_setCell _ _ _
            have hv := (HRT.out X9 hg9).m.val q hqN
            have n1 : Y.heap.size ≠ mb q := by
              have := (HR8.out.m.val q hqN).lt
              omega
            have n2 : ab ≠ mb q := fun e => by
              have h := (HRT.out X9 hg9).box
              unfold ValAt at hv
              rw [e, hv] at h
              simp only [Option.some.injEq, Obj.cells.injEq] at h
              exact absurd h.2.1 (by decide)
            have n3 : g ≠ mb q := fun e => by
              rcases owns_nebox (HRT.out X9 hg9).m.row hv (by decide) with h | h
              · cases h
              · exact h (by rw [← e]; rfl)
            exact ⟨hgs.cell t0 (by simp [n1]), hgs.cell t1 (by simp [n1]), hgs.cell t2 (by simp [n2]), hgs.cell t3 (by simp [n3])⟩
          rw [← hX9]
          clear hX9 hg9 HRT d0 d1 c0 c1 HR8 HTK
          go_region_held3 (fun x => x.cell? ⟨Y.heap.size, 0, none⟩ = some (.int .i64 (q : Int)) ∧ x.cell? ⟨Y.heap.size, 1, none⟩ = some (.int .i64 (s : Int)) ∧ x.cell? ⟨ab, 9, none⟩ = some (.slice (some ⟨g, 0, none⟩) N mc1) ∧ x.cell? ⟨g, q, none⟩ = some (.slice (some ⟨mb q, 0, none⟩) S S)) (first | exact HKS.out | go_keep) (fail)
          all_goals go_wp2_with fail
          all_goals go_roundg (T - (k + 1))
          all_goals first
            | exact (show ∃ (k' : Nat), _ from ⟨k + 1, by omega, rfl, by go_num, HFIN.out _ (grown_drewN _ _)⟩)
            | (have := HGK.out; omega)
        · have hkT : T = k := by omega
          subst hkT
          have hkd : decide (T < T) = false := decide_eq_false (by omega)
          have HTA : Hid (tl.take T = tl) := by show _ = _; rw [HT.out]; exact List.take_length
          rw [HTA.out] at HR8
          have kc := fun j => cell_of_row _ ab j _ _ _ HR8.out.box
          obtain ⟨k0, k1, k2, k3, k4, k5, k6, k7, k8, k9⟩ : _ ∧ _ ∧ _ ∧ _ ∧ _ ∧ _ ∧ _ ∧ _ ∧ _ ∧ _ := ⟨kc 0, kc 1, kc 2, kc 3, kc 4, kc 5, kc 6, kc 7, kc 8, kc 9⟩
          have qc := fun j => cell_of_row _ (w.heap.size + 1) j _ _ _ HR8.out.pas.res
          obtain ⟨q0, q1, q2, q3, q4, q5, q6, q7, q8, q9⟩ : _ ∧ _ ∧ _ ∧ _ ∧ _ ∧ _ ∧ _ ∧ _ ∧ _ ∧ _ := ⟨qc 0, qc 1, qc 2, qc 3, qc 4, qc 5, qc 6, qc 7, qc 8, qc 9⟩
          have qf := fun j => frozen_of_row _ (w.heap.size + 1) j _ _ HR8.out.pas.res
          simp only [List.getElem?_toArray, List.getElem?_cons_zero, List.getElem?_cons_succ] at k0 k1 k2 k3 k4 k5 k6 k7 k8 k9 q0 q1 q2 q3 q4 q5 q6 q7 q8 q9
          clear kc qc
          go_wp2_with fail
          refine bodyPost_ret (v := .tuple #[.agg #[.slice ta tn tc, .slice na nn nc, .slice la ln lc, .int .i64 st, .slice pa n pc, .slice (some ⟨nb, 0, none⟩) nn nn, .slice sa N sc, .slice xa T xc, .slice la1 N lc1, .slice ma1 N mc1], .int .i64 0]) ?_ rfl ?_
          · exact results_uof _ _ (w.heap.size + 1) _ _ rfl rfl (set10_heap HR8.out.pas.res _ _ _ _ _ _ _ _ _ _) rfl
          · have hgs := set10_grown Y (w.heap.size + 1) (.slice ta tn tc) (.slice na nn nc) (.slice la ln lc) (.int .i64 st) (.slice pa n pc) (.slice (some ⟨nb, 0, none⟩) nn nn) (.slice sa N sc) (.slice xa T xc) (.slice la1 N lc1) (.slice ma1 N mc1)
            have hk : KeepA (w.heap.size + 1) Y _ := KeepA.box HR8.out.pas.res hgs
            have hP := HR8.out.pas
            have hl := HR8.out.l.boxed HR8.out.pas.res (by decide) (by decide) hgs
            have hm := HR8.out.m.boxed HR8.out.pas.res (by decide) (by decide) hgs
            have hau : AutP w.heap.size _ (.slice sa N sc) ks (elF es) kv ev := ⟨hk.owns hP.aut.row (by decide) (by decide) (by decide), fun i hi => hk.owns (hP.aut.ker i hi) (by decide) (by decide) (by decide), fun i hi => hk.owns (hP.aut.edg i hi) (by decide) (by decide) (by decide)⟩
            have htr := hk.owns hP.trs (by decide) (by decide) (by decide)
            have hnu := hk _ _ _ hP.nul (by decide) (by decide) (fun e => absurd e (by decide))
            have hgf := grown_new HR8.out.grown hgs (by omega)
            have eN := HN.out
            have eT := HT.out
            have eS := HSE.out
            clear HN HT HSE
            subst eN
            subst eT
            subst eS
            exact ⟨nb, sa, xa, la1, ma1, sc, xc, lc1, mc1, kv, ev, lb, mb, rfl, ⟨hau, htr, hnu, hl, hm⟩, hgf⟩
end

end Go.Proofs.YtkbjbijoekmooaaGreat.J

/-
  relate: isTerm, vanishes.
-/
namespace Go.Proofs.YtkbjbijoekmooaaGreat.J
open Go.RowKit Go.Maps Go.Shelf

attribute [local go_sem] Oper.semAt_some

theorem RaAt.kept {B : Nat} {X Y : World} {nb nn S : Nat} {sv tv lv mv : Value} {ks : List (List It)} {es : List (List (Nat × Nat))} {kv ev : Nat → Value} {tl : List It} {F : Nat → Bool} {lb mb : Nat → Nat} (h : RaAt B X nb nn S sv tv lv mv ks es kv ev tl F lb mb) (hg : X.grownBy Y none) : RaAt B Y nb nn S sv tv lv mv ks es kv ev tl F lb mb :=
  ⟨h.aut.kept hg, keep0 h.trs hg, h.nul.kept hg, h.l.kept hg, h.m.kept hg⟩

section
variable (ta na la pa sa xa l1 m1 : Option Addr) (tc nc lc pc sc xc lc1 mc1 : Nat) (n N T nb : Nat) (st : Int) (w : World) (tn nn ln : Nat)

theorem uisTerm_any (s : Int) (b : Bool) (hb : b = decide (s < (tn : Int))) : Calls Tryz.prog 61 #[.agg #[.slice ta tn tc, .slice na nn nc, .slice la ln lc, .int .i64 st, .slice pa n pc, .slice (some ⟨nb, 0, none⟩) nn nn, .slice sa N sc, .slice xa T xc, .slice l1 N lc1, .slice m1 N mc1], .int .i64 s] w fun e y => e = .returned (.bool b) ∧ w.grownBy y none := by
  have HG0 : Hid (w.grownBy (w.alloc (.cells #[.slice ta tn tc, .slice na nn nc, .slice la ln lc, .int .i64 st, .slice pa n pc, .slice (some ⟨nb, 0, none⟩) nn nn, .slice sa N sc, .slice xa T xc, .slice l1 N lc1, .slice m1 N mc1] 81)) none) := World.grownBy_alloc _ _ none
  subst hb
  go_enter Tryz.func61, Tryz.ntmps61
  go_wp2_with fail
  go_ret
  exact ⟨rfl, HG0.out⟩

set_option maxRecDepth 100000 in
theorem uvan_any (F : Nat → Bool) (hR : ValAt w nb nn 4 (fun i => .bool (F i))) (hnn : nn ≤ 65) (s : Nat) (hs : s < tn + nn) (b : Bool) (hb : b = (decide (tn ≤ s) && F (s - tn))) : Calls Tryz.prog 58 #[.agg #[.slice ta tn tc, .slice na nn nc, .slice la ln lc, .int .i64 st, .slice pa n pc, .slice (some ⟨nb, 0, none⟩) nn nn, .slice sa N sc, .slice xa T xc, .slice l1 N lc1, .slice m1 N mc1], .int .i64 (s : Int)] w fun e y => e = .returned (.bool b) ∧ w.grownBy y none := by
  have HX0 : Hid ((w.alloc (.cells #[.slice ta tn tc, .slice na nn nc, .slice la ln lc, .int .i64 st, .slice pa n pc, .slice (some ⟨nb, 0, none⟩) nn nn, .slice sa N sc, .slice xa T xc, .slice l1 N lc1, .slice m1 N mc1] 81)).heap[w.heap.size]? = some (.cells #[.slice ta tn tc, .slice na nn nc, .slice la ln lc, .int .i64 st, .slice pa n pc, .slice (some ⟨nb, 0, none⟩) nn nn, .slice sa N sc, .slice xa T xc, .slice l1 N lc1, .slice m1 N mc1] 81 (0, 0))) := heap_alloc_last w _
  have HG0 : Hid (w.grownBy (w.alloc (.cells #[.slice ta tn tc, .slice na nn nc, .slice la ln lc, .int .i64 st, .slice pa n pc, .slice (some ⟨nb, 0, none⟩) nn nn, .slice sa N sc, .slice xa T xc, .slice l1 N lc1, .slice m1 N mc1] 81)) none) := World.grownBy_alloc _ _ none
  have HIT : Hid (∀ X, Calls Tryz.prog 61 #[.agg #[.slice ta tn tc, .slice na nn nc, .slice la ln lc, .int .i64 st, .slice pa n pc, .slice (some ⟨nb, 0, none⟩) nn nn, .slice sa N sc, .slice xa T xc, .slice l1 N lc1, .slice m1 N mc1], .int .i64 (s : Int)] X fun e y => e = .returned (.bool (decide (s < tn))) ∧ X.grownBy y none) := fun X => uisTerm_any ta na la pa sa xa l1 m1 tc nc lc pc sc xc lc1 mc1 n N T nb st X tn nn ln (s : Int) (decide (s < tn)) (by simp)
  have HV : Hid (ValAt w nb nn 4 (fun i => .bool (F i))) := hR
  have HB := show Hid _ from hb
  clear hR hb
  by_cases h : s < tn
  · have hd : decide (s < tn) = true := decide_eq_true h
    rw [hd] at HIT
    have HBB : Hid (b = false) := by show _ = _; rw [HB.out, decide_eq_false (by omega)]; rfl
    go_enter Tryz.func58, Tryz.ntmps58
    go_wp2_with fail
    refine Calls.mono (HIT.out _) ?_
    rintro e w1 ⟨rfl, hg1⟩
    have HG1 : Hid (w.grownBy w1 none) := grown_trans HG0.out hg1
    clear hg1 HX0
    go_wp2_with fail
    go_ret
    exact ⟨by rw [HBB.out]; rfl, HG1.out⟩
  · have hd : decide (s < tn) = false := decide_eq_false h
    rw [hd] at HIT
    obtain ⟨k, hk⟩ : ∃ k, k = s - tn := ⟨_, rfl⟩
    have hsk : (s : Int) - (tn : Int) = (k : Int) := by omega
    have hk0 : (0 : Int) ≤ (k : Int) := by omega
    have hk1 : (k : Int) < (nn : Int) := by omega
    have HBB : Hid (b = F k) := by show _ = _; rw [HB.out, decide_eq_true (by omega), hk]; rfl
    clear hk
    go_enter Tryz.func58, Tryz.ntmps58
    go_wp2_with fail
    refine Calls.mono (HIT.out _) ?_
    rintro e w1 ⟨rfl, hg1⟩
    have HG1 : Hid (w.grownBy w1 none) := grown_trans HG0.out hg1
    have hbx := box_kept HX0.out hg1
    have c5 : w1.cell? ⟨w.heap.size, 5, none⟩ = some (.slice (some ⟨nb, 0, none⟩) nn nn) := by rw [cell_of_row _ _ _ _ _ _ hbx]; rfl
    have c0 : w1.cell? ⟨w.heap.size, 0, none⟩ = some (.slice ta tn tc) := by rw [cell_of_row _ _ _ _ _ _ hbx]; rfl
    have cv : w1.cell? ⟨nb, k, none⟩ = some (.bool (F k)) := (HV.out.kept HG1.out).cell k (by omega)
    clear hg1 HX0 hbx
    go_wp2_with fail
    go_ret
    exact ⟨by rw [HBB.out]; rfl, HG1.out⟩
end

end Go.Proofs.YtkbjbijoekmooaaGreat.J

/-
  relate: through.
-/
namespace Go.Proofs.YtkbjbijoekmooaaGreat.J
open Go.RowKit Go.Maps Go.Shelf

attribute [local go_sem] Oper.semAt_some

/-- The states through which a row leads. -/
def stF (es : List (List (Nat × Nat))) (q : Nat) (row : List Int) : Nat → Nat
  | 0 => q
  | i + 1 => (ldF (es.getD (stF es q row i) []) (row.getD i 0).toNat).toNat
theorem ldF_range {l : List (Nat × Nat)} {N : Nat} (hN : 0 < N) (h : ∀ x ∈ l, x.2 < N) (s : Nat) : 0 ≤ ldF l s ∧ ldF l s < (N : Int) := by
  unfold ldF nextL
  cases hf : l.find? fun x => decide ((x.1 : Int) = (s : Int)) with
  | none => exact ⟨Int.le_refl _, by show (0 : Int) < _; omega⟩
  | some x =>
    have h1 := h x (List.mem_of_find?_eq_some hf)
    show 0 ≤ (x.2 : Int) ∧ (x.2 : Int) < (N : Int)
    omega
theorem stF_lt {es : List (List (Nat × Nat))} {q N : Nat} {row : List Int} (hq : q < N) (h : ∀ r, r < N → ∀ x ∈ es.getD r [], x.2 < N) : ∀ i, stF es q row i < N
  | 0 => hq
  | i + 1 => by
    have h1 := ldF_range (l := es.getD (stF es q row i) []) (by omega) (h _ (stF_lt hq h i)) (row.getD i 0).toNat
    unfold stF
    omega
/-- The states, once i symbols have been gone over; 0 behind. -/
def stT (es : List (List (Nat × Nat))) (q : Nat) (row : List Int) (k i : Nat) : Int := if i ≤ k then (stF es q row i : Int) else 0

section
variable (ta na la pa sa xa l1 m1 : Option Addr) (tc nc lc pc sc xc lc1 mc1 : Nat) (n N T nb : Nat) (st : Int) (w : World) (tn nn ln : Nat)

set_option maxRecDepth 100000 in
set_option maxHeartbeats 2000000 in
theorem uthr_any (B S : Nat) (es : List (List (Nat × Nat))) (lb : Nat → Nat) (hT : TbP B w (.slice l1 N lc1) N N S lb (fun q s => ldF (es.getD q []) s)) (hes : ∀ r, r < N → ∀ x ∈ es.getD r [], x.2 < N) (q : Nat) (hq : q < N) (hN : N ≤ 256) (a : Option Addr) (c : Nat) (row : List Int) (hrow : IntsAt w a row) (hlen : row.length ≤ 1000000) (hr : ∀ x ∈ row, 0 ≤ x ∧ x < (S : Int)) :
    Calls Tryz.prog 89 #[.agg #[.slice ta tn tc, .slice na nn nc, .slice la ln lc, .int .i64 st, .slice pa n pc, .slice (some ⟨nb, 0, none⟩) nn nn, .slice sa N sc, .slice xa T xc, .slice l1 N lc1, .slice m1 N mc1], .int .i64 (q : Int), .slice a row.length c] w fun e y => ∃ k, e = .returned (.slice (some ⟨k, 0, none⟩) (row.length + 1) (row.length + 1)) ∧ w.heap.size ≤ k ∧ ValAt y k (row.length + 1) 3 (fun i => .int .i64 (stF es q row i : Int)) ∧ w.grownBy y none := by
  have HT : Hid (∀ X, w.grownBy X none → TbP B X (.slice l1 N lc1) N N S lb (fun q s => ldF (es.getD q []) s)) := fun X hX => hT.kept hX
  have HRW : Hid (∀ X, w.grownBy X none → IntsAt X a row) := fun X hX => hrow.kept hX
  have HRR := show Hid _ from hr
  have HLT : Hid (∀ i, stF es q row i < N) := stF_lt hq hes
  have HRG : Hid (∀ r, r < N → ∀ s, 0 ≤ ldF (es.getD r []) s) := fun r hr s => (ldF_range (by omega) (hes r hr) s).1
  have HX0 : Hid ((w.alloc (.cells #[.slice ta tn tc, .slice na nn nc, .slice la ln lc, .int .i64 st, .slice pa n pc, .slice (some ⟨nb, 0, none⟩) nn nn, .slice sa N sc, .slice xa T xc, .slice l1 N lc1, .slice m1 N mc1] 81)).heap[w.heap.size]? = some (.cells #[.slice ta tn tc, .slice na nn nc, .slice la ln lc, .int .i64 st, .slice pa n pc, .slice (some ⟨nb, 0, none⟩) nn nn, .slice sa N sc, .slice xa T xc, .slice l1 N lc1, .slice m1 N mc1] 81 (0, 0))) := heap_alloc_last w _
  obtain ⟨m, hm⟩ : ∃ m, m = row.length := ⟨_, rfl⟩
  have HM : Hid (m = row.length) := hm
  rw [← hm] at hlen ⊢
  obtain ⟨i0, hi0, hz0, hz1, hz2⟩ := info_parts infoInt
  have hw1 : (1 : Int) + (m : Int) = ((m + 1 : Nat) : Int) := by omega
  clear hT hrow hr hes hm
  go_enter Tryz.func89, Tryz.ntmps89
  go_wp2_with (at_make; refine wpList_make_full _ rfl _ _ 24 rfl w.heap.size 3 i0 (.int .i64 0) 1 Tryz.underlying24 hi0 hz0 hz1 .i64 .i64 _ _ (m + 1) rfl rfl (by omega) (by omega) (by rw [hz2]; omega) (by unfold maxLen; omega) (by simp) ?_)
  intro W1 hown hgrow
  have hval : ValAt W1 (w.heap.size + 1) (m + 1) 3 (fun _ => .int .i64 0) := made_rowK (B := w.heap.size) rfl (by simpa [Value.cells] using hown)
  have HB1 : Hid (W1.heap[w.heap.size]? = some (.cells #[.slice ta tn tc, .slice na nn nc, .slice la ln lc, .int .i64 st, .slice pa n pc, .slice (some ⟨nb, 0, none⟩) nn nn, .slice sa N sc, .slice xa T xc, .slice l1 N lc1, .slice m1 N mc1] 81 (0, 0))) := box_kept HX0.out hgrow
  have HG1 : Hid (w.grownBy W1 none) := grown_trans (World.grownBy_alloc _ _ none) hgrow
  have v0 := hval.cell 0 (by omega)
  have v1 := hval.free 0
  have HV1 : Hid (ValAt (W1.setCell ⟨w.heap.size + 1, 0, none⟩ (.int .i64 (q : Int))) (w.heap.size + 1) (m + 1) 3 (fun i => .int .i64 (stT es q row 0 i))) := (hval.set 0 (.int .i64 (q : Int))).ext fun i _ => by
    unfold put stT
    by_cases e : i = 0
    · subst e; rfl
    · simp only [if_neg e]; rw [if_neg (by omega)]
  have HB2 : Hid ((W1.setCell ⟨w.heap.size + 1, 0, none⟩ (.int .i64 (q : Int))).heap[w.heap.size]? = some (.cells #[.slice ta tn tc, .slice na nn nc, .slice la ln lc, .int .i64 st, .slice pa n pc, .slice (some ⟨nb, 0, none⟩) nn nn, .slice sa N sc, .slice xa T xc, .slice l1 N lc1, .slice m1 N mc1] 81 (0, 0))) := ((grown_setCell (w := W1) (w.heap.size + 1) 0 (.int .i64 (q : Int))).block _ (Array.getElem?_eq_some_iff.1 HB1.out).1 (by simp)).trans HB1.out
  have HG2 : Hid (w.grownBy (W1.setCell ⟨w.heap.size + 1, 0, none⟩ (.int .i64 (q : Int))) none) := grown_new HG1.out (grown_setCell (w.heap.size + 1) 0 (.int .i64 (q : Int))) (by omega)
  clear hown hgrow hval HX0 HG1 HB1
  go_wp2_with fail
  generalize W1.setCell ⟨w.heap.size + 1, 0, none⟩ (.int .i64 (q : Int)) = W2 at HV1 HB2 HG2 ⊢
  clear v0 v1
  go_loopg [19] m (fun gk v19 wr => ∃ (j : Nat), j ≤ m ∧ gk = m - j ∧ v19 = .int .i64 j ∧ w.grownBy wr none ∧ wr.heap[w.heap.size]? = some (.cells #[.slice ta tn tc, .slice na nn nc, .slice la ln lc, .int .i64 st, .slice pa n pc, .slice (some ⟨nb, 0, none⟩) nn nn, .slice sa N sc, .slice xa T xc, .slice l1 N lc1, .slice m1 N mc1] 81 (0, 0)) ∧ ValAt wr (w.heap.size + 1) (m + 1) 3 (fun i => .int .i64 (stT es q row j i)))
  case atStart => exact ⟨0, Nat.zero_le _, rfl, rfl, HG2.out, HB2.out, HV1.out⟩
  case round =>
    obtain ⟨j, hj, hgj, rfl, hg, hb, hv⟩ := hrel
    have HGJ : Hid (gk = m - j) := hgj
    have HG : Hid (w.grownBy wr none) := hg
    have HB : Hid (wr.heap[w.heap.size]? = some (.cells #[.slice ta tn tc, .slice na nn nc, .slice la ln lc, .int .i64 st, .slice pa n pc, .slice (some ⟨nb, 0, none⟩) nn nn, .slice sa N sc, .slice xa T xc, .slice l1 N lc1, .slice m1 N mc1] 81 (0, 0))) := hb
    have HV : Hid (ValAt wr (w.heap.size + 1) (m + 1) 3 (fun i => .int .i64 (stT es q row j i))) := hv
    clear hgj hg hb hv HG2 HB2 HV1
    generalize wr = Y at *
    by_cases hlt : j < m
    · have hjd : decide (j < m) = true := decide_eq_true hlt
      have hj0 : (0 : Int) ≤ (j : Int) := by omega
      have hj1 : (j : Int) < (m : Int) := by omega
      have hjl : j < row.length := by rw [← HM.out]; exact hlt
      obtain ⟨s, hs⟩ : ∃ s : Nat, row.getD j 0 = (s : Int) := by
        have h := HRR.out (row.getD j 0) (by rw [List.getD_eq_getElem?_getD, List.getElem?_eq_getElem hjl]; exact List.getElem_mem hjl)
        exact ⟨(row.getD j 0).toNat, by omega⟩
      have hsS : s < S := by
        have h := HRR.out (row.getD j 0) (by rw [List.getD_eq_getElem?_getD, List.getElem?_eq_getElem hjl]; exact List.getElem_mem hjl)
        omega
      obtain ⟨ib, io, rfl, r0⟩ : ∃ ib io, a = some ⟨ib, io, none⟩ ∧ Y.cell? ⟨ib, io + j, none⟩ = some (.int .i64 (s : Int)) := by
        rcases HRW.out Y HG.out with h | ⟨ib, io, e, h⟩
        · rw [h] at hjl; exact absurd hjl (by simp)
        · exact ⟨ib, io, e, by rw [← hs]; exact h j hjl⟩
      obtain ⟨p, hp⟩ : ∃ p, p = stF es q row j := ⟨_, rfl⟩
      have hpN : p < N := by rw [hp]; exact HLT.out j
      obtain ⟨g, c', hlv, d0, d1⟩ := (HT.out Y HG.out).at hpN
      simp only [Value.slice.injEq, true_and] at hlv
      obtain ⟨rfl, rfl⟩ := hlv
      have HST : Hid (ldF (es.getD p []) s = (stF es q row (j + 1) : Int)) := by
        show _ = _
        have h := HRG.out p hpN s
        rw [stF, ← hp, hs, Int.toNat_natCast]
        omega
      have d2 := d1 s hsS
      simp only [HST.out] at d2
      obtain ⟨t, ht⟩ : ∃ t, t = stF es q row (j + 1) := ⟨_, rfl⟩
      rw [← ht] at d2
      have c8 : Y.cell? ⟨w.heap.size, 8, none⟩ = some (.slice (some ⟨g, 0, none⟩) N lc1) := by rw [cell_of_row _ _ _ _ _ _ HB.out]; rfl
      have v0 : Y.cell? ⟨w.heap.size + 1, j, none⟩ = some (.int .i64 (p : Int)) := by
        have h := HV.out.cell j (by omega)
        rw [stT, if_pos (Nat.le_refl _), ← hp] at h
        exact h
      have v1 := HV.out.cell (j + 1) (by omega)
      have v2 := HV.out.free (j + 1)
      have hgs : Y.grownBy (Y.setCell ⟨w.heap.size + 1, j + 1, none⟩ (.int .i64 (t : Int))) (some (w.heap.size + 1)) := grown_setCell _ _ _
      have HKS : Hid ((Y.setCell ⟨w.heap.size + 1, j + 1, none⟩ (.int .i64 (t : Int))).cell? ⟨w.heap.size, 8, none⟩ = some (.slice (some ⟨g, 0, none⟩) N lc1) ∧ (Y.setCell ⟨w.heap.size + 1, j + 1, none⟩ (.int .i64 (t : Int))).cell? ⟨w.heap.size + 1, j, none⟩ = some (.int .i64 (p : Int)) ∧ (Y.setCell ⟨w.heap.size + 1, j + 1, none⟩ (.int .i64 (t : Int))).cell? ⟨g, p, none⟩ = some (.slice (some ⟨lb p, 0, none⟩) S S) ∧ (Y.setCell ⟨w.heap.size + 1, j + 1, none⟩ (.int .i64 (t : Int))).cell? ⟨lb p, s, none⟩ = some (.int .i64 (t : Int))) := by
        have n1 : lb p ≠ w.heap.size + 1 := by
          have := ((HT.out w (grown_refl _ _)).val p hpN).lt
          omega
        have n2 : g ≠ w.heap.size + 1 := by
          have := ((HT.out w (grown_refl _ _)).row.lt g rfl).2
          omega
        refine ⟨hgs.cell c8 (by simp), ?_, hgs.cell d0 (by simp [n2]), hgs.cell d2 (by simp [n1])⟩
        have h := (HV.out.set (j + 1) (.int .i64 (t : Int))).cell j (by omega)
        unfold put at h
        rw [if_neg (by omega)] at h
        have h2 : stT es q row j j = (p : Int) := by rw [stT, if_pos (Nat.le_refl _), ← hp]
        simp only [h2] at h
        exact h
      have HFV : Hid (ValAt (Y.setCell ⟨w.heap.size + 1, j + 1, none⟩ (.int .i64 (t : Int))) (w.heap.size + 1) (m + 1) 3 (fun i => .int .i64 (stT es q row (j + 1) i))) := (HV.out.set (j + 1) (.int .i64 (t : Int))).ext fun i _ => by
        unfold put stT
        by_cases e : i = j + 1
        · subst e
          rw [if_pos rfl, if_pos (Nat.le_refl _), ht]
        · rw [if_neg e]
          show Value.int .i64 (if i ≤ j then (stF es q row i : Int) else 0) = _
          by_cases e2 : i ≤ j
          · rw [if_pos e2, if_pos (by omega)]
          · rw [if_neg e2, if_neg (by omega)]
      have HFB := show Hid _ from (hgs.block _ (Array.getElem?_eq_some_iff.1 HB.out).1 (by simp)).trans HB.out
      have HFG : Hid (w.grownBy (Y.setCell ⟨w.heap.size + 1, j + 1, none⟩ (.int .i64 (t : Int))) none) := grown_new HG.out hgs (by omega)
      have hs0 : (0 : Int) ≤ (s : Int) := by omega
      have hs1 : (s : Int) < (S : Int) := by omega
      have hp0 : (0 : Int) ≤ (p : Int) := by omega
      have hp1 : (p : Int) < (N : Int) := by omega
      have hj2 : (0 : Int) ≤ (j : Int) + 1 := by omega
      have hj3 : (j : Int) + 1 < ((m + 1 : Nat) : Int) := by omega
      have hj4 : (j : Int) < (m : Int) + 1 := by omega
      have hj5 : (j : Int) + 1 < (m : Int) + 1 := by omega
      have hjw : IntKind.i64.wrap ((j : Int) + 1) = (j : Int) + 1 := by rw [IntKind.wrap_i64]; omega
      clear hp ht hs hgs d1 HB HV HG HST
      go_wp2_with fail
      go_region_held3 (fun x => x.cell? ⟨w.heap.size, 8, none⟩ = some (.slice (some ⟨g, 0, none⟩) N lc1) ∧ x.cell? ⟨w.heap.size + 1, j, none⟩ = some (.int .i64 (p : Int)) ∧ x.cell? ⟨g, p, none⟩ = some (.slice (some ⟨lb p, 0, none⟩) S S) ∧ x.cell? ⟨lb p, s, none⟩ = some (.int .i64 (t : Int))) (first | exact HKS.out | go_keep) (fail)
      all_goals go_wp2_with fail
      all_goals go_roundg (m - (j + 1))
      all_goals first
        | exact (show ∃ (j' : Nat), _ from ⟨j + 1, by omega, rfl, by go_num, grown_trans HFG.out (grown_drewN _ _), HFB.out, HFV.out⟩)
        | (have := HGJ.out; omega)
    · have hjm : m = j := by omega
      subst hjm
      have hjd : decide (m < m) = false := decide_eq_false (by omega)
      go_wp2_with fail
      go_ret
      refine ⟨w.heap.size + 1, rfl, by omega, HV.out.ext fun i hi => ?_, HG.out⟩
      rw [stT, if_pos (by omega)]
end

end Go.Proofs.YtkbjbijoekmooaaGreat.J

/-
  relate: lists under way, and what is handed to them.
-/
namespace Go.Proofs.YtkbjbijoekmooaaGreat.J
open Go.RowKit Go.Maps Go.Shelf

attribute [local go_sem] Oper.semAt_some

/-- A number more, unless it stands last. -/
def addL (l : List Int) (x : Int) : List Int := if l.getLast? = some x then l else l ++ [x]

/-- Lists under way. -/
structure LqP (P X : World) (bx kb T : Nat) (Q : Nat → List Int) (ua : Nat → Option Addr) (uc : Nat → Nat) : Prop where
  grown : P.grownBy X none
  box : X.heap[bx]? = some (.cells #[.slice (some ⟨kb, 0, none⟩) T T] 30 (0, 0))
  val : ValAt X kb T 24 (fun k => .slice (ua k) (Q k).length (uc k))
  own : ∀ k, k < T → X.ownsRow P.heap.size 3 1 (.slice (ua k) (Q k).length (uc k)) (Q k).length (intV (Q k))
  sep : ∀ k l, k < T → l < T → k ≠ l → (Value.slice (ua k) (Q k).length (uc k)).ownBlock = none ∨ (Value.slice (ua k) (Q k).length (uc k)).ownBlock ≠ (Value.slice (ua l) (Q l).length (uc l)).ownBlock
  lo : P.heap.size ≤ bx ∧ P.heap.size ≤ kb
section
variable {P X Y : World} {bx kb T : Nat} {Q : Nat → List Int} {ua : Nat → Option Addr} {uc : Nat → Nat}
theorem LqP.kept (h : LqP P X bx kb T Q ua uc) (hg : X.grownBy Y none) : LqP P Y bx kb T Q ua uc :=
  ⟨grown_trans h.grown hg, box_kept h.box hg, h.val.kept hg, fun k hk => keep0 (h.own k hk) hg, h.sep, h.lo⟩
theorem LqP.add (h : LqP P X bx kb T Q ua uc) {f g c : Nat} {x : Int} (hf : f < T) (hg : X.grownBy Y (Value.slice (ua f) (Q f).length (uc f)).ownBlock) (ho : Y.ownsRow P.heap.size 3 1 (.slice (some ⟨g, 0, none⟩) ((Q f).length + 1) c) ((Q f).length + 1) (intV (Q f) ++ [.int .i64 x])) (hat : (Value.slice (ua f) (Q f).length (uc f)).ownBlock = some g ∨ g = X.heap.size) : LqP P (Y.setCell ⟨kb, f, none⟩ (.slice (some ⟨g, 0, none⟩) ((Q f).length + 1) c)) bx kb T (updL Q f (Q f ++ [x])) (updL ua f (some ⟨g, 0, none⟩)) (updL uc f c) := by
  have hs : Y.grownBy (Y.setCell ⟨kb, f, none⟩ (.slice (some ⟨g, 0, none⟩) ((Q f).length + 1) c)) (some kb) := grown_setCell _ _ _
  have hv : ValAt Y kb T 24 (fun k => .slice (ua k) (Q k).length (uc k)) := box_row h.val (h.own f hf) (by decide) hg
  have hb : Y.heap[bx]? = some (.cells #[.slice (some ⟨kb, 0, none⟩) T T] 30 (0, 0)) := box_row h.box (h.own f hf) (by decide) hg
  have hlen : (Q f ++ [x]).length = (Q f).length + 1 := by simp
  have hiv : intV (Q f ++ [x]) = intV (Q f) ++ [.int .i64 x] := by unfold intV; rw [List.map_append]; rfl
  have key : ∀ k, k < T → k ≠ f → (Value.slice (ua k) (Q k).length (uc k)).ownBlock = none ∨ (Value.slice (ua k) (Q k).length (uc k)).ownBlock ≠ some g := fun k hk e => by
    rcases hat with h1 | h1
    · rw [← h1]; exact h.sep k f hk hf e
    · cases hb : (Value.slice (ua k) (Q k).length (uc k)).ownBlock with
      | none => exact .inl rfl
      | some b =>
        right
        intro h2
        have h3 := ((h.own k hk).lt b hb).2
        have h4 : b = g := by simpa using h2
        omega
  refine ⟨grown_new (grown_owned h.grown (h.own f hf) (Nat.le_refl _) hg) hs h.lo.2, ?_, ?_, fun k hk => ?_, fun k l hk hl e => ?_, h.lo⟩
  · refine (hs.block bx (Array.getElem?_eq_some_iff.1 hb).1 ?_).trans hb
    intro e
    have e2 : bx = kb := by simpa using e
    unfold ValAt at hv
    rw [e2, hv] at hb
    simp only [Option.some.injEq, Obj.cells.injEq] at hb
    exact absurd hb.2.1 (by decide)
  · refine (hv.set f _).ext fun i _ => ?_
    unfold put updL
    by_cases e : i = f
    · simp only [if_pos e, hlen]
    · simp only [if_neg e]
  · by_cases e : k = f
    · subst e
      rw [updL_same, updL_same, updL_same, hlen, hiv]
      exact ho.kept hs (owns_nebox ho hv (by decide))
    · rw [updL_other _ _ e, updL_other _ _ e, updL_other _ _ e]
      have h1 := (h.own k hk).kept hg (h.sep k f hk hf e)
      exact h1.kept hs (owns_nebox h1 hv (by decide))
  · by_cases e1 : k = f
    · subst e1
      have e2 : l ≠ k := fun h => e h.symm
      rw [updL_same, updL_same, updL_same, updL_other _ _ e2, updL_other _ _ e2, updL_other _ _ e2]
      right
      rcases key l hl e2 with h1 | h1
      · rw [h1]; simp [Value.ownBlock]
      · exact fun h2 => h1 h2.symm
    · rw [updL_other _ _ e1, updL_other _ _ e1, updL_other _ _ e1]
      by_cases e2 : l = f
      · subst e2
        rw [updL_same, updL_same, updL_same]
        exact key k hk e1
      · rw [updL_other _ _ e2, updL_other _ _ e2, updL_other _ _ e2]
        exact h.sep k l hk hl e
end

theorem updL_id {α : Type} (f : Nat → α) (k : Nat) : updL f k (f k) = f := funext fun i => by
  unfold updL
  by_cases e : i = k
  · rw [if_pos e, e]
  · rw [if_neg e]
/-- All blocks stay but numbers and rows of rows. -/
def KeepH (X Y : World) : Prop := X.heap.size ≤ Y.heap.size ∧ ∀ (b : Nat) (cs : Array Value) (t : TypeId), X.heap[b]? = some (.cells cs t (0, 0)) → t ≠ 3 → t ≠ 24 → Y.heap[b]? = some (.cells cs t (0, 0))
theorem KeepH.refl (X : World) : KeepH X X := ⟨Nat.le_refl _, fun _ _ _ h _ _ => h⟩
theorem KeepH.trans {X Y Z : World} (h : KeepH X Y) (k : KeepH Y Z) : KeepH X Z := ⟨Nat.le_trans h.1 k.1, fun b cs t h1 h2 h3 => k.2 b cs t (h.2 b cs t h1 h2 h3) h2 h3⟩
theorem KeepH.none_ {X Y : World} (h : X.grownBy Y none) : KeepH X Y := ⟨h.size, fun _ _ _ h1 _ _ => box_kept h1 h⟩
theorem KeepH.row {X Y : World} {B n : Nat} {v : Value} {xs : List Value} (ho : X.ownsRow B 3 1 v n xs) (h : X.grownBy Y v.ownBlock) : KeepH X Y := ⟨h.size, fun _ _ _ h1 h2 _ => box_row h1 ho (fun e => h2 e.symm) h⟩
theorem KeepH.set {X : World} {b len x : Nat} {c : Nat → Value} {v : Value} (hb : ValAt X b len 24 c) : KeepH X (X.setCell ⟨b, x, none⟩ v) := by
  have hg : X.grownBy (X.setCell ⟨b, x, none⟩ v) (some b) := grown_setCell _ _ _
  refine ⟨hg.size, fun b' cs t h1 _ h3 => (hg.block b' (Array.getElem?_eq_some_iff.1 h1).1 ?_).trans h1⟩
  intro e
  have e2 : b' = b := by simpa using e
  unfold ValAt at hb
  rw [e2, hb] at h1
  simp only [Option.some.injEq, Obj.cells.injEq] at h1
  exact h3 h1.2.1.symm
/-- What is handed to the lists. -/
def HandTold (P : World) (bx kb T : Nat) (Q : Nat → List Int) (f : Nat) (x : Int) (w : World) (e : Ending) (y : World) : Prop := e = .returned (.tuple #[]) ∧ KeepH w y ∧ ∃ ua uc, LqP P y bx kb T (updL Q f (addL (Q f) x)) ua uc

set_option maxRecDepth 100000 in
set_option maxHeartbeats 2000000 in
theorem hand_any (P w : World) (bx kb T : Nat) (Q : Nat → List Int) (ua : Nat → Option Addr) (uc : Nat → Nat) (h : LqP P w bx kb T Q ua uc) (f : Nat) (x : Int) (hf : f < T) (hQ : (Q f).length ≤ 10000000) :
    Calls Tryz.prog 57 #[.int .i64 (f : Int), .int .i64 x, .pointer (some ⟨bx, 0, none⟩)] w fun e y => HandTold P bx kb T Q f x w e y := by
  have HL : Hid (LqP P w bx kb T Q ua uc) := h
  have c0 : w.cell? ⟨bx, 0, none⟩ = some (.slice (some ⟨kb, 0, none⟩) T T) := by rw [cell_of_row _ _ _ _ _ _ h.box]; rfl
  have c1 := h.val.cell f hf
  obtain ⟨fa, hfa⟩ : ∃ a, a = ua f := ⟨_, rfl⟩
  obtain ⟨fc, hfc⟩ : ∃ a, a = uc f := ⟨_, rfl⟩
  obtain ⟨m, hm⟩ : ∃ m, m = (Q f).length := ⟨_, rfl⟩
  rw [← hfa, ← hfc, ← hm] at c1
  rw [← hm] at hQ
  have hf0 : (0 : Int) ≤ (f : Int) := by omega
  have hf1 : (f : Int) < (T : Int) := by omega
  have HOW : Hid (∀ Y, w.grownBy Y none → Y.ownsRow P.heap.size 3 1 (.slice fa m fc) m (intV (Q f))) := fun Y hY => by
    have h1 := keep0 (h.own f hf) hY
    rw [← hfa, ← hfc, ← hm] at h1
    exact h1
  have HPS : Hid (∀ Y, w.grownBy Y none → P.heap.size ≤ Y.heap.size) := fun Y hY => Nat.le_trans h.grown.size hY.size
  have HFIN : Hid (∀ (Y V : World) (g c : Nat), w.grownBy Y none → Y.grownBy V (Value.slice fa m fc).ownBlock → V.ownsRow P.heap.size 3 1 (.slice (some ⟨g, 0, none⟩) (m + 1) c) (m + 1) (intV (Q f) ++ [.int .i64 x]) → ((Value.slice fa m fc).ownBlock = some g ∨ g = Y.heap.size) → V.cell? ⟨kb, f, none⟩ = some (.slice fa m fc) ∧ V.frozen? ⟨kb, f, none⟩ = false ∧ V.cell? ⟨bx, 0, none⟩ = some (.slice (some ⟨kb, 0, none⟩) T T) ∧ KeepH w (V.setCell ⟨kb, f, none⟩ (.slice (some ⟨g, 0, none⟩) (m + 1) c)) ∧ ∃ ua' uc', LqP P (V.setCell ⟨kb, f, none⟩ (.slice (some ⟨g, 0, none⟩) (m + 1) c)) bx kb T (updL Q f (Q f ++ [x])) ua' uc') := fun Y V g c hY hg ho hat => by
    rw [hfa, hfc, hm] at hg hat
    rw [hm] at ho
    have h1 := h.kept hY
    have hv : ValAt V kb T 24 (fun k => .slice (ua k) (Q k).length (uc k)) := box_row h1.val (h1.own f hf) (by decide) hg
    have hb : V.heap[bx]? = some (.cells #[.slice (some ⟨kb, 0, none⟩) T T] 30 (0, 0)) := box_row h1.box (h1.own f hf) (by decide) hg
    refine ⟨by rw [hfa, hfc, hm]; exact hv.cell f hf, hv.free f, by rw [cell_of_row _ _ _ _ _ _ hb]; rfl, ?_⟩
    rw [hm]
    exact ⟨((KeepH.none_ hY).trans (.row (h1.own f hf) hg)).trans (.set hv), _, _, h1.add hf hg ho hat⟩
  have HAL : Hid ((m = 0 ∨ (Q f).getD (m - 1) 0 ≠ x) → addL (Q f) x = Q f ++ [x]) := fun h => by
    unfold addL
    rw [if_neg]
    intro e
    rw [List.getLast?_eq_getElem?, ← hm] at e
    rcases h with h | h
    · rw [List.getElem?_eq_none (by omega)] at e; cases e
    · exact h (by rw [List.getD_eq_getElem?_getD, e]; rfl)
  have HALN : Hid (m ≠ 0 → (Q f).getD (m - 1) 0 = x → addL (Q f) x = Q f) := fun h0 h => by
    unfold addL
    rw [if_pos]
    rw [List.getLast?_eq_getElem?, ← hm]
    rw [List.getD_eq_getElem?_getD, List.getElem?_eq_getElem (by omega)] at h
    rw [List.getElem?_eq_getElem (by omega)]
    exact congrArg some h
  have HCL : Hid (∀ Y, w.grownBy Y none → m ≠ 0 → ∃ g, fa = some ⟨g, 0, none⟩ ∧ Y.cell? ⟨g, m - 1, none⟩ = some (.int .i64 ((Q f).getD (m - 1) 0))) := fun Y hY h0 => by
    obtain ⟨g, c, e, h1⟩ := owns_at (HOW.out Y hY) (by omega)
    simp only [Value.slice.injEq] at e
    refine ⟨g, e.1, h1 (m - 1) _ ?_⟩
    unfold intV
    rw [List.getElem?_map, List.getElem?_eq_getElem (by omega), List.getD_eq_getElem?_getD, List.getElem?_eq_getElem (by omega)]; rfl
  obtain ⟨xs, hxs⟩ : ∃ xs, xs = intV (Q f) := ⟨_, rfl⟩
  rw [← hxs] at HOW HFIN
  obtain ⟨i0, hi0, hz0, hz1, hz2⟩ := info_parts infoInt
  have c2 : ∀ o, (w.alloc o).cell? ⟨bx, 0, none⟩ = some (.slice (some ⟨kb, 0, none⟩) T T) := fun o => (World.grownBy_alloc _ o none).cell c0 (by simp)
  have c3 : ∀ o, (w.alloc o).cell? ⟨kb, f, none⟩ = some (.slice fa m fc) := fun o => (World.grownBy_alloc _ o none).cell c1 (by simp)
  clear h hfa hfc hm hxs
  by_cases h0 : m = 0
  · subst h0
    have HA0 := show Hid _ from HAL.out (.inl rfl)
    go_enter Tryz.func57, Tryz.ntmps57
    go_wp2_with fail
    go_region_law (first
      | (refine step_append_liesW _ rfl (.tmp 30) (.tmp 32) 24 rfl P.heap.size 3 i0 (.int .i64 0) 1 8 Tryz.underlying24 hi0 hz0 hz1 hz2 rfl (by decide) (.slice fa 0 fc) 0 xs (by simp [Act.eval]) (HOW.out _ (grown_trans (World.grownBy_alloc _ _ none) (grown_drewN _ _))) ⟨w.heap.size, 0, none⟩ 1 1 [.int .i64 x] (by simp [Act.eval]) rfl (World.news_of_block (heap_alloc_last w _)) (by simp [Value.oneCell']) (by decide) (by unfold maxLen; omega) (by omega) (HPS.out _ (grown_trans (World.grownBy_alloc _ _ none) (grown_drewN _ _))) ?_; intro g9 c9 wB hoB hgB hat; obtain ⟨q1, q2, q3, q4⟩ := HFIN.out _ wB g9 c9 (grown_trans (World.grownBy_alloc _ _ none) (grown_drewN _ _)) hgB hoB hat; have HQ1 := show Hid _ from q4; clear q4 hoB hgB hat)
      | fail)
    all_goals go_wp2_with fail
    all_goals refine bodyPost_end (v := .tuple #[]) (by simp [results, Tryz.results57]) rfl ?_
    all_goals exact ⟨rfl, by rw [HA0.out]; exact HQ1.out⟩
  · obtain ⟨k, rfl⟩ : ∃ k, m = k + 1 := ⟨m - 1, by omega⟩
    obtain ⟨g, rfl, d0⟩ := HCL.out w (grown_refl _ _) h0
    rw [Nat.add_sub_cancel] at d0
    obtain ⟨z, hz⟩ : ∃ z, z = (Q f).getD k 0 := ⟨_, rfl⟩
    rw [← hz] at d0
    have hk0 : (0 : Int) ≤ (k : Int) := by omega
    have hk1 : (k : Int) < (k : Int) + 1 := by omega
    have hkd : decide ((k : Int) < 0) = false := decide_eq_false (by omega)
    by_cases e : z = x
    · have HA1 := show Hid _ from HALN.out h0 (by rw [Nat.add_sub_cancel, ← hz]; exact e)
      have hzx : (z != x) = false := by rw [e]; exact bne_self_eq_false _
      clear hz e
      go_enter Tryz.func57, Tryz.ntmps57
      go_wp2_with fail
      refine bodyPost_end (v := .tuple #[]) (by simp [results, Tryz.results57]) rfl ?_
      refine ⟨rfl, .refl _, ua, uc, ?_⟩
      rw [HA1.out, updL_id]
      exact HL.out
    · have HA0 := show Hid _ from HAL.out (.inr (by rw [Nat.add_sub_cancel, ← hz]; exact e))
      have hzx : (z != x) = true := bne_iff_ne.2 e
      clear hz e
      go_enter Tryz.func57, Tryz.ntmps57
      go_wp2_with fail
      go_region_law (first
        | (refine step_append_liesW _ rfl (.tmp 30) (.tmp 32) 24 rfl P.heap.size 3 i0 (.int .i64 0) 1 8 Tryz.underlying24 hi0 hz0 hz1 hz2 rfl (by decide) (.slice (some ⟨g, 0, none⟩) (k + 1) fc) (k + 1) xs (by simp [Act.eval]) (HOW.out _ (grown_trans (World.grownBy_alloc _ _ none) (grown_drewN _ _))) ⟨w.heap.size, 0, none⟩ 1 1 [.int .i64 x] (by simp [Act.eval]) rfl (World.news_of_block (heap_alloc_last w _)) (by simp [Value.oneCell']) (by decide) (by unfold maxLen; omega) (by omega) (HPS.out _ (grown_trans (World.grownBy_alloc _ _ none) (grown_drewN _ _))) ?_; intro g9 c9 wB hoB hgB hat; obtain ⟨q1, q2, q3, q4⟩ := HFIN.out _ wB g9 c9 (grown_trans (World.grownBy_alloc _ _ none) (grown_drewN _ _)) hgB hoB hat; have HQ1 := show Hid _ from q4; clear q4 hoB hgB hat)
        | fail)
      all_goals go_wp2_with fail
      all_goals refine bodyPost_end (v := .tuple #[]) (by simp [results, Tryz.results57]) rfl ?_
      all_goals exact ⟨rfl, by rw [HA0.out]; exact HQ1.out⟩

end Go.Proofs.YtkbjbijoekmooaaGreat.J

/-
  relate: reads.
-/
namespace Go.Proofs.YtkbjbijoekmooaaGreat.J
open Go.RowKit Go.Maps Go.Shelf

attribute [local go_sem] Oper.semAt_some

/-- What is handed out for one transition, among edges of the state behind it. -/
def rdE (tl : List It) (tn : Nat) (F : Nat → Bool) (i b : Nat) (l : List (Nat × Nat)) : List (Nat × Int) := (l.filter fun x => decide (tn ≤ x.1) && F (x.1 - tn)).map fun x => (i, nmF tl b x.1)
theorem rdE_snoc (tl : List It) (tn : Nat) (F : Nat → Bool) (i b : Nat) (l : List (Nat × Nat)) (s t : Nat) : rdE tl tn F i b (l ++ [(s, t)]) = rdE tl tn F i b l ++ (if (decide (tn ≤ s) && F (s - tn)) = true then [(i, nmF tl b s)] else []) := by
  unfold rdE
  rw [List.filter_append, List.map_append]
  by_cases h : (decide (tn ≤ s) && F (s - tn)) = true
  · rw [if_pos h, List.filter_cons, if_pos h]; rfl
  · rw [if_neg h, List.filter_cons, if_neg h]; rfl
theorem rdE_len (tl : List It) (tn : Nat) (F : Nat → Bool) (i b : Nat) (l : List (Nat × Nat)) : (rdE tl tn F i b l).length ≤ l.length := by
  unfold rdE
  rw [List.length_map]
  exact List.length_filter_le _ _
/-- The state behind a transition. -/
def bhF (es : List (List (Nat × Nat))) (x : It) : Nat := (ldF (es.getD x.1.toNat []) x.2.toNat).toNat
/-- What is handed out for the transitions below k. -/
def rdT (es : List (List (Nat × Nat))) (tl : List It) (tn : Nat) (F : Nat → Bool) : Nat → List (Nat × Int)
  | 0 => []
  | k + 1 => rdT es tl tn F k ++ rdE tl tn F k (bhF es (tl.getD k (0, 0))) (es.getD (bhF es (tl.getD k (0, 0))) [])
/-- Lists, once all this has been handed to them. -/
def foldQ (Q : Nat → List Int) (l : List (Nat × Int)) : Nat → List Int := l.foldl (fun Q p => updL Q p.1 (addL (Q p.1) p.2)) Q
theorem foldQ_snoc (Q : Nat → List Int) (l : List (Nat × Int)) (p : Nat × Int) : foldQ Q (l ++ [p]) = updL (foldQ Q l) p.1 (addL (foldQ Q l p.1) p.2) := by
  unfold foldQ
  rw [List.foldl_append]; rfl
theorem addL_len (l : List Int) (x : Int) : (addL l x).length ≤ l.length + 1 := by
  unfold addL
  split
  · omega
  · rw [List.length_append]; exact Nat.le_refl _
theorem foldQ_len (Q : Nat → List Int) (f : Nat) : ∀ (l : List (Nat × Int)), (foldQ Q l f).length ≤ (Q f).length + l.length := fun l => by
  induction l generalizing Q with
  | nil => exact Nat.le_refl _
  | cons p l ih =>
    have h1 := ih (updL Q p.1 (addL (Q p.1) p.2))
    have h2 : foldQ Q (p :: l) f = foldQ (updL Q p.1 (addL (Q p.1) p.2)) l f := rfl
    rw [h2, List.length_cons]
    by_cases e : f = p.1
    · subst e
      rw [updL_same] at h1
      have h3 := addL_len (Q p.1) p.2
      omega
    · rw [updL_other _ _ e] at h1
      omega
theorem rdT_len {es : List (List (Nat × Nat))} {tl : List It} {tn c : Nat} {F : Nat → Bool} (h : ∀ q, (es.getD q []).length ≤ c) : ∀ k, (rdT es tl tn F k).length ≤ k * c
  | 0 => by simp [rdT]
  | k + 1 => by
    have h1 := rdT_len (tl := tl) (tn := tn) (F := F) h k
    have h2 := rdE_len tl tn F k (bhF es (tl.getD k (0, 0))) (es.getD (bhF es (tl.getD k (0, 0))) [])
    have h3 := h (bhF es (tl.getD k (0, 0)))
    rw [rdT, List.length_append, Nat.succ_mul]
    omega

end Go.Proofs.YtkbjbijoekmooaaGreat.J

/-
  relate: automatonOf of any grammar.
-/
namespace Go.Proofs.YtkbjbijoekmooaaGreat.J
open Go.RowKit Go.Maps Go.Shelf

/-- Which nonterminals derive the empty row. -/
noncomputable def nulB (tn n : Nat) (L : Nat → Int) (R : Nat → List Int) (i : Nat) : Bool := by
  classical exact decide (Nul n L R ((tn + i : Nat) : Int))
theorem nulB_iff (tn n : Nat) (L : Nat → Int) (R : Nat → List Int) (i : Nat) : nulB tn n L R i = true ↔ Nul n L R ((tn + i : Nat) : Int) := by
  classical
  unfold nulB
  exact decide_eq_true_iff

section
variable (ta na la pa : Option Addr) (tc nc lc pc : Nat) (ts : List (ByteArray × Int)) (ns : List ByteArray) (lv : List Int) (n : Nat) (L : Nat → Int) (R : Nat → List Int) (ra : Nat → Option Addr) (rc : Nat → Nat) (V : Nat → Int) (st : Int) (w : World) (tn nn ln : Nat) (hlen : ts.length = tn ∧ ns.length = nn ∧ lv.length = ln) (hG : GAt w ta na la pa tc nc lc pc ts ns lv n L R ra rc V)
include hlen hG
theorem uofBad1 (hc : ¬ closedOK ts ns lv st n L R V) : Calls Tryz.prog 30 #[.agg #[.slice ta tn tc, .slice na nn nc, .slice la ln lc, .int .i64 st, .slice pa n pc]] w fun e y => e = .returned (.tuple #[.agg #[.slice none 0 0, .slice none 0 0, .slice none 0 0, .int .i64 0, .slice none 0 0, .slice none 0 0, .slice none 0 0, .slice none 0 0, .slice none 0 0, .slice none 0 0], .int .i64 1]) ∧ w.grownBy y none :=
  uof_bad ta na la pa tc nc lc pc n st w tn nn ln 1 (.inl rfl) fun Y hY => buildBad ta na la pa tc nc lc pc ts ns lv n L R ra rc V st Y tn nn ln hlen (hG.kept hY) hc
theorem uofBad11 (hc : closedOK ts ns lv st n L R V) (h : autoF (GG tn n L R) (tn + nn) 256 = none) : Calls Tryz.prog 30 #[.agg #[.slice ta tn tc, .slice na nn nc, .slice la ln lc, .int .i64 st, .slice pa n pc]] w fun e y => e = .returned (.tuple #[.agg #[.slice none 0 0, .slice none 0 0, .slice none 0 0, .int .i64 0, .slice none 0 0, .slice none 0 0, .slice none 0 0, .slice none 0 0, .slice none 0 0, .slice none 0 0], .int .i64 11]) ∧ w.grownBy y none :=
  uof_bad ta na la pa tc nc lc pc n st w tn nn ln 11 (.inr rfl) fun Y hY => build_none ta na la pa tc nc lc pc ts ns lv n L R ra rc V st w tn nn ln hlen hG hc h Y hY
theorem uofOk (hc : closedOK ts ns lv st n L R V) {ks : List (List It)} {es : List (List (Nat × Nat))} (h : autoF (GG tn n L R) (tn + nn) 256 = some (ks, es)) : (Calls Tryz.prog 30 #[.agg #[.slice ta tn tc, .slice na nn nc, .slice la ln lc, .int .i64 st, .slice pa n pc]] w fun e y => UofTold ta na la pa tc nc lc pc n st tn nn ln ks es (trT tn es ks.length) (nulB tn n L R) w e y) ∧ EsOK ks es ∧ (trT tn es ks.length).Nodup ∧ (trT tn es ks.length).length ≤ 40000 := by
  have hM : MayOK tn nn n st L R true := by obtain ⟨rfl, rfl, rfl⟩ := hlen; exact mayOK_closed hc
  obtain ⟨hO, hE⟩ := ofOk ta na la pa tc nc lc pc ts ns lv n L R ra rc V st w tn nn ln hlen hG hc h
  have hA := autF hM.p0 h
  have htl : (trT tn es ks.length).length ≤ 40000 := by
    have h1 := trT_len (tn := tn) (c := 130) ks.length (fun q hq => (hE.each q hq).1)
    have h2 : ks.length * 130 ≤ 256 * 130 := Nat.mul_le_mul_right _ hE.le
    omega
  have htnd : (trT tn es ks.length).Nodup := trT_nodup ks.length fun q hq => (hE.each q hq).2.1
  refine ⟨uof_ok ta na la pa tc nc lc pc n st w tn nn ln (askN es) ks es (trT tn es ks.length) (nulB tn n L R) hM.tmax hM.nmax hE.le (fun q hq => ⟨(hE.each q hq).1, (hE.each q hq).2.1, fun x hx => by have h1 := hA.snd q hq x hx; have := hE.le; omega⟩) htl htnd (fun x hx => ?_) (fun X hX => ?_) (fun X hX => ?_) (fun X hX => ?_), hE, htnd, htl⟩
  · obtain ⟨q, hq, e, he, h1, rfl⟩ := trT_mem hx
    exact ⟨q, e.1, rfl, hq, (hA.snd q hq e he).1⟩
  · refine (build_some ta na la pa tc nc lc pc ts ns lv n L R ra rc V st w tn nn ln hlen hG hc h X hX).mono ?_
    rintro e y ⟨sa, sc, kv, ev, he, hAP, hg⟩
    exact ⟨sa, sc, kv, ev, he, hAP.base hX.size, hg⟩
  · exact listX_ok ta na la pa tc nc lc pc n st X tn nn ln ks es hE.le (fun q hq => (hE.each q hq).1) fun Y hY => hO Y (grown_trans hX hY)
  · exact nullable_ok ta na la pa tc nc lc pc ts ns lv n L R ra rc V st X tn nn ln hlen (hG.kept hX) (.inr hc) (cl := true) ⟨hM.t0, hM.tmax, hM.n0, hM.nmax, hM.pmax, hM.p0, hM.left, hM.right, hM.start, hM.added⟩ (nulB tn n L R) (fun i => nulB_iff tn n L R i)
end

end Go.Proofs.YtkbjbijoekmooaaGreat.J

/-
  relate: reads, walked.
-/
namespace Go.Proofs.YtkbjbijoekmooaaGreat.J
open Go.RowKit Go.Maps Go.Shelf

attribute [local go_sem] Oper.semAt_some

theorem getD_in {α : Type} {l : List α} {i : Nat} {d : α} (h : i < l.length) : l.getD i d ∈ l := by
  rw [List.getD_eq_getElem?_getD, List.getElem?_eq_getElem h]; exact List.getElem_mem h
/-- What always holds of what automatonOf tells. -/
structure RlOK (N T S tn nn : Nat) (ks : List (List It)) (es : List (List (Nat × Nat))) (tl : List It) : Prop where
  hN : N = ks.length
  hT : T = tl.length
  hS : S = tn + nn
  htn : tn ≤ 65
  hnn : nn ≤ 65
  n256 : N ≤ 256
  eok : EsOK ks es
  sym : ∀ q, q < N → ∀ x ∈ es.getD q [], x.1 < S
  t40 : T ≤ 40000
  tb : ∀ x ∈ tl, ∃ q s : Nat, x = ((q : Int), (s : Int)) ∧ q < N ∧ s < S
section
variable {N T S tn nn : Nat} {ks : List (List It)} {es : List (List (Nat × Nat))} {tl : List It}
theorem RlOK.at (h : RlOK N T S tn nn ks es tl) {j : Nat} (hj : j < T) : ∃ q s : Nat, tl.getD j (0, 0) = ((q : Int), (s : Int)) ∧ q < N ∧ s < S := by
  have hl : j < tl.length := by rw [← h.hT]; exact hj
  obtain ⟨q, s, e, h1⟩ := h.tb (tl.getD j (0, 0)) (by rw [List.getD_eq_getElem?_getD, List.getElem?_eq_getElem hl]; exact List.getElem_mem hl)
  exact ⟨q, s, e, h1⟩
theorem RlOK.ld (h : RlOK N T S tn nn ks es tl) {q : Nat} (hq : q < N) (s : Nat) : ∃ t : Nat, ldF (es.getD q []) s = (t : Int) ∧ t < N := by
  have h1 := ldF_range (l := es.getD q []) (N := N) (by omega) (fun x hx => by rw [h.hN]; exact ((h.eok.each q (by rw [← h.hN]; exact hq)).2.2 x hx).2) s
  exact ⟨(ldF (es.getD q []) s).toNat, by omega, by omega⟩
end
section
variable {B : Nat} {X : World} {nb nn S N T tn : Nat} {sa xa l1 m1 : Option Addr} {sc xc lc1 mc1 : Nat} {ks : List (List It)} {es : List (List (Nat × Nat))} {kv ev : Nat → Value} {tl : List It} {F : Nat → Bool} {lb mb : Nat → Nat}
theorem RaAt.tr (h : RaAt B X nb nn S (.slice sa N sc) (.slice xa T xc) (.slice l1 N lc1) (.slice m1 N mc1) ks es kv ev tl F lb mb) (hK : RlOK N T S tn nn ks es tl) {j q s : Nat} (hj : j < T) (e : tl.getD j (0, 0) = ((q : Int), (s : Int))) : ∃ xg, xa = some ⟨xg, 0, none⟩ ∧ X.cell? ⟨xg, j * 2, none⟩ = some (.int .i64 (q : Int)) ∧ X.cell? ⟨xg, j * 2 + 1, none⟩ = some (.int .i64 (s : Int)) := by
  have hl : j < tl.length := by rw [← hK.hT]; exact hj
  obtain ⟨g, c, e1, h1⟩ := owns_at h.trs (by omega)
  simp only [Value.slice.injEq] at e1
  obtain ⟨h2, h3⟩ := itsV_at tl j hl
  rw [e] at h2 h3
  exact ⟨g, e1.1, h1 _ _ h2, h1 _ _ h3⟩
theorem RaAt.ldc (h : RaAt B X nb nn S (.slice sa N sc) (.slice xa T xc) (.slice l1 N lc1) (.slice m1 N mc1) ks es kv ev tl F lb mb) (hK : RlOK N T S tn nn ks es tl) {q s : Nat} (hq : q < N) (hs : s < S) : ∃ g, l1 = some ⟨g, 0, none⟩ ∧ X.cell? ⟨g, q, none⟩ = some (.slice (some ⟨lb q, 0, none⟩) S S) ∧ X.cell? ⟨lb q, s, none⟩ = some (.int .i64 (ldF (es.getD q []) s)) := by
  obtain ⟨g, c, e, h1, h2⟩ := h.l.at (q := q) (by rw [← hK.hN]; exact hq)
  simp only [Value.slice.injEq] at e
  exact ⟨g, e.1, h1, h2 s hs⟩
theorem RaAt.nmc (h : RaAt B X nb nn S (.slice sa N sc) (.slice xa T xc) (.slice l1 N lc1) (.slice m1 N mc1) ks es kv ev tl F lb mb) (hK : RlOK N T S tn nn ks es tl) {q s : Nat} (hq : q < N) (hs : s < S) : ∃ g, m1 = some ⟨g, 0, none⟩ ∧ X.cell? ⟨g, q, none⟩ = some (.slice (some ⟨mb q, 0, none⟩) S S) ∧ X.cell? ⟨mb q, s, none⟩ = some (.int .i64 (nmF tl q s)) := by
  obtain ⟨g, c, e, h1, h2⟩ := h.m.at (q := q) (by rw [← hK.hN]; exact hq)
  simp only [Value.slice.injEq] at e
  exact ⟨g, e.1, h1, h2 s hs⟩
theorem RaAt.edc (h : RaAt B X nb nn S (.slice sa N sc) (.slice xa T xc) (.slice l1 N lc1) (.slice m1 N mc1) ks es kv ev tl F lb mb) (hK : RlOK N T S tn nn ks es tl) {b : Nat} (hb : b < N) : ∃ sg ea ec, sa = some ⟨sg, 0, none⟩ ∧ ev b = .slice ea (es.getD b []).length ec ∧ X.cell? ⟨sg, b * 2 + 1, none⟩ = some (.slice ea (es.getD b []).length ec) ∧ ∀ i s t, i < (es.getD b []).length → (es.getD b []).getD i (0, 0) = (s, t) → ∃ eb eo, ea = some ⟨eb, eo, none⟩ ∧ X.cell? ⟨eb, eo + i * 2, none⟩ = some (.int .i64 (s : Int)) ∧ X.cell? ⟨eb, eo + i * 2 + 1, none⟩ = some (.int .i64 (t : Int)) := by
  have hb' : b < ks.length := by rw [← hK.hN]; exact hb
  obtain ⟨g, c, e, _, h2⟩ := h.aut.st hb'
  obtain ⟨a, c', e', h3⟩ := h.aut.edgAt hb'
  simp only [Value.slice.injEq] at e
  rw [elF_len] at e'
  rw [e'] at h2
  refine ⟨g, a, c', e.1, e', h2, fun i s t hi he => ?_⟩
  obtain ⟨h4, h5⟩ := elF_at (es := es) (q := b) hi
  rcases h3 with h3 | ⟨eb, eo, h6, h7⟩
  · rw [h3] at h4; simp only [List.length_nil] at h4; omega
  · obtain ⟨h8, h9⟩ := h7 i (by rw [h4]; exact hi)
    rw [h5, he] at h8 h9
    exact ⟨eb, eo, h6, h8, h9⟩
theorem RaAt.edx (h : RaAt B X nb nn S (.slice sa N sc) (.slice xa T xc) (.slice l1 N lc1) (.slice m1 N mc1) ks es kv ev tl F lb mb) (hK : RlOK N T S tn nn ks es tl) {b m : Nat} (hb : b < N) {ea : Option Addr} {ec : Nat} (hev : ev b = .slice ea m ec) : ∀ i s t, i < (es.getD b []).length → (es.getD b []).getD i (0, 0) = (s, t) → ∃ eb eo, ea = some ⟨eb, eo, none⟩ ∧ X.cell? ⟨eb, eo + i * 2, none⟩ = some (.int .i64 (s : Int)) ∧ X.cell? ⟨eb, eo + i * 2 + 1, none⟩ = some (.int .i64 (t : Int)) := by
  obtain ⟨_, ea', ec', _, h2, _, h4⟩ := h.edc hK hb
  rw [hev] at h2
  simp only [Value.slice.injEq] at h2
  rw [h2.1]
  exact h4
end
theorem av_cells {X : World} {ab : Nat} {v0 v1 v2 v3 v4 v5 v6 v7 v8 v9 : Value} {t : TypeId} (h : X.heap[ab]? = some (.cells #[v0, v1, v2, v3, v4, v5, v6, v7, v8, v9] t (0, 0))) : X.cell? ⟨ab, 0, none⟩ = some v0 ∧ X.cell? ⟨ab, 1, none⟩ = some v1 ∧ X.cell? ⟨ab, 2, none⟩ = some v2 ∧ X.cell? ⟨ab, 3, none⟩ = some v3 ∧ X.cell? ⟨ab, 4, none⟩ = some v4 ∧ X.cell? ⟨ab, 5, none⟩ = some v5 ∧ X.cell? ⟨ab, 6, none⟩ = some v6 ∧ X.cell? ⟨ab, 7, none⟩ = some v7 ∧ X.cell? ⟨ab, 8, none⟩ = some v8 ∧ X.cell? ⟨ab, 9, none⟩ = some v9 := by
  refine ⟨?_, ?_, ?_, ?_, ?_, ?_, ?_, ?_, ?_, ?_⟩ <;> rw [cell_of_row _ _ _ _ _ _ h] <;> rfl
theorem KeepH.at {X Y : World} {b : Nat} {cs : Array Value} {t : TypeId} (h : KeepH X Y) (hb : X.heap[b]? = some (.cells cs t (0, 0))) (h1 : t ≠ 3) (h2 : t ≠ 24) : Y.heap[b]? = some (.cells cs t (0, 0)) := h.2 b cs t hb h1 h2

section
variable (ta na la pa sa xa l1 m1 : Option Addr) (tc nc lc pc sc xc lc1 mc1 : Nat) (n N T nb : Nat) (st : Int) (w : World) (tn nn ln : Nat)

set_option maxRecDepth 100000 in
set_option maxHeartbeats 4000000 in
theorem uread_any (P : World) (B S bx kb : Nat) (ks : List (List It)) (es : List (List (Nat × Nat))) (kv ev : Nat → Value) (tl : List It) (F : Nat → Bool) (lb mb : Nat → Nat) (hK : RlOK N T S tn nn ks es tl)
    (hR : RaAt B P nb nn S (.slice sa N sc) (.slice xa T xc) (.slice l1 N lc1) (.slice m1 N mc1) ks es kv ev tl F lb mb)
    (Q : Nat → List Int) (hQ : ∀ f, (Q f).length ≤ 100) (hL : ∃ ua uc, LqP P w bx kb T Q ua uc) :
    Calls Tryz.prog 32 #[.agg #[.slice ta tn tc, .slice na nn nc, .slice la ln lc, .int .i64 st, .slice pa n pc, .slice (some ⟨nb, 0, none⟩) nn nn, .slice sa N sc, .slice xa T xc, .slice l1 N lc1, .slice m1 N mc1], .func (.func 57) #[] #[.pointer (some ⟨bx, 0, none⟩)]] w fun e y => e = .returned (.tuple #[]) ∧ ∃ ua uc, LqP P y bx kb T (foldQ Q (rdT es tl tn F T)) ua uc := by
  have HR : Hid (∀ X, P.grownBy X none → RaAt B X nb nn S (.slice sa N sc) (.slice xa T xc) (.slice l1 N lc1) (.slice m1 N mc1) ks es kv ev tl F lb mb) := fun X hX => hR.kept hX
  have HK := show Hid _ from hK
  have HLN : Hid (∀ f l, l.length ≤ T * 130 + 130 → (foldQ Q l f).length ≤ 10000000) := fun f l h => by
    have h1 := foldQ_len Q f l
    have h2 := hQ f
    have h3 : T * 130 ≤ 40000 * 130 := Nat.mul_le_mul_right _ hK.t40
    omega
  have HX0 : Hid ((w.alloc (.cells #[.slice ta tn tc, .slice na nn nc, .slice la ln lc, .int .i64 st, .slice pa n pc, .slice (some ⟨nb, 0, none⟩) nn nn, .slice sa N sc, .slice xa T xc, .slice l1 N lc1, .slice m1 N mc1] 81)).heap[w.heap.size]? = some (.cells #[.slice ta tn tc, .slice na nn nc, .slice la ln lc, .int .i64 st, .slice pa n pc, .slice (some ⟨nb, 0, none⟩) nn nn, .slice sa N sc, .slice xa T xc, .slice l1 N lc1, .slice m1 N mc1] 81 (0, 0))) := heap_alloc_last w _
  have HL0 : Hid (∃ ua uc, LqP P (w.alloc (.cells #[.slice ta tn tc, .slice na nn nc, .slice la ln lc, .int .i64 st, .slice pa n pc, .slice (some ⟨nb, 0, none⟩) nn nn, .slice sa N sc, .slice xa T xc, .slice l1 N lc1, .slice m1 N mc1] 81)) bx kb T Q ua uc) := by
    obtain ⟨ua, uc, h⟩ := hL
    exact ⟨ua, uc, h.kept (World.grownBy_alloc _ _ none)⟩
  have c7 : (w.alloc (.cells #[.slice ta tn tc, .slice na nn nc, .slice la ln lc, .int .i64 st, .slice pa n pc, .slice (some ⟨nb, 0, none⟩) nn nn, .slice sa N sc, .slice xa T xc, .slice l1 N lc1, .slice m1 N mc1] 81)).cell? ⟨w.heap.size, 7, none⟩ = some (.slice xa T xc) := by rw [cell_of_row _ _ _ _ _ _ HX0.out]; rfl
  have ht40 := hK.t40
  have hnn := hK.hnn
  clear hR hK hQ hL
  go_enter Tryz.func32, Tryz.ntmps32
  go_wp2_with fail
  clear c7
  generalize w.alloc (.cells #[.slice ta tn tc, .slice na nn nc, .slice la ln lc, .int .i64 st, .slice pa n pc, .slice (some ⟨nb, 0, none⟩) nn nn, .slice sa N sc, .slice xa T xc, .slice l1 N lc1, .slice m1 N mc1] 81) = W0 at HX0 HL0 ⊢
  obtain ⟨ab, hab⟩ : ∃ b, b = w.heap.size := ⟨_, rfl⟩
  rw [← hab] at HX0 ⊢
  obtain ⟨cs, hcs⟩ : ∃ cs : Array Value, cs = #[.slice ta tn tc, .slice na nn nc, .slice la ln lc, .int .i64 st, .slice pa n pc, .slice (some ⟨nb, 0, none⟩) nn nn, .slice sa N sc, .slice xa T xc, .slice l1 N lc1, .slice m1 N mc1] := ⟨_, rfl⟩
  have HCS := show Hid _ from hcs
  rw [← hcs] at HX0
  clear hab hcs
  go_loopg [12] T (fun gk v12 wr => ∃ (j : Nat), j ≤ T ∧ gk = T - j ∧ v12 = .int .i64 j ∧ wr.heap[ab]? = some (.cells cs 81 (0, 0)) ∧ ∃ ua uc, LqP P wr bx kb T (foldQ Q (rdT es tl tn F j)) ua uc)
  case atStart => exact ⟨0, Nat.zero_le _, rfl, rfl, HX0.out, HL0.out⟩
  case round =>
    obtain ⟨j, hj, hgj, rfl, hb, hl⟩ := hrel
    have HGJ : Hid (gk = T - j) := hgj
    have HB : Hid (wr.heap[ab]? = some (.cells cs 81 (0, 0))) := hb
    have HL : Hid (∃ ua uc, LqP P wr bx kb T (foldQ Q (rdT es tl tn F j)) ua uc) := hl
    clear hgj hb hl HX0 HL0
    generalize wr = Y at *
    by_cases hlt : j < T
    · have hjd : decide (j < T) = true := decide_eq_true hlt
      have hj0 : (0 : Int) ≤ (j : Int) := by omega
      have hj1 : (j : Int) < (T : Int) := by omega
      have HPY : Hid (P.grownBy Y none) := by obtain ⟨_, _, h⟩ := HL.out; exact h.grown
      obtain ⟨q, s, hqs, hqN, hsS⟩ := HK.out.at hlt
      obtain ⟨xg, rfl, x0, x1⟩ := (HR.out Y HPY.out).tr HK.out hlt hqs
      obtain ⟨b, hb, hbN⟩ := HK.out.ld hqN s
      have HBH : Hid (bhF es (tl.getD j (0, 0)) = b) := by
        show _ = _
        rw [hqs]
        unfold bhF
        simp only [Int.toNat_natCast]
        rw [hb, Int.toNat_natCast]
      obtain ⟨lg, rfl, d0, d1⟩ := (HR.out Y HPY.out).ldc HK.out hqN hsS
      rw [hb] at d1
      obtain ⟨sg, ea, ec, rfl, hev, s0, _⟩ := (HR.out Y HPY.out).edc HK.out hbN
      have hba := HB.out
      rw [HCS.out] at hba
      obtain ⟨a0, a1, a2, a3, a4, a5, a6, a7, a8, a9⟩ := av_cells hba
      obtain ⟨Z, hZ⟩ : ∃ Z, Z = Y.alloc (.cells #[.int .i64 (q : Int), .int .i64 (s : Int)] 53) := ⟨_, rfl⟩
      have hgZ : Y.grownBy Z none := by rw [hZ]; exact World.grownBy_alloc _ _ none
      have hhZ : Z.heap[Y.heap.size]? = some (.cells #[.int .i64 (q : Int), .int .i64 (s : Int)] 53 (0, 0)) := by rw [hZ]; exact heap_alloc_last Y _
      have hk1 := hgZ.cell a8 (by simp)
      have hk2 : Z.cell? ⟨Y.heap.size, 0, none⟩ = some (.int .i64 (q : Int)) := by rw [cell_of_row _ _ _ _ _ _ hhZ]; rfl
      have hk3 : Z.cell? ⟨Y.heap.size, 1, none⟩ = some (.int .i64 (s : Int)) := by rw [cell_of_row _ _ _ _ _ _ hhZ]; rfl
      have hk4 := hgZ.cell d0 (by simp)
      have hk5 := hgZ.cell d1 (by simp)
      have b6 := hgZ.cell a6 (by simp)
      have b7 := hgZ.cell s0 (by simp)
      obtain ⟨m, hm⟩ : ∃ m, m = (es.getD b []).length := ⟨_, rfl⟩
      have HM := show Hid _ from hm
      have hm130 : m ≤ 130 := by rw [hm]; exact HK.out.eok.short b
      rw [← hm] at b7 s0 hev
      have HEV := show Hid _ from hev
      have HBZ : Hid (Z.heap[ab]? = some (.cells cs 81 (0, 0))) := box_kept HB.out hgZ
      have HGZ : Hid (Y.grownBy Z none) := hgZ
      have HLZ : Hid (∃ ua uc, LqP P Z bx kb T (foldQ Q (rdT es tl tn F j)) ua uc) := by
        obtain ⟨ua, uc, h⟩ := HL.out
        exact ⟨ua, uc, h.kept hgZ⟩
      have HKS : Hid (Z.cell? ⟨ab, 8, none⟩ = some (.slice (some ⟨lg, 0, none⟩) N lc1) ∧ Z.cell? ⟨Y.heap.size, 0, none⟩ = some (.int .i64 (q : Int)) ∧ Z.cell? ⟨Y.heap.size, 1, none⟩ = some (.int .i64 (s : Int)) ∧ Z.cell? ⟨lg, q, none⟩ = some (.slice (some ⟨lb q, 0, none⟩) S S) ∧ Z.cell? ⟨lb q, s, none⟩ = some (.int .i64 (b : Int))) := ⟨hk1, hk2, hk3, hk4, hk5⟩
      have hs0 : (0 : Int) ≤ (s : Int) := by omega
      have hs1 : (s : Int) < (S : Int) := by omega
      have hq0 : (0 : Int) ≤ (q : Int) := by omega
      have hq1 : (q : Int) < (N : Int) := by omega
      have hb0 : (0 : Int) ≤ (b : Int) := by omega
      have hb1 : (b : Int) < (N : Int) := by omega
      have HQS := show Hid _ from hqs
      have HZE := show Hid _ from hZ
      rw [hZ] at HKS b6 b7
      clear hqs hb hm hba hZ hgZ hhZ hk1 hk2 hk3 hk4 hk5 a0 a1 a2 a3 a4 a5 a6 a8 a9 d0 d1 s0 hev
      go_wp2_with fail
      go_region_held3 (fun x => x.cell? ⟨ab, 8, none⟩ = some (.slice (some ⟨lg, 0, none⟩) N lc1) ∧ x.cell? ⟨Y.heap.size, 0, none⟩ = some (.int .i64 (q : Int)) ∧ x.cell? ⟨Y.heap.size, 1, none⟩ = some (.int .i64 (s : Int)) ∧ x.cell? ⟨lg, q, none⟩ = some (.slice (some ⟨lb q, 0, none⟩) S S) ∧ x.cell? ⟨lb q, s, none⟩ = some (.int .i64 (b : Int))) (first | exact HKS.out | go_keep) (fail)
      all_goals go_wp2_with fail
      go_loopg [34] m (fun gk v34 wr => ∃ (i : Nat), i ≤ m ∧ gk = m - i ∧ v34 = .int .i64 i ∧ wr.heap[ab]? = some (.cells cs 81 (0, 0)) ∧ ∃ ua uc, LqP P wr bx kb T (foldQ Q (rdT es tl tn F j ++ rdE tl tn F j b ((es.getD b []).take i))) ua uc)
      case atStart =>
        rw [← HZE.out]
        refine ⟨0, Nat.zero_le _, rfl, rfl, box_kept HBZ.out (grown_drewN _ _), ?_⟩
        obtain ⟨ua, uc, h⟩ := HLZ.out
        rw [List.take_zero, show rdE tl tn F j b [] = [] from rfl, List.append_nil]
        exact ⟨ua, uc, h.kept (grown_drewN _ _)⟩
      case round =>
        obtain ⟨i, hi, hgi, rfl, hb2, hl2⟩ := hrel
        have HGI : Hid (gk = m - i) := hgi
        have HB2 : Hid (wr.heap[ab]? = some (.cells cs 81 (0, 0))) := hb2
        have HL2 : Hid (∃ ua uc, LqP P wr bx kb T (foldQ Q (rdT es tl tn F j ++ rdE tl tn F j b ((es.getD b []).take i))) ua uc) := hl2
        clear hgi hb2 hl2 HBZ HLZ HKS b6 b7 x0 x1 HB HL HPY HGZ HZE
        generalize wr = X at *
        by_cases hlt2 : i < m
        · have hid : decide (i < m) = true := decide_eq_true hlt2
          have hi0 : (0 : Int) ≤ (i : Int) := by omega
          have hi1 : (i : Int) < (m : Int) := by omega
          have HPX : Hid (P.grownBy X none) := by obtain ⟨_, _, h⟩ := HL2.out; exact h.grown
          have hil : i < (es.getD b []).length := by rw [← HM.out]; exact hlt2
          obtain ⟨s2, t2, hst⟩ : ∃ s2 t2 : Nat, (es.getD b []).getD i (0, 0) = (s2, t2) := ⟨_, _, rfl⟩
          have hs2S : s2 < S := HK.out.sym b hbN (s2, t2) (by rw [← hst]; exact getD_in hil)
          obtain ⟨eb, eo, rfl, e0, e1⟩ := (HR.out X HPX.out).edx HK.out hbN HEV.out i s2 t2 hil hst
          have hba := HB2.out
          rw [HCS.out] at hba
          obtain ⟨V, hV⟩ : ∃ V, V = X.alloc (.cells #[.int .i64 (s2 : Int), .int .i64 (t2 : Int)] 115) := ⟨_, rfl⟩
          have hgV : X.grownBy V none := by rw [hV]; exact World.grownBy_alloc _ _ none
          have hhV : V.heap[X.heap.size]? = some (.cells #[.int .i64 (s2 : Int), .int .i64 (t2 : Int)] 115 (0, 0)) := by rw [hV]; exact heap_alloc_last X _
          obtain ⟨a0, a1, a2, a3, a4, a5, a6, a7, a8, a9⟩ := av_cells (box_kept hba hgV)
          have k0 : V.cell? ⟨X.heap.size, 0, none⟩ = some (.int .i64 (s2 : Int)) := by rw [cell_of_row _ _ _ _ _ _ hhV]; rfl
          have HBV : Hid (V.heap[ab]? = some (.cells cs 81 (0, 0))) := box_kept HB2.out hgV
          have HEB : Hid (V.heap[X.heap.size]? = some (.cells #[.int .i64 (s2 : Int), .int .i64 (t2 : Int)] 115 (0, 0))) := hhV
          have HLV : Hid (∃ ua uc, LqP P V bx kb T (foldQ Q (rdT es tl tn F j ++ rdE tl tn F j b ((es.getD b []).take i))) ua uc) := by
            obtain ⟨ua, uc, h⟩ := HL2.out
            exact ⟨ua, uc, h.kept hgV⟩
          have HNV : Hid (ValAt V nb nn 4 (fun i => .bool (F i))) := (HR.out V (grown_trans HPX.out hgV)).nul
          have HPV : Hid (P.grownBy V none) := grown_trans HPX.out hgV
          have HVE := show Hid _ from hV
          have HTK : Hid ((es.getD b []).take (i + 1) = (es.getD b []).take i ++ [(s2, t2)]) := take_snocE hil hst
          have HS2 : Hid (s2 < tn + nn) := by show _ < _; rw [← HK.out.hS]; exact hs2S
          obtain ⟨bb, hbb⟩ : ∃ bb, bb = (decide (tn ≤ s2) && F (s2 - tn)) := ⟨_, rfl⟩
          have HBB := show Hid _ from hbb
          have hs20 : (0 : Int) ≤ (s2 : Int) := by omega
          have hs21 : (s2 : Int) < (S : Int) := by omega
          rw [hV] at a0 a1 a2 a3 a4 a5 a6 a7 a8 a9 k0
          clear hil hst hba hV hgV hhV hbb HB2 HL2
          go_wp2_with fail
          rw [← HVE.out]
          refine Calls.mono (uvan_any _ _ _ _ _ _ _ _ _ _ _ _ _ _ _ _ _ _ _ _ _ _ _ _ _ F HNV.out hnn s2 HS2.out bb HBB.out) ?_
          rintro e w3 ⟨rfl, hg3⟩
          have HB3 : Hid (w3.heap[ab]? = some (.cells cs 81 (0, 0))) := box_kept HBV.out hg3
          have HE3 : Hid (w3.heap[X.heap.size]? = some (.cells #[.int .i64 (s2 : Int), .int .i64 (t2 : Int)] 115 (0, 0))) := box_kept HEB.out hg3
          have HL3 : Hid (∃ ua uc, LqP P w3 bx kb T (foldQ Q (rdT es tl tn F j ++ rdE tl tn F j b ((es.getD b []).take i))) ua uc) := by
            obtain ⟨ua, uc, h⟩ := HLV.out
            exact ⟨ua, uc, h.kept hg3⟩
          have HP3 : Hid (P.grownBy w3 none) := grown_trans HPV.out hg3
          clear hg3 a0 a1 a2 a3 a4 a5 a6 a7 a8 a9 k0 HBV HEB HLV HNV HPV HVE e0 e1
          have hiw : IntKind.i64.wrap ((i : Int) + 1) = (i : Int) + 1 := by rw [IntKind.wrap_i64]; omega
          cases bb with
          | false =>
            have HFN : Hid (foldQ Q (rdT es tl tn F j ++ rdE tl tn F j b ((es.getD b []).take i)) = foldQ Q (rdT es tl tn F j ++ rdE tl tn F j b ((es.getD b []).take (i + 1)))) := by
              show _ = _
              rw [HTK.out, rdE_snoc, if_neg (by rw [← HBB.out]; decide), List.append_nil]
            go_wp2_with fail
            go_roundg (m - (i + 1))
            all_goals first
              | exact (show ∃ (i' : Nat), _ from ⟨i + 1, by omega, rfl, by go_num, HB3.out, by rw [← HFN.out]; exact HL3.out⟩)
              | (have := HGI.out; omega)
          | true =>
            obtain ⟨x, hx⟩ : ∃ x, x = nmF tl b s2 := ⟨_, rfl⟩
            have HFN : Hid (updL (foldQ Q (rdT es tl tn F j ++ rdE tl tn F j b ((es.getD b []).take i))) j (addL (foldQ Q (rdT es tl tn F j ++ rdE tl tn F j b ((es.getD b []).take i)) j) x) = foldQ Q (rdT es tl tn F j ++ rdE tl tn F j b ((es.getD b []).take (i + 1)))) := by
              show _ = _
              rw [HTK.out, rdE_snoc, if_pos HBB.out.symm, ← List.append_assoc, foldQ_snoc, ← hx]
            have HLE : Hid ((foldQ Q (rdT es tl tn F j ++ rdE tl tn F j b ((es.getD b []).take i)) j).length ≤ 10000000) := by
              refine HLN.out _ _ ?_
              have h1 := rdT_len (tl := tl) (tn := tn) (F := F) HK.out.eok.short j
              have h2 := rdE_len tl tn F j b ((es.getD b []).take i)
              have h3 : j * 130 ≤ T * 130 := Nat.mul_le_mul_right _ (by omega)
              rw [List.length_take] at h2
              rw [List.length_append]
              have h4 := HM.out
              omega
            obtain ⟨mg, rfl, n0, n1⟩ := (HR.out w3 HP3.out).nmc HK.out hbN hs2S
            rw [← hx] at n1
            have HNM : Hid (∀ Z, P.grownBy Z none → Z.cell? ⟨mg, b, none⟩ = some (.slice (some ⟨mb b, 0, none⟩) S S) ∧ Z.cell? ⟨mb b, s2, none⟩ = some (.int .i64 x)) := fun Z hZ => by
              obtain ⟨mg', h1, h2, h3⟩ := (HR.out Z hZ).nmc HK.out hbN hs2S
              simp only [Option.some.injEq, Addr.mk.injEq, and_true] at h1
              rw [h1, hx]
              exact ⟨h2, h3⟩
            have HCL : Hid (∀ Z : World, Z.heap[ab]? = some (.cells cs 81 (0, 0)) → Z.cell? ⟨ab, 9, none⟩ = some (.slice (some ⟨mg, 0, none⟩) N mc1)) := fun Z hZ => by
              rw [HCS.out] at hZ
              exact (av_cells hZ).2.2.2.2.2.2.2.2.2
            have HEC : Hid (∀ Z : World, Z.heap[X.heap.size]? = some (.cells #[.int .i64 (s2 : Int), .int .i64 (t2 : Int)] 115 (0, 0)) → Z.cell? ⟨X.heap.size, 0, none⟩ = some (.int .i64 (s2 : Int))) := fun Z hZ => by
              rw [cell_of_row _ _ _ _ _ _ hZ]; rfl
            have HKS : Hid (w3.cell? ⟨ab, 9, none⟩ = some (.slice (some ⟨mg, 0, none⟩) N mc1) ∧ w3.cell? ⟨X.heap.size, 0, none⟩ = some (.int .i64 (s2 : Int)) ∧ w3.cell? ⟨mg, b, none⟩ = some (.slice (some ⟨mb b, 0, none⟩) S S) ∧ w3.cell? ⟨mb b, s2, none⟩ = some (.int .i64 x)) := ⟨HCL.out _ HB3.out, HEC.out _ HE3.out, n0, n1⟩
            have HHA : Hid (Calls Tryz.prog 57 #[.int .i64 (j : Int), .int .i64 x, .pointer (some ⟨bx, 0, none⟩)] w3.drew fun e y => HandTold P bx kb T (foldQ Q (rdT es tl tn F j ++ rdE tl tn F j b ((es.getD b []).take i))) j x w3.drew e y) := by
              obtain ⟨ua, uc, h⟩ := HL3.out
              exact hand_any P w3.drew bx kb T _ ua uc (h.kept (grown_drewN w3 1)) j x hlt HLE.out
            have HB3' : Hid (w3.drew.heap[ab]? = some (.cells cs 81 (0, 0))) := box_kept HB3.out (grown_drewN w3 1)
            have HE3' : Hid (w3.drew.heap[X.heap.size]? = some (.cells #[.int .i64 (s2 : Int), .int .i64 (t2 : Int)] 115 (0, 0))) := box_kept HE3.out (grown_drewN w3 1)
            clear hx n0 n1
            go_wp2_with fail
            go_region_held3 (fun x' => x'.cell? ⟨ab, 9, none⟩ = some (.slice (some ⟨mg, 0, none⟩) N mc1) ∧ x'.cell? ⟨X.heap.size, 0, none⟩ = some (.int .i64 (s2 : Int)) ∧ x'.cell? ⟨mg, b, none⟩ = some (.slice (some ⟨mb b, 0, none⟩) S S) ∧ x'.cell? ⟨mb b, s2, none⟩ = some (.int .i64 x)) (first | exact HKS.out | exact HKT.out | go_keep)
              ((first
                | (go_at_call 57; refine calls_at w3.drew (by with_reducible rfl) ?_; refine Calls.mono HHA.out ?_; rintro e w4 ⟨rfl, hk4, hl4⟩; have HB4 : Hid (w4.heap[ab]? = some (.cells cs 81 (0, 0))) := hk4.at HB3'.out (by decide) (by decide); have HL4 := show Hid _ from hl4; have HP4 : Hid (P.grownBy w4 none) := (by obtain ⟨_, _, h⟩ := hl4; exact h.grown); have HKT : Hid (w4.cell? ⟨ab, 9, none⟩ = some (.slice (some ⟨mg, 0, none⟩) N mc1) ∧ w4.cell? ⟨X.heap.size, 0, none⟩ = some (.int .i64 (s2 : Int)) ∧ w4.cell? ⟨mg, b, none⟩ = some (.slice (some ⟨mb b, 0, none⟩) S S) ∧ w4.cell? ⟨mb b, s2, none⟩ = some (.int .i64 x)) := ⟨HCL.out _ HB4.out, HEC.out _ (hk4.at HE3'.out (by decide) (by decide)), HNM.out _ HP4.out⟩; clear hk4 hl4)
                | fail))
            all_goals go_wp2_with fail
            all_goals go_roundg (m - (i + 1))
            all_goals first
              | exact (show ∃ (i' : Nat), _ from ⟨i + 1, by omega, rfl, by go_num, HB4.out, by rw [← HFN.out]; exact HL4.out⟩)
              | (have := HGI.out; omega)
        · have him : m = i := by omega
          have HIM := show Hid _ from him
          have hid : decide (i < m) = false := decide_eq_false hlt2
          have hjw : IntKind.i64.wrap ((j : Int) + 1) = (j : Int) + 1 := by rw [IntKind.wrap_i64]; omega
          have HFN : Hid (foldQ Q (rdT es tl tn F j ++ rdE tl tn F j b ((es.getD b []).take i)) = foldQ Q (rdT es tl tn F (j + 1))) := by
            show _ = _
            rw [rdT, HBH.out, ← him, HM.out, List.take_length]
          clear him
          go_wp2_with fail
          go_roundg (T - (j + 1))
          all_goals first
            | exact (show ∃ (j' : Nat), _ from ⟨j + 1, by omega, rfl, by go_num, HB2.out, by rw [← HFN.out]; exact HL2.out⟩)
            | (have := HGJ.out; omega)
    · have hjm : T = j := by omega
      subst hjm
      have hjd : decide (T < T) = false := decide_eq_false (by omega)
      go_wp2_with fail
      refine bodyPost_end (v := .tuple #[]) (by simp [results, Tryz.results32]) rfl ?_
      exact ⟨rfl, HL.out⟩
end

end Go.Proofs.YtkbjbijoekmooaaGreat.J

/-
  relate: lists.
-/
namespace Go.Proofs.YtkbjbijoekmooaaGreat.J
open Go.RowKit Go.Maps Go.Shelf

attribute [local go_sem] Oper.semAt_some

/-- What lists tells. -/
def ListsTold (T : Nat) (Q : Nat → List Int) (w : World) (e : Ending) (y : World) : Prop := ∃ kb bx ua uc, e = .returned (.slice (some ⟨kb, 0, none⟩) T T) ∧ LqP w y bx kb T Q ua uc

section
variable (ta na la pa sa xa l1 m1 : Option Addr) (tc nc lc pc sc xc lc1 mc1 : Nat) (n N T nb : Nat) (st : Int) (w : World) (tn nn ln : Nat)

set_option maxRecDepth 100000 in
set_option maxHeartbeats 2000000 in
theorem ulists_rd (Qf : Nat → List Int) (hT : T ≤ 40000) (hREL : ∀ X bx kb, LqP w X bx kb T (fun _ => []) (fun _ => none) (fun _ => 0) → Calls Tryz.prog 32 #[.agg #[.slice ta tn tc, .slice na nn nc, .slice la ln lc, .int .i64 st, .slice pa n pc, .slice (some ⟨nb, 0, none⟩) nn nn, .slice sa N sc, .slice xa T xc, .slice l1 N lc1, .slice m1 N mc1], .func (.func 57) #[] #[.pointer (some ⟨bx, 0, none⟩)]] X fun e y => e = .returned (.tuple #[]) ∧ ∃ ua uc, LqP w y bx kb T Qf ua uc) :
    Calls Tryz.prog 31 #[.agg #[.slice ta tn tc, .slice na nn nc, .slice la ln lc, .int .i64 st, .slice pa n pc, .slice (some ⟨nb, 0, none⟩) nn nn, .slice sa N sc, .slice xa T xc, .slice l1 N lc1, .slice m1 N mc1], .func (.func 32) #[.agg #[.slice ta tn tc, .slice na nn nc, .slice la ln lc, .int .i64 st, .slice pa n pc, .slice (some ⟨nb, 0, none⟩) nn nn, .slice sa N sc, .slice xa T xc, .slice l1 N lc1, .slice m1 N mc1]] #[]] w fun e y => ListsTold T Qf w e y := by
  have HREL := show Hid _ from hREL
  have HX0 : Hid ((w.alloc (.cells #[.slice ta tn tc, .slice na nn nc, .slice la ln lc, .int .i64 st, .slice pa n pc, .slice (some ⟨nb, 0, none⟩) nn nn, .slice sa N sc, .slice xa T xc, .slice l1 N lc1, .slice m1 N mc1] 81)).heap[w.heap.size]? = some (.cells #[.slice ta tn tc, .slice na nn nc, .slice la ln lc, .int .i64 st, .slice pa n pc, .slice (some ⟨nb, 0, none⟩) nn nn, .slice sa N sc, .slice xa T xc, .slice l1 N lc1, .slice m1 N mc1] 81 (0, 0))) := heap_alloc_last w _
  have c7 : (w.alloc (.cells #[.slice ta tn tc, .slice na nn nc, .slice la ln lc, .int .i64 st, .slice pa n pc, .slice (some ⟨nb, 0, none⟩) nn nn, .slice sa N sc, .slice xa T xc, .slice l1 N lc1, .slice m1 N mc1] 81)).cell? ⟨w.heap.size, 7, none⟩ = some (.slice xa T xc) := by rw [cell_of_row _ _ _ _ _ _ HX0.out]; rfl
  obtain ⟨i1, hq1, hu0, hu1, hu2⟩ := info_parts infoInts
  clear hREL
  go_enter Tryz.func31, Tryz.ntmps31
  go_wp2_with (at_make; refine wpList_make_full _ rfl _ _ 30 rfl w.heap.size 24 i1 (.slice none 0 0) 1 Tryz.underlying30 hq1 hu0 hu1 .i64 .i64 _ _ T rfl rfl (by omega) (by omega) (by rw [hu2]; omega) (by unfold maxLen; omega) (by simp) ?_)
  intro W1 hown hgrow
  have hval : ValAt W1 (w.heap.size + 1) T 24 (fun _ => .slice none 0 0) := made_rowK (B := w.heap.size) rfl (by simpa [Value.cells] using hown)
  have HG1 : Hid (w.grownBy W1 none) := grown_trans (World.grownBy_alloc _ _ none) hgrow
  have HV1 : Hid (ValAt W1 (w.heap.size + 1) T 24 (fun _ => .slice none 0 0)) := hval
  clear hown hgrow hval HX0 c7
  have HLQ : Hid (LqP w (W1.alloc (.cells #[.slice (some ⟨w.heap.size + 1, 0, none⟩) T T] 30)) W1.heap.size (w.heap.size + 1) T (fun _ => []) (fun _ => none) (fun _ => 0)) :=
    ⟨grown_trans HG1.out (World.grownBy_alloc _ _ none), heap_alloc_last W1 _, HV1.out.kept (World.grownBy_alloc _ _ none), fun _ _ => World.ownsRow_nil _ _ _ _, fun _ _ _ _ _ => .inl rfl, ⟨HG1.out.size, by omega⟩⟩
  clear HG1 HV1
  go_wp2_with fail
  refine Calls.mono (HREL.out _ _ _ HLQ.out) ?_
  rintro e y ⟨rfl, ua, uc, hL⟩
  have HL := show Hid _ from hL
  have c0 : y.cell? ⟨W1.heap.size, 0, none⟩ = some (.slice (some ⟨w.heap.size + 1, 0, none⟩) T T) := by rw [cell_of_row _ _ _ _ _ _ hL.box]; rfl
  clear hL HLQ HREL
  go_wp2_with fail
  go_ret
  exact ⟨_, _, ua, uc, rfl, HL.out⟩

set_option maxRecDepth 100000 in
set_option maxHeartbeats 2000000 in
theorem ulists_inc (Qf : Nat → List Int) (hT : T ≤ 40000) (hREL : ∀ X bx kb, LqP w X bx kb T (fun _ => []) (fun _ => none) (fun _ => 0) → Calls Tryz.prog 33 #[.agg #[.slice ta tn tc, .slice na nn nc, .slice la ln lc, .int .i64 st, .slice pa n pc, .slice (some ⟨nb, 0, none⟩) nn nn, .slice sa N sc, .slice xa T xc, .slice l1 N lc1, .slice m1 N mc1], .func (.func 57) #[] #[.pointer (some ⟨bx, 0, none⟩)]] X fun e y => e = .returned (.tuple #[]) ∧ ∃ ua uc, LqP w y bx kb T Qf ua uc) :
    Calls Tryz.prog 31 #[.agg #[.slice ta tn tc, .slice na nn nc, .slice la ln lc, .int .i64 st, .slice pa n pc, .slice (some ⟨nb, 0, none⟩) nn nn, .slice sa N sc, .slice xa T xc, .slice l1 N lc1, .slice m1 N mc1], .func (.func 33) #[.agg #[.slice ta tn tc, .slice na nn nc, .slice la ln lc, .int .i64 st, .slice pa n pc, .slice (some ⟨nb, 0, none⟩) nn nn, .slice sa N sc, .slice xa T xc, .slice l1 N lc1, .slice m1 N mc1]] #[]] w fun e y => ListsTold T Qf w e y := by
  have HREL := show Hid _ from hREL
  have HX0 : Hid ((w.alloc (.cells #[.slice ta tn tc, .slice na nn nc, .slice la ln lc, .int .i64 st, .slice pa n pc, .slice (some ⟨nb, 0, none⟩) nn nn, .slice sa N sc, .slice xa T xc, .slice l1 N lc1, .slice m1 N mc1] 81)).heap[w.heap.size]? = some (.cells #[.slice ta tn tc, .slice na nn nc, .slice la ln lc, .int .i64 st, .slice pa n pc, .slice (some ⟨nb, 0, none⟩) nn nn, .slice sa N sc, .slice xa T xc, .slice l1 N lc1, .slice m1 N mc1] 81 (0, 0))) := heap_alloc_last w _
  have c7 : (w.alloc (.cells #[.slice ta tn tc, .slice na nn nc, .slice la ln lc, .int .i64 st, .slice pa n pc, .slice (some ⟨nb, 0, none⟩) nn nn, .slice sa N sc, .slice xa T xc, .slice l1 N lc1, .slice m1 N mc1] 81)).cell? ⟨w.heap.size, 7, none⟩ = some (.slice xa T xc) := by rw [cell_of_row _ _ _ _ _ _ HX0.out]; rfl
  obtain ⟨i1, hq1, hu0, hu1, hu2⟩ := info_parts infoInts
  clear hREL
  go_enter Tryz.func31, Tryz.ntmps31
  go_wp2_with (at_make; refine wpList_make_full _ rfl _ _ 30 rfl w.heap.size 24 i1 (.slice none 0 0) 1 Tryz.underlying30 hq1 hu0 hu1 .i64 .i64 _ _ T rfl rfl (by omega) (by omega) (by rw [hu2]; omega) (by unfold maxLen; omega) (by simp) ?_)
  intro W1 hown hgrow
  have hval : ValAt W1 (w.heap.size + 1) T 24 (fun _ => .slice none 0 0) := made_rowK (B := w.heap.size) rfl (by simpa [Value.cells] using hown)
  have HG1 : Hid (w.grownBy W1 none) := grown_trans (World.grownBy_alloc _ _ none) hgrow
  have HV1 : Hid (ValAt W1 (w.heap.size + 1) T 24 (fun _ => .slice none 0 0)) := hval
  clear hown hgrow hval HX0 c7
  have HLQ : Hid (LqP w (W1.alloc (.cells #[.slice (some ⟨w.heap.size + 1, 0, none⟩) T T] 30)) W1.heap.size (w.heap.size + 1) T (fun _ => []) (fun _ => none) (fun _ => 0)) :=
    ⟨grown_trans HG1.out (World.grownBy_alloc _ _ none), heap_alloc_last W1 _, HV1.out.kept (World.grownBy_alloc _ _ none), fun _ _ => World.ownsRow_nil _ _ _ _, fun _ _ _ _ _ => .inl rfl, ⟨HG1.out.size, by omega⟩⟩
  clear HG1 HV1
  go_wp2_with fail
  refine Calls.mono (HREL.out _ _ _ HLQ.out) ?_
  rintro e y ⟨rfl, ua, uc, hL⟩
  have HL := show Hid _ from hL
  have c0 : y.cell? ⟨W1.heap.size, 0, none⟩ = some (.slice (some ⟨w.heap.size + 1, 0, none⟩) T T) := by rw [cell_of_row _ _ _ _ _ _ hL.box]; rfl
  clear hL HLQ HREL
  go_wp2_with fail
  go_ret
  exact ⟨_, _, ua, uc, rfl, HL.out⟩
end

end Go.Proofs.YtkbjbijoekmooaaGreat.J

/-
  relate: what is handed to lists, beside a row of numbers that stays.
-/
namespace Go.Proofs.YtkbjbijoekmooaaGreat.J
open Go.RowKit Go.Maps Go.Shelf

attribute [local go_sem] Oper.semAt_some

/-- Lists under way, and a row of numbers beside them. -/
def LqT (P X : World) (bx kb T : Nat) (Q : Nat → List Int) (tb tm : Nat) (tf : Nat → Value) : Prop := ∃ ua uc, LqP P X bx kb T Q ua uc ∧ ValAt X tb tm 3 tf ∧ ∀ k, k < T → (Value.slice (ua k) (Q k).length (uc k)).ownBlock ≠ some tb
theorem LqT.kept {P X Y : World} {bx kb T : Nat} {Q : Nat → List Int} {tb tm : Nat} {tf : Nat → Value} (h : LqT P X bx kb T Q tb tm tf) (hg : X.grownBy Y none) : LqT P Y bx kb T Q tb tm tf := by
  obtain ⟨ua, uc, h1, h2, h3⟩ := h
  exact ⟨ua, uc, h1.kept hg, h2.kept hg, h3⟩
/-- A row that is new. -/
theorem LqT.new {P X Y : World} {bx kb T : Nat} {Q : Nat → List Int} {ua : Nat → Option Addr} {uc : Nat → Nat} (h : LqP P X bx kb T Q ua uc) {tb tm : Nat} {tf : Nat → Value} (hg : X.grownBy Y none) (hv : ValAt Y tb tm 3 tf) (hn : X.heap.size ≤ tb) : LqT P Y bx kb T Q tb tm tf :=
  ⟨ua, uc, h.kept hg, hv, fun k hk e => by have := ((h.own k hk).lt tb e).2; omega⟩
theorem LqT.lq {P X : World} {bx kb T : Nat} {Q : Nat → List Int} {tb tm : Nat} {tf : Nat → Value} (h : LqT P X bx kb T Q tb tm tf) : ∃ ua uc, LqP P X bx kb T Q ua uc := by
  obtain ⟨ua, uc, h1, _⟩ := h
  exact ⟨ua, uc, h1⟩
theorem LqT.grown {P X : World} {bx kb T : Nat} {Q : Nat → List Int} {tb tm : Nat} {tf : Nat → Value} (h : LqT P X bx kb T Q tb tm tf) : P.grownBy X none := by
  obtain ⟨ua, uc, h1, _⟩ := h
  exact h1.grown
theorem LqT.val {P X : World} {bx kb T : Nat} {Q : Nat → List Int} {tb tm : Nat} {tf : Nat → Value} (h : LqT P X bx kb T Q tb tm tf) : ValAt X tb tm 3 tf := by
  obtain ⟨ua, uc, _, h1, _⟩ := h
  exact h1
/-- What is handed to the lists. -/
def HandToldT (P : World) (bx kb T tb tm : Nat) (tf : Nat → Value) (Q : Nat → List Int) (f : Nat) (x : Int) (w : World) (e : Ending) (y : World) : Prop := e = .returned (.tuple #[]) ∧ KeepH w y ∧ LqT P y bx kb T (updL Q f (addL (Q f) x)) tb tm tf

set_option maxRecDepth 100000 in
set_option maxHeartbeats 2000000 in
theorem handT_any (P w : World) (bx kb T tb tm : Nat) (tf : Nat → Value) (Q : Nat → List Int) (hLT : LqT P w bx kb T Q tb tm tf) (f : Nat) (x : Int) (hf : f < T) (hQ : (Q f).length ≤ 10000000) :
    Calls Tryz.prog 57 #[.int .i64 (f : Int), .int .i64 x, .pointer (some ⟨bx, 0, none⟩)] w fun e y => HandToldT P bx kb T tb tm tf Q f x w e y := by
  have HL : Hid (LqT P w bx kb T Q tb tm tf) := hLT
  obtain ⟨ua, uc, h, htv, hap⟩ := hLT
  have c0 : w.cell? ⟨bx, 0, none⟩ = some (.slice (some ⟨kb, 0, none⟩) T T) := by rw [cell_of_row _ _ _ _ _ _ h.box]; rfl
  have c1 := h.val.cell f hf
  obtain ⟨fa, hfa⟩ : ∃ a, a = ua f := ⟨_, rfl⟩
  obtain ⟨fc, hfc⟩ : ∃ a, a = uc f := ⟨_, rfl⟩
  obtain ⟨m, hm⟩ : ∃ m, m = (Q f).length := ⟨_, rfl⟩
  rw [← hfa, ← hfc, ← hm] at c1
  rw [← hm] at hQ
  have hf0 : (0 : Int) ≤ (f : Int) := by omega
  have hf1 : (f : Int) < (T : Int) := by omega
  have HOW : Hid (∀ Y, w.grownBy Y none → Y.ownsRow P.heap.size 3 1 (.slice fa m fc) m (intV (Q f))) := fun Y hY => by
    have h1 := keep0 (h.own f hf) hY
    rw [← hfa, ← hfc, ← hm] at h1
    exact h1
  have HPS : Hid (∀ Y, w.grownBy Y none → P.heap.size ≤ Y.heap.size) := fun Y hY => Nat.le_trans h.grown.size hY.size
  have HFIN : Hid (∀ (Y V : World) (g c : Nat), w.grownBy Y none → Y.grownBy V (Value.slice fa m fc).ownBlock → V.ownsRow P.heap.size 3 1 (.slice (some ⟨g, 0, none⟩) (m + 1) c) (m + 1) (intV (Q f) ++ [.int .i64 x]) → ((Value.slice fa m fc).ownBlock = some g ∨ g = Y.heap.size) → V.cell? ⟨kb, f, none⟩ = some (.slice fa m fc) ∧ V.frozen? ⟨kb, f, none⟩ = false ∧ V.cell? ⟨bx, 0, none⟩ = some (.slice (some ⟨kb, 0, none⟩) T T) ∧ KeepH w (V.setCell ⟨kb, f, none⟩ (.slice (some ⟨g, 0, none⟩) (m + 1) c)) ∧ LqT P (V.setCell ⟨kb, f, none⟩ (.slice (some ⟨g, 0, none⟩) (m + 1) c)) bx kb T (updL Q f (Q f ++ [x])) tb tm tf) := fun Y V g c hY hg ho hat => by
    rw [hfa, hfc, hm] at hg hat
    rw [hm] at ho
    have h1 := h.kept hY
    have hv : ValAt V kb T 24 (fun k => .slice (ua k) (Q k).length (uc k)) := box_row h1.val (h1.own f hf) (by decide) hg
    have hb : V.heap[bx]? = some (.cells #[.slice (some ⟨kb, 0, none⟩) T T] 30 (0, 0)) := box_row h1.box (h1.own f hf) (by decide) hg
    refine ⟨by rw [hfa, hfc, hm]; exact hv.cell f hf, hv.free f, by rw [cell_of_row _ _ _ _ _ _ hb]; rfl, ?_⟩
    rw [hm]
    have hne : some tb ≠ (Value.slice (ua f) (Q f).length (uc f)).ownBlock := fun e => hap f hf e.symm
    have htY := htv.kept hY
    have ht1 : ValAt V tb tm 3 tf := by
      unfold ValAt at htY ⊢
      exact (hg.block tb (Array.getElem?_eq_some_iff.1 htY).1 hne).trans htY
    have ht2 : ValAt (V.setCell ⟨kb, f, none⟩ (.slice (some ⟨g, 0, none⟩) ((Q f).length + 1) c)) tb tm 3 tf := ht1.at (grown_setCell kb f _) fun e => by
      have e2 : tb = kb := by simpa using e
      unfold ValAt at ht1 hv
      rw [e2, hv] at ht1
      simp only [Option.some.injEq, Obj.cells.injEq] at ht1
      exact absurd ht1.2.1 (by decide)
    refine ⟨((KeepH.none_ hY).trans (.row (h1.own f hf) hg)).trans (.set hv), _, _, h1.add hf hg ho hat, ht2, fun k hk => ?_⟩
    by_cases e : k = f
    · subst e
      rw [updL_same, updL_same, updL_same]
      show some g ≠ some tb
      intro e2
      have e3 : g = tb := by simpa using e2
      rcases hat with h2 | h2
      · rw [e3] at h2; exact hap k hf h2
      · have := htv.lt
        have := hY.size
        omega
    · rw [updL_other _ _ e, updL_other _ _ e, updL_other _ _ e]
      exact hap k hk
  have HAL : Hid ((m = 0 ∨ (Q f).getD (m - 1) 0 ≠ x) → addL (Q f) x = Q f ++ [x]) := fun h => by
    unfold addL
    rw [if_neg]
    intro e
    rw [List.getLast?_eq_getElem?, ← hm] at e
    rcases h with h | h
    · rw [List.getElem?_eq_none (by omega)] at e; cases e
    · exact h (by rw [List.getD_eq_getElem?_getD, e]; rfl)
  have HALN : Hid (m ≠ 0 → (Q f).getD (m - 1) 0 = x → addL (Q f) x = Q f) := fun h0 h => by
    unfold addL
    rw [if_pos]
    rw [List.getLast?_eq_getElem?, ← hm]
    rw [List.getD_eq_getElem?_getD, List.getElem?_eq_getElem (by omega)] at h
    rw [List.getElem?_eq_getElem (by omega)]
    exact congrArg some h
  have HCL : Hid (∀ Y, w.grownBy Y none → m ≠ 0 → ∃ g, fa = some ⟨g, 0, none⟩ ∧ Y.cell? ⟨g, m - 1, none⟩ = some (.int .i64 ((Q f).getD (m - 1) 0))) := fun Y hY h0 => by
    obtain ⟨g, c, e, h1⟩ := owns_at (HOW.out Y hY) (by omega)
    simp only [Value.slice.injEq] at e
    refine ⟨g, e.1, h1 (m - 1) _ ?_⟩
    unfold intV
    rw [List.getElem?_map, List.getElem?_eq_getElem (by omega), List.getD_eq_getElem?_getD, List.getElem?_eq_getElem (by omega)]; rfl
  obtain ⟨xs, hxs⟩ : ∃ xs, xs = intV (Q f) := ⟨_, rfl⟩
  rw [← hxs] at HOW HFIN
  obtain ⟨i0, hi0, hz0, hz1, hz2⟩ := info_parts infoInt
  have c2 : ∀ o, (w.alloc o).cell? ⟨bx, 0, none⟩ = some (.slice (some ⟨kb, 0, none⟩) T T) := fun o => (World.grownBy_alloc _ o none).cell c0 (by simp)
  have c3 : ∀ o, (w.alloc o).cell? ⟨kb, f, none⟩ = some (.slice fa m fc) := fun o => (World.grownBy_alloc _ o none).cell c1 (by simp)
  clear h hfa hfc hm hxs htv hap
  by_cases h0 : m = 0
  · subst h0
    have HA0 := show Hid _ from HAL.out (.inl rfl)
    go_enter Tryz.func57, Tryz.ntmps57
    go_wp2_with fail
    go_region_law (first
      | (refine step_append_liesW _ rfl (.tmp 30) (.tmp 32) 24 rfl P.heap.size 3 i0 (.int .i64 0) 1 8 Tryz.underlying24 hi0 hz0 hz1 hz2 rfl (by decide) (.slice fa 0 fc) 0 xs (by simp [Act.eval]) (HOW.out _ (grown_trans (World.grownBy_alloc _ _ none) (grown_drewN _ _))) ⟨w.heap.size, 0, none⟩ 1 1 [.int .i64 x] (by simp [Act.eval]) rfl (World.news_of_block (heap_alloc_last w _)) (by simp [Value.oneCell']) (by decide) (by unfold maxLen; omega) (by omega) (HPS.out _ (grown_trans (World.grownBy_alloc _ _ none) (grown_drewN _ _))) ?_; intro g9 c9 wB hoB hgB hat; obtain ⟨q1, q2, q3, q4⟩ := HFIN.out _ wB g9 c9 (grown_trans (World.grownBy_alloc _ _ none) (grown_drewN _ _)) hgB hoB hat; have HQ1 := show Hid _ from q4; clear q4 hoB hgB hat)
      | fail)
    all_goals go_wp2_with fail
    all_goals refine bodyPost_end (v := .tuple #[]) (by simp [results, Tryz.results57]) rfl ?_
    all_goals exact ⟨rfl, by rw [HA0.out]; exact HQ1.out⟩
  · obtain ⟨k, rfl⟩ : ∃ k, m = k + 1 := ⟨m - 1, by omega⟩
    obtain ⟨g, rfl, d0⟩ := HCL.out w (grown_refl _ _) h0
    rw [Nat.add_sub_cancel] at d0
    obtain ⟨z, hz⟩ : ∃ z, z = (Q f).getD k 0 := ⟨_, rfl⟩
    rw [← hz] at d0
    have hk0 : (0 : Int) ≤ (k : Int) := by omega
    have hk1 : (k : Int) < (k : Int) + 1 := by omega
    have hkd : decide ((k : Int) < 0) = false := decide_eq_false (by omega)
    by_cases e : z = x
    · have HA1 := show Hid _ from HALN.out h0 (by rw [Nat.add_sub_cancel, ← hz]; exact e)
      have hzx : (z != x) = false := by rw [e]; exact bne_self_eq_false _
      clear hz e
      go_enter Tryz.func57, Tryz.ntmps57
      go_wp2_with fail
      refine bodyPost_end (v := .tuple #[]) (by simp [results, Tryz.results57]) rfl ?_
      refine ⟨rfl, .refl _, ?_⟩
      rw [HA1.out, updL_id]
      exact HL.out
    · have HA0 := show Hid _ from HAL.out (.inr (by rw [Nat.add_sub_cancel, ← hz]; exact e))
      have hzx : (z != x) = true := bne_iff_ne.2 e
      clear hz e
      go_enter Tryz.func57, Tryz.ntmps57
      go_wp2_with fail
      go_region_law (first
        | (refine step_append_liesW _ rfl (.tmp 30) (.tmp 32) 24 rfl P.heap.size 3 i0 (.int .i64 0) 1 8 Tryz.underlying24 hi0 hz0 hz1 hz2 rfl (by decide) (.slice (some ⟨g, 0, none⟩) (k + 1) fc) (k + 1) xs (by simp [Act.eval]) (HOW.out _ (grown_trans (World.grownBy_alloc _ _ none) (grown_drewN _ _))) ⟨w.heap.size, 0, none⟩ 1 1 [.int .i64 x] (by simp [Act.eval]) rfl (World.news_of_block (heap_alloc_last w _)) (by simp [Value.oneCell']) (by decide) (by unfold maxLen; omega) (by omega) (HPS.out _ (grown_trans (World.grownBy_alloc _ _ none) (grown_drewN _ _))) ?_; intro g9 c9 wB hoB hgB hat; obtain ⟨q1, q2, q3, q4⟩ := HFIN.out _ wB g9 c9 (grown_trans (World.grownBy_alloc _ _ none) (grown_drewN _ _)) hgB hoB hat; have HQ1 := show Hid _ from q4; clear q4 hoB hgB hat)
        | fail)
      all_goals go_wp2_with fail
      all_goals refine bodyPost_end (v := .tuple #[]) (by simp [results, Tryz.results57]) rfl ?_
      all_goals exact ⟨rfl, by rw [HA0.out]; exact HQ1.out⟩

end Go.Proofs.YtkbjbijoekmooaaGreat.J

/-
  relate: what is handed out, pure.
-/
namespace Go.Proofs.YtkbjbijoekmooaaGreat.J
open Go.RowKit Go.Maps Go.Shelf

theorem snoc_ind {α : Type} {P : List α → Prop} (h0 : P []) (h : ∀ l x, P l → P (l ++ [x])) (l : List α) : P l := by
  have key : ∀ m : List α, P m.reverse := fun m => by
    induction m with
    | nil => exact h0
    | cons x m ih => rw [List.reverse_cons]; exact h _ _ ih
  have := key l.reverse
  rwa [List.reverse_reverse] at this
theorem addL_mem (l : List Int) (x y : Int) : y ∈ addL l x ↔ y ∈ l ∨ y = x := by
  unfold addL
  by_cases h : l.getLast? = some x
  · rw [if_pos h]
    constructor
    · exact .inl
    · rintro (h1 | rfl)
      · exact h1
      · exact List.mem_of_getLast? h
  · rw [if_neg h, List.mem_append, List.mem_singleton]
theorem last_of_asc : ∀ (l : List Int), l.Pairwise (· < ·) → ∀ x, x ∈ l → (∀ y ∈ l, y ≤ x) → l.getLast? = some x
  | [], _, x, hx, _ => by cases hx
  | [a], _, x, hx, _ => by rw [List.mem_singleton.1 hx]; rfl
  | a :: b :: l, hp, x, hx, hy => by
    rw [List.getLast?_cons_cons]
    rw [List.pairwise_cons] at hp
    rcases List.mem_cons.1 hx with rfl | hx
    · have h1 := hp.1 b (List.mem_cons_self ..)
      have h2 := hy b (by simp)
      omega
    · exact last_of_asc (b :: l) hp.2 x hx fun y h => hy y (List.mem_cons_of_mem _ h)
theorem addL_asc {l : List Int} {x : Int} (h : l.Pairwise (· < ·)) (hx : ∀ y ∈ l, y ≤ x) : (addL l x).Pairwise (· < ·) := by
  unfold addL
  by_cases e : l.getLast? = some x
  · rw [if_pos e]; exact h
  · rw [if_neg e, List.pairwise_append]
    refine ⟨h, List.pairwise_singleton _ _, fun a ha b hb => ?_⟩
    rw [List.mem_singleton.1 hb]
    have h1 := hx a ha
    have h2 : a ≠ x := fun h2 => e (last_of_asc l h x (h2 ▸ ha) hx)
    omega
/-- Lists to which numbers were handed that do not fall: they rise, and have just those. -/
theorem foldQ_spec : ∀ (l : List (Nat × Int)), (l.Pairwise fun p q => p.1 = q.1 → p.2 ≤ q.2) → ∀ f, (∀ x, x ∈ foldQ (fun _ => []) l f ↔ (f, x) ∈ l) ∧ (foldQ (fun _ => []) l f).Pairwise (· < ·) := by
  refine snoc_ind (fun _ f => ⟨fun x => by simp [foldQ], List.Pairwise.nil⟩) (fun l p ih hp f => ?_)
  rw [List.pairwise_append] at hp
  obtain ⟨h1, h2⟩ := ih hp.1 f
  rw [foldQ_snoc]
  by_cases e : f = p.1
  · subst e
    rw [updL_same]
    refine ⟨fun x => ?_, addL_asc h2 fun y hy => hp.2.2 (p.1, y) ((h1 y).1 hy) p (List.mem_singleton.2 rfl) rfl⟩
    rw [addL_mem, h1, List.mem_append, List.mem_singleton]
    constructor
    · rintro (h | h)
      · exact .inl h
      · exact .inr (by rw [h])
    · rintro (h | h)
      · exact .inl h
      · exact .inr (by rw [← h])
  · rw [updL_other _ _ e]
    refine ⟨fun x => ?_, h2⟩
    rw [h1, List.mem_append, List.mem_singleton]
    constructor
    · exact .inl
    · rintro (h | h)
      · exact h
      · exact absurd (by rw [← h]) e

theorem trI_sub {tn : Nat} {es : List (List (Nat × Nat))} {b : Nat} : ∀ {N : Nat}, b < N → (trI tn (es.getD b []) b).Sublist (trT tn es N)
  | 0, h => absurd h (Nat.not_lt_zero _)
  | N + 1, h => by
    unfold trT
    by_cases e : b < N
    · exact (trI_sub e).trans (List.sublist_append_left _ _)
    · have e2 : b = N := by omega
      subst e2
      exact List.sublist_append_right _ _
theorem trI_in {tn : Nat} {l : List (Nat × Nat)} {i : Nat} {e : Nat × Nat} (he : e ∈ l) (h : tn ≤ e.1) : ((i : Int), (e.1 : Int)) ∈ trI tn l i := by
  unfold trI
  exact List.mem_map.2 ⟨e, List.mem_filter.2 ⟨he, by simpa using h⟩, rfl⟩
/-- What is handed out of one way, from the place i on towards the beginning. -/
def inW (tl : List It) (tn : Nat) (F : Nat → Bool) (sf : Nat → Nat) (row : List Int) (zt : Int) : Nat → List (Nat × Int)
  | 0 => []
  | i + 1 => if row.getD i 0 < (tn : Int) then [] else ((nmF tl (sf i) (row.getD i 0).toNat).toNat, zt) :: (if F ((row.getD i 0).toNat - tn) then inW tl tn F sf row zt i else [])
theorem mem_inW {tl : List It} {tn : Nat} {F : Nat → Bool} {sf : Nat → Nat} {row : List Int} {zt : Int} {p : Nat × Int} : ∀ {i : Nat}, p ∈ inW tl tn F sf row zt i ↔ p.2 = zt ∧ ∃ j, j < i ∧ (tn : Int) ≤ row.getD j 0 ∧ p.1 = (nmF tl (sf j) (row.getD j 0).toNat).toNat ∧ ∀ m, j < m → m < i → (tn : Int) ≤ row.getD m 0 ∧ F ((row.getD m 0).toNat - tn) = true
  | 0 => by simp [inW]
  | i + 1 => by
    rw [inW]
    by_cases h : row.getD i 0 < (tn : Int)
    · rw [if_pos h]
      constructor
      · intro h1; cases h1
      · rintro ⟨_, j, h1, h2, _, h4⟩
        by_cases e : j = i
        · subst e; omega
        · have := (h4 i (by omega) (by omega)).1
          omega
    · rw [if_neg h, List.mem_cons]
      constructor
      · rintro (h1 | h1)
        · rw [h1]
          exact ⟨rfl, i, Nat.lt_succ_self _, by omega, rfl, fun m h2 h3 => by omega⟩
        · by_cases hF : F ((row.getD i 0).toNat - tn) = true
          · rw [if_pos hF] at h1
            obtain ⟨h2, j, h3, h4, h5, h6⟩ := mem_inW.1 h1
            refine ⟨h2, j, by omega, h4, h5, fun m h7 h8 => ?_⟩
            by_cases e : m = i
            · subst e; exact ⟨by omega, hF⟩
            · exact h6 m h7 (by omega)
          · rw [if_neg hF] at h1; cases h1
      · rintro ⟨h1, j, h2, h3, h4, h5⟩
        by_cases e : j = i
        · subst e
          left
          exact Prod.ext h4 h1
        · right
          rw [if_pos (h5 i (by omega) (by omega)).2]
          exact mem_inW.2 ⟨h1, j, by omega, h3, h4, fun m h7 h8 => h5 m h7 (by omega)⟩
/-- What is handed out of a transition, by the productions below p. -/
def inK (es : List (List (Nat × Nat))) (tl : List It) (tn : Nat) (F : Nat → Bool) (L : Nat → Int) (R : Nat → List Int) (k : Nat) : Nat → List (Nat × Int)
  | 0 => []
  | p + 1 => inK es tl tn F L R k p ++ (if L p = (tl.getD k (0, 0)).2 then inW tl tn F (stF es (tl.getD k (0, 0)).1.toNat (R p)) (R p) (k : Int) (R p).length else [])
/-- .. of the transitions below k, by n productions. -/
def inT (es : List (List (Nat × Nat))) (tl : List It) (tn : Nat) (F : Nat → Bool) (n : Nat) (L : Nat → Int) (R : Nat → List Int) : Nat → List (Nat × Int)
  | 0 => []
  | k + 1 => inT es tl tn F n L R k ++ inK es tl tn F L R k n
theorem mem_inK {es : List (List (Nat × Nat))} {tl : List It} {tn : Nat} {F : Nat → Bool} {L : Nat → Int} {R : Nat → List Int} {k : Nat} {x : Nat × Int} : ∀ {p : Nat}, x ∈ inK es tl tn F L R k p ↔ ∃ p', p' < p ∧ L p' = (tl.getD k (0, 0)).2 ∧ x ∈ inW tl tn F (stF es (tl.getD k (0, 0)).1.toNat (R p')) (R p') (k : Int) (R p').length
  | 0 => by simp [inK]
  | p + 1 => by
    rw [inK, List.mem_append, mem_inK]
    constructor
    · rintro (⟨p', h1, h2⟩ | h)
      · exact ⟨p', by omega, h2⟩
      · by_cases e : L p = (tl.getD k (0, 0)).2
        · rw [if_pos e] at h; exact ⟨p, Nat.lt_succ_self _, e, h⟩
        · rw [if_neg e] at h; cases h
    · rintro ⟨p', h1, h2, h3⟩
      by_cases e : p' = p
      · subst e; right; rw [if_pos h2]; exact h3
      · exact .inl ⟨p', by omega, h2, h3⟩
theorem mem_inT {es : List (List (Nat × Nat))} {tl : List It} {tn : Nat} {F : Nat → Bool} {n : Nat} {L : Nat → Int} {R : Nat → List Int} {x : Nat × Int} : ∀ {k : Nat}, x ∈ inT es tl tn F n L R k ↔ ∃ k', k' < k ∧ x.2 = (k' : Int) ∧ x ∈ inK es tl tn F L R k' n
  | 0 => by simp [inT]
  | k + 1 => by
    have snd : ∀ {y : Nat × Int} {k' : Nat}, y ∈ inK es tl tn F L R k' n → y.2 = (k' : Int) := fun h => by
      obtain ⟨p', _, _, h3⟩ := mem_inK.1 h
      exact (mem_inW.1 h3).1
    rw [inT, List.mem_append, mem_inT]
    constructor
    · rintro (⟨k', h1, h2⟩ | h)
      · exact ⟨k', by omega, h2⟩
      · exact ⟨k, Nat.lt_succ_self _, snd h, h⟩
    · rintro ⟨k', h1, h2, h3⟩
      by_cases e : k' = k
      · subst e; exact .inr h3
      · exact .inl ⟨k', by omega, h2, h3⟩
theorem inK_snd {es : List (List (Nat × Nat))} {tl : List It} {tn : Nat} {F : Nat → Bool} {n : Nat} {L : Nat → Int} {R : Nat → List Int} {k : Nat} {y : Nat × Int} (h : y ∈ inK es tl tn F L R k n) : y.2 = (k : Int) := by
  obtain ⟨p', _, _, h3⟩ := mem_inK.1 h
  exact (mem_inW.1 h3).1
theorem inT_asc {es : List (List (Nat × Nat))} {tl : List It} {tn : Nat} {F : Nat → Bool} {n : Nat} {L : Nat → Int} {R : Nat → List Int} : ∀ k, (inT es tl tn F n L R k).Pairwise fun p q => p.1 = q.1 → p.2 ≤ q.2
  | 0 => List.Pairwise.nil
  | k + 1 => by
    rw [inT, List.pairwise_append]
    refine ⟨inT_asc k, ?_, fun p hp q hq _ => ?_⟩
    · refine List.Pairwise.imp_of_mem (R := fun _ _ => True) (fun {p q} hp hq _ _ => ?_) (List.pairwise_of_forall (fun _ _ => trivial))
      rw [inK_snd hp, inK_snd hq]; exact Int.le_refl _
    · obtain ⟨k', h1, h2, _⟩ := mem_inT.1 hp
      rw [h2, inK_snd hq]
      omega
end Go.Proofs.YtkbjbijoekmooaaGreat.J

/-
  relate: what includes what, pure.
-/
namespace Go.Proofs.YtkbjbijoekmooaaGreat.J
open Go.RowKit Go.Maps Go.Shelf

theorem nmF_range {l : List It} (h : 0 < l.length) (q s : Nat) : 0 ≤ nmF l q s ∧ nmF l q s < (l.length : Int) := by
  unfold nmF
  split
  · rename_i h1
    have := List.idxOf_lt_length_iff.2 h1
    omega
  · omega

section
variable {tn nn n : Nat} {L : Nat → Int} {R : Nat → List Int} {ks : List (List It)} {es : List (List (Nat × Nat))}
/-- The states of a Right, from one that has the production begun. -/
theorem right_st (h : AutF (GG tn n L R) n R (tn + nn) ks es) (hR : ∀ k, k < n → ∀ x ∈ R k, (0 : Int) < x ∧ x < ((tn + nn : Nat) : Int)) (hCl : ∀ q, q < ks.length → IsClo tn n L R (ks.getD q []) (CLo tn n L R (ks.getD q []))) {q P : Nat} (hq : q < ks.length) (hP : P < n) (hx : ((P : Int), (0 : Int)) ∈ CLo tn n L R (ks.getD q [])) : ∀ d, d ≤ (R P).length → stF es q (R P) d < ks.length ∧ wayF es (some (q : Int)) ((R P).take d) = some (stF es q (R P) d : Int) ∧ ((P : Int), (d : Int)) ∈ CLo tn n L R (ks.getD (stF es q (R P) d) [])
  | 0, _ => ⟨hq, rfl, hx⟩
  | d + 1, hd => by
    obtain ⟨h1, h2, h3⟩ := right_st h hR hCl hq hP hx d (by omega)
    obtain ⟨u, h4, h5, h6⟩ := goes_on h hR h1 hP (by omega) h3
    have hm : (R P).getD d 0 ∈ R P := by
      have hd' : d < (R P).length := by omega
      generalize R P = l at hd' ⊢
      rw [List.getD_eq_getElem?_getD, List.getElem?_eq_getElem hd']; exact List.getElem_mem hd'
    have h7 := hR P hP _ hm
    have e1 : stF es q (R P) (d + 1) = u := by
      rw [leadA_at es (by rw [h.len]; exact h1)] at h5
      rw [stF]
      unfold ldF
      rw [show (((R P).getD d 0).toNat : Int) = (R P).getD d 0 by omega, h5]
      rfl
    refine ⟨by rw [e1]; exact h4, ?_, by rw [e1]; exact ((hCl u h4).mem _).2 (Clo.base h6)⟩
    rw [wayF_take es (by omega), h2, e1]
    exact h5
/-- From a transition's state its productions are begun. -/
theorem tr_begun (h : AutF (GG tn n L R) n R (tn + nn) ks es) (hCl : ∀ q, q < ks.length → IsClo tn n L R (ks.getD q []) (CLo tn n L R (ks.getD q []))) {q s P : Nat} (hx : ((q : Int), (s : Int)) ∈ trT tn es ks.length) (hP : P < n) (hL : L P = (s : Int)) : q < ks.length ∧ ((P : Int), (0 : Int)) ∈ CLo tn n L R (ks.getD q []) := by
  obtain ⟨q', h1, e, h2, h3, h4⟩ := trT_mem hx
  simp only [Prod.mk.injEq] at h4
  have e1 : q = q' := by omega
  have e2 : s = e.1 := by omega
  subst e1
  refine ⟨h1, ?_⟩
  have h5 : e.1 ∈ (es.getD q []).map Prod.fst := List.mem_map.2 ⟨e, h2, rfl⟩
  rw [h.fst q h1] at h5
  obtain ⟨x, hx2⟩ := List.exists_mem_of_ne_nil _ (mem_symsT.1 h5).2
  obtain ⟨y, hy, h6, _⟩ := mem_GG.1 hx2
  refine ((hCl q h1).mem _).2 ((((hCl q h1).mem y).1 hy).step (by rw [h6]; omega) hP (by rw [h6, hL, e2]))
/-- What stands on the way is a transition, if it is a nonterminal. -/
theorem way_tr (h : AutF (GG tn n L R) n R (tn + nn) ks es) (hR : ∀ k, k < n → ∀ x ∈ R k, (0 : Int) < x ∧ x < ((tn + nn : Nat) : Int)) (hCl : ∀ q, q < ks.length → IsClo tn n L R (ks.getD q []) (CLo tn n L R (ks.getD q []))) {q P d : Nat} (hq : q < ks.length) (hP : P < n) (hx : ((P : Int), (0 : Int)) ∈ CLo tn n L R (ks.getD q [])) (hd : d < (R P).length) (ht : (tn : Int) ≤ (R P).getD d 0) : ((stF es q (R P) d : Int), (R P).getD d 0) ∈ trT tn es ks.length := by
  obtain ⟨h1, h2, h3⟩ := right_st h hR hCl hq hP hx d (by omega)
  obtain ⟨u, h4, h5, h6⟩ := goes_on h hR h1 hP hd h3
  rw [leadA_at es (by rw [h.len]; exact h1)] at h5
  obtain ⟨e, he, h7, _⟩ := nextL_mem h5
  have h8 := (trI_sub (tn := tn) (es := es) h1).subset (trI_in he (by omega))
  rw [h7] at h8
  exact h8
/-- P11.2. -/
theorem includes_spec {F : Nat → Bool} (h : AutF (GG tn n L R) n R (tn + nn) ks es) (hR : ∀ k, k < n → ∀ x ∈ R k, (0 : Int) < x ∧ x < ((tn + nn : Nat) : Int)) (hCl : ∀ q, q < ks.length → IsClo tn n L R (ks.getD q []) (CLo tn n L R (ks.getD q []))) (hnd : (trT tn es ks.length).Nodup) (i : Nat) :
    (foldQ (fun _ => []) (inT es (trT tn es ks.length) tn F n L R (trT tn es ks.length).length) i).Pairwise (· < ·) ∧ (∀ x ∈ foldQ (fun _ => []) (inT es (trT tn es ks.length) tn F n L R (trT tn es ks.length).length) i, 0 ≤ x ∧ x < ((trT tn es ks.length).length : Int)) ∧ ∀ qi si k qk sk : Nat, (trT tn es ks.length)[i]? = some ((qi : Int), (si : Int)) → (trT tn es ks.length)[k]? = some ((qk : Int), (sk : Int)) → ((k : Int) ∈ foldQ (fun _ => []) (inT es (trT tn es ks.length) tn F n L R (trT tn es ks.length).length) i ↔ ∃ P, P < n ∧ L P = (sk : Int) ∧ ∃ j, j < (R P).length ∧ (R P).getD j 0 = (si : Int) ∧ wayF es (some (qk : Int)) ((R P).take j) = some (qi : Int) ∧ ∀ m, j < m → m < (R P).length → (tn : Int) ≤ (R P).getD m 0 ∧ F (((R P).getD m 0).toNat - tn) = true) := by
  obtain ⟨h1, h2⟩ := foldQ_spec _ (inT_asc (es := es) (tl := trT tn es ks.length) (tn := tn) (F := F) (n := n) (L := L) (R := R) (trT tn es ks.length).length) i
  refine ⟨h2, fun x hx => ?_, fun qi si k qk sk hti htk => ?_⟩
  · obtain ⟨k', h3, h4, _⟩ := mem_inT.1 ((h1 x).1 hx)
    simp only at h4
    omega
  · have hkl : k < (trT tn es ks.length).length := by
      by_cases e : k < (trT tn es ks.length).length
      · exact e
      · rw [List.getElem?_eq_none (by omega)] at htk; cases htk
    have hgk : (trT tn es ks.length).getD k (0, 0) = ((qk : Int), (sk : Int)) := by rw [List.getD_eq_getElem?_getD, htk]; rfl
    rw [h1, mem_inT]
    constructor
    · rintro ⟨k', h3, h4, h5⟩
      simp only at h4
      have e1 : k' = k := by omega
      subst e1
      obtain ⟨P, h6, h7, h8⟩ := mem_inK.1 h5
      rw [hgk] at h7 h8
      simp only [Int.toNat_natCast] at h7 h8
      obtain ⟨_, j, h9, h10, h11, h12⟩ := mem_inW.1 h8
      obtain ⟨b1, b2⟩ := tr_begun h hCl (List.mem_of_getElem? htk) h6 h7
      obtain ⟨w1, w2, w3⟩ := right_st h hR hCl b1 h6 b2 j (by omega)
      have h13 := way_tr h hR hCl b1 h6 b2 h9 h10
      obtain ⟨s, hs⟩ : ∃ s : Nat, (R P).getD j 0 = (s : Int) := ⟨((R P).getD j 0).toNat, by omega⟩
      rw [hs] at h13 h11
      rw [Int.toNat_natCast] at h11
      obtain ⟨m, hm, h14⟩ := List.getElem_of_mem h13
      have h15 : (trT tn es ks.length)[m]? = some ((stF es qk (R P) j : Int), (s : Int)) := by rw [List.getElem?_eq_getElem hm, h14]
      rw [nmF_at hnd h15, Int.toNat_natCast] at h11
      simp only at h11
      subst h11
      rw [hti] at h15
      simp only [Option.some.injEq, Prod.mk.injEq] at h15
      exact ⟨P, h6, h7, j, h9, by rw [hs, ← h15.2], by rw [w2, h15.1], h12⟩
    · rintro ⟨P, h6, h7, j, h9, h10, h11, h12⟩
      refine ⟨k, hkl, rfl, mem_inK.2 ⟨P, h6, by rw [hgk]; exact h7, ?_⟩⟩
      rw [hgk]
      simp only [Int.toNat_natCast]
      obtain ⟨b1, b2⟩ := tr_begun h hCl (List.mem_of_getElem? htk) h6 h7
      obtain ⟨w1, w2, w3⟩ := right_st h hR hCl b1 h6 b2 j (by omega)
      rw [w2] at h11
      simp only [Option.some.injEq] at h11
      have e1 : stF es qk (R P) j = qi := by omega
      obtain ⟨q', h13, e, h14, h15, h16⟩ := trT_mem (List.mem_of_getElem? hti)
      simp only [Prod.mk.injEq] at h16
      refine mem_inW.2 ⟨rfl, j, h9, by rw [h10]; omega, ?_, h12⟩
      rw [h10, e1, Int.toNat_natCast, nmF_at hnd hti, Int.toNat_natCast]
end

end Go.Proofs.YtkbjbijoekmooaaGreat.J

/-
  relate: what includes hands out of one way.
-/
namespace Go.Proofs.YtkbjbijoekmooaaGreat.J
open Go.RowKit Go.Maps Go.Shelf

attribute [local go_sem] Oper.semAt_some

theorem foldQ_cons (Q : Nat → List Int) (p : Nat × Int) (l : List (Nat × Int)) : foldQ Q (p :: l) = foldQ (updL Q p.1 (addL (Q p.1) p.2)) l := rfl
theorem prods_at {w : World} {a : Option Addr} {n : Nat} {L : Nat → Int} {R : Nat → List Int} {ra : Nat → Option Addr} {rc : Nat → Nat} {V : Nat → Int} (h : ProdsAt w a n L R ra rc V) (hn : 0 < n) : ∃ b off, a = some ⟨b, off, none⟩ ∧ ∀ k, k < n → w.cell? ⟨b, off + k * 3, none⟩ = some (.int .i64 (L k)) ∧ w.cell? ⟨b, off + k * 3 + 1, none⟩ = some (.slice (ra k) (R k).length (rc k)) ∧ w.cell? ⟨b, off + k * 3 + 2, none⟩ = some (.int .i64 (V k)) ∧ IntsAt w (ra k) (R k) := by
  rcases h with h | ⟨b, off, e, h⟩
  · omega
  · exact ⟨b, off, e, fun k hk => ⟨(h k hk).1, (h k hk).2.1, (h k hk).2.2.1, (h k hk).2.2.2.1⟩⟩

section
variable (ta na la pa sa xa l1 m1 : Option Addr) (tc nc lc pc sc xc lc1 mc1 : Nat) (n N T nb : Nat) (st : Int) (w : World) (tn nn ln : Nat)

set_option maxRecDepth 100000 in
set_option maxHeartbeats 4000000 in
theorem uincf_any (P : World) (B S bx kb ab hb tb : Nat) (ks : List (List It)) (es : List (List (Nat × Nat))) (kv ev : Nat → Value) (tl : List It) (F : Nat → Bool) (lb mb : Nat → Nat) (L : Nat → Int) (R : Nat → List Int) (ra : Nat → Option Addr) (rc : Nat → Nat) (V : Nat → Int) (hK : RlOK N T S tn nn ks es tl)
    (hR : RaAt B P nb nn S (.slice sa N sc) (.slice xa T xc) (.slice l1 N lc1) (.slice m1 N mc1) ks es kv ev tl F lb mb) (hPr : ProdsAt P pa n L R ra rc V) (k p q m : Nat) (hk : k < T) (hp : p < n) (hn : n ≤ 1000) (hm : m = (R p).length) (hm4 : m ≤ 10000) (hrow : ∀ x ∈ R p, 0 ≤ x ∧ x < (S : Int)) (hst : ∀ i, stF es q (R p) i < N)
    (hab : w.heap[ab]? = some (.cells #[.slice ta tn tc, .slice na nn nc, .slice la ln lc, .int .i64 st, .slice pa n pc, .slice (some ⟨nb, 0, none⟩) nn nn, .slice sa N sc, .slice xa T xc, .slice l1 N lc1, .slice m1 N mc1] 81 (0, 0))) (hhb : w.heap[hb]? = some (.cells #[.func (.func 57) #[] #[.pointer (some ⟨bx, 0, none⟩)]] 116 (0, 0)))
    (Q : Nat → List Int) (hQ : ∀ f, (Q f).length + m ≤ 10000000) (hL : LqT P w bx kb T Q tb (m + 1) (fun i => .int .i64 (stF es q (R p) i : Int))) :
    Calls Tryz.prog 60 #[.int .i64 (k : Int), .int .i64 (p : Int), .slice (some ⟨tb, 0, none⟩) (m + 1) (m + 1), .pointer (some ⟨ab, 0, none⟩), .pointer (some ⟨hb, 0, none⟩)] w fun e y => e = .returned (.tuple #[]) ∧ KeepH w y ∧ LqT P y bx kb T (foldQ Q (inW tl tn F (stF es q (R p)) (R p) (k : Int) m)) tb (m + 1) (fun i => .int .i64 (stF es q (R p) i : Int)) := by
  have HR : Hid (∀ X, P.grownBy X none → RaAt B X nb nn S (.slice sa N sc) (.slice xa T xc) (.slice l1 N lc1) (.slice m1 N mc1) ks es kv ev tl F lb mb) := fun X hX => hR.kept hX
  have HK := show Hid _ from hK
  have hnn := hK.hnn
  have HQ := show Hid _ from hQ
  have HL := show Hid _ from hL
  have HM := show Hid _ from hm
  have HRW := show Hid _ from hrow
  have HST := show Hid _ from hst
  have HHB := show Hid _ from hhb
  obtain ⟨pb, po, rfl, hps⟩ := prods_at hPr (by omega)
  obtain ⟨_, p1, _, pI⟩ := hps p hp
  rw [← hm] at p1
  have q1 : w.cell? ⟨pb, po + p * 3 + 1, none⟩ = some (.slice (ra p) m (rc p)) := hL.grown.cell p1 (by simp)
  have HRI : Hid (∀ X, P.grownBy X none → IntsAt X (ra p) (R p)) := fun X hX => pI.kept hX
  have a4 : w.cell? ⟨ab, 4, none⟩ = some (.slice (some ⟨pb, po, none⟩) n pc) := (av_cells hab).2.2.2.2.1
  obtain ⟨cs, hcs⟩ : ∃ cs : Array Value, cs = #[.slice ta tn tc, .slice na nn nc, .slice la ln lc, .int .i64 st, .slice (some ⟨pb, po, none⟩) n pc, .slice (some ⟨nb, 0, none⟩) nn nn, .slice sa N sc, .slice xa T xc, .slice l1 N lc1, .slice m1 N mc1] := ⟨_, rfl⟩
  rw [← hcs] at hab
  have HAB := show Hid _ from hab
  have HCS := show Hid _ from hcs
  obtain ⟨rap, hrap⟩ : ∃ x, x = ra p := ⟨_, rfl⟩
  obtain ⟨rcp, hrcp⟩ : ∃ x, x = rc p := ⟨_, rfl⟩
  rw [← hrap, ← hrcp] at q1
  rw [← hrap] at HRI
  have hp0 : (0 : Int) ≤ (p : Int) := by omega
  have hp1 : (p : Int) < (n : Int) := by omega
  have hmw : IntKind.i64.wrap ((m : Int) - 1) = (m : Int) - 1 := by rw [IntKind.wrap_i64]; omega
  clear hR hK hQ hL hm hrow hst hhb hab hcs hps p1 pI hPr hrap hrcp
  go_enter Tryz.func60, Tryz.ntmps60
  go_wp2_with fail
  go_loopg [9] m (fun gk v9 wr => ∃ (j : Nat), j ≤ m ∧ gk = j ∧ v9 = .int .i64 ((j : Int) - 1) ∧ KeepH w wr ∧ ∃ Qn, LqT P wr bx kb T Qn tb (m + 1) (fun i => .int .i64 (stF es q (R p) i : Int)) ∧ foldQ Qn (inW tl tn F (stF es q (R p)) (R p) (k : Int) j) = foldQ Q (inW tl tn F (stF es q (R p)) (R p) (k : Int) m) ∧ ∀ f, (Qn f).length + j ≤ 10000000)
  case atStart => exact ⟨m, Nat.le_refl _, rfl, rfl, .refl _, Q, HL.out, rfl, HQ.out⟩
  case round =>
    obtain ⟨j, hj, hgj, rfl, hkeep, Qn, hLn, hfn, hQn⟩ := hrel
    have HGJ : Hid (gk = j) := hgj
    have HKE : Hid (KeepH w wr) := hkeep
    have HLN : Hid (LqT P wr bx kb T Qn tb (m + 1) (fun i => .int .i64 (stF es q (R p) i : Int))) := hLn
    have HFN : Hid (foldQ Qn (inW tl tn F (stF es q (R p)) (R p) (k : Int) j) = foldQ Q (inW tl tn F (stF es q (R p)) (R p) (k : Int) m)) := hfn
    have HQN : Hid (∀ f, (Qn f).length + j ≤ 10000000) := hQn
    clear hgj hkeep hLn hfn hQn q1 a4 HL HQ
    generalize wr = Y at *
    have hA : (fun x => Y.grownBy x none) Y.drew := grown_drewN Y 1
    haveI hne : Nonempty (WBox (fun x => Y.grownBy x none)) := ⟨⟨_, hA⟩⟩
    have HABY : Hid (Y.heap[ab]? = some (.cells cs 81 (0, 0))) := HKE.out.at HAB.out (by decide) (by decide)
    have HHBY : Hid (Y.heap[hb]? = some (.cells #[.func (.func 57) #[] #[.pointer (some ⟨bx, 0, none⟩)]] 116 (0, 0))) := HKE.out.at HHB.out (by decide) (by decide)
    cases j with
    | zero =>
      have hd : decide ((0 : Int) ≤ (0 : Int) - 1) = false := by decide
      go_wp2_with fail
      refine wp_region_class (p := fun x => Y.grownBy x none) (by kernel_rfl) (by kernel_rfl) hA ?_
      repeat (go_big_quiet_step (fail))
      refine wpQuiet_nil ?_
      rintro _ ⟨s, rfl⟩
      go_wp2_with fail
      refine bodyPost_end (v := .tuple #[]) (by simp [results, Tryz.results60]) rfl ?_
      refine ⟨rfl, HKE.out.trans (.none_ s.ok), ?_⟩
      rw [← HFN.out]
      exact HLN.out.kept s.ok
    | succ j =>
      have e9 : ((j + 1 : Nat) : Int) - 1 = (j : Int) := by omega
      rw [e9]
      clear e9
      have hjl : j < (R p).length := by rw [← HM.out]; omega
      obtain ⟨sy, hsy⟩ : ∃ s : Nat, (R p).getD j 0 = (s : Int) := ⟨((R p).getD j 0).toNat, by have := HRW.out _ (getD_in (d := 0) hjl); omega⟩
      have hsyS : sy < S := by have := HRW.out _ (getD_in (d := 0) hjl); omega
      obtain ⟨rb, ro, rfl, hr0⟩ : ∃ rb ro, rap = some ⟨rb, ro, none⟩ ∧ ∀ X, P.grownBy X none → X.cell? ⟨rb, ro + j, none⟩ = some (.int .i64 (sy : Int)) := by
        rcases HRI.out P (grown_refl _ _) with h | ⟨rb, ro, e, h⟩
        · rw [h] at hjl; exact absurd hjl (by simp)
        · exact ⟨rb, ro, e, fun X hX => by rw [← hsy]; exact hX.cell (h j hjl) (by simp)⟩
      have HR0 := show Hid _ from hr0
      have HPY : Hid (P.grownBy Y none) := HLN.out.grown
      have HAC : Hid (∀ X, Y.grownBy X none → X.cell? ⟨ab, 0, none⟩ = some (.slice ta tn tc) ∧ X.cell? ⟨ab, 1, none⟩ = some (.slice na nn nc) ∧ X.cell? ⟨ab, 2, none⟩ = some (.slice la ln lc) ∧ X.cell? ⟨ab, 3, none⟩ = some (.int .i64 st) ∧ X.cell? ⟨ab, 4, none⟩ = some (.slice (some ⟨pb, po, none⟩) n pc) ∧ X.cell? ⟨ab, 5, none⟩ = some (.slice (some ⟨nb, 0, none⟩) nn nn) ∧ X.cell? ⟨ab, 6, none⟩ = some (.slice sa N sc) ∧ X.cell? ⟨ab, 7, none⟩ = some (.slice xa T xc) ∧ X.cell? ⟨ab, 8, none⟩ = some (.slice l1 N lc1) ∧ X.cell? ⟨ab, 9, none⟩ = some (.slice m1 N mc1)) := fun X hX => av_cells (by have h := box_kept HABY.out hX; rw [HCS.out] at h; exact h)
      have g0 := fun s : WBox (fun x => Y.grownBy x none) => (HAC.out s.w s.ok).1
      have g1 := fun s : WBox (fun x => Y.grownBy x none) => (HAC.out s.w s.ok).2.1
      have g2 := fun s : WBox (fun x => Y.grownBy x none) => (HAC.out s.w s.ok).2.2.1
      have g3 := fun s : WBox (fun x => Y.grownBy x none) => (HAC.out s.w s.ok).2.2.2.1
      have g4 := fun s : WBox (fun x => Y.grownBy x none) => (HAC.out s.w s.ok).2.2.2.2.1
      have g5 := fun s : WBox (fun x => Y.grownBy x none) => (HAC.out s.w s.ok).2.2.2.2.2.1
      have g6 := fun s : WBox (fun x => Y.grownBy x none) => (HAC.out s.w s.ok).2.2.2.2.2.2.1
      have g7 := fun s : WBox (fun x => Y.grownBy x none) => (HAC.out s.w s.ok).2.2.2.2.2.2.2.1
      have g8 := fun s : WBox (fun x => Y.grownBy x none) => (HAC.out s.w s.ok).2.2.2.2.2.2.2.2.1
      have g9 := fun s : WBox (fun x => Y.grownBy x none) => (HAC.out s.w s.ok).2.2.2.2.2.2.2.2.2
      have r0 := fun s : WBox (fun x => Y.grownBy x none) => HR0.out s.w (grown_trans HPY.out s.ok)
      obtain ⟨bt, hbt⟩ : ∃ b, b = decide ((sy : Int) < (tn : Int)) := ⟨_, rfl⟩
      have HBT := show Hid _ from hbt
      have K1 : Hid (∀ s : WBox (fun x => Y.grownBy x none), Calls Tryz.prog 61 #[.agg #[.slice ta tn tc, .slice na nn nc, .slice la ln lc, .int .i64 st, .slice (some ⟨pb, po, none⟩) n pc, .slice (some ⟨nb, 0, none⟩) nn nn, .slice sa N sc, .slice xa T xc, .slice l1 N lc1, .slice m1 N mc1], .int .i64 (sy : Int)] s.w fun e w' => e = .returned (.bool bt) ∧ ∃ s' : WBox (fun x => Y.grownBy x none), w' = s'.w) := fun s => calls_class ((uisTerm_any _ _ _ _ _ _ _ _ _ _ _ _ _ _ _ _ _ _ _ _ _ s.w _ _ _ (sy : Int) bt HBT.out).mono fun e w' h => ⟨h.1, grown_trans s.ok h.2⟩)
      have hj0 : (0 : Int) ≤ (j : Int) := by omega
      have hj1 : (j : Int) < (m : Int) := by omega
      have hjd : decide ((0 : Int) ≤ (j : Int)) = true := decide_eq_true hj0
      have HSY := show Hid _ from hsy
      clear hbt hr0 hsy
      go_wp2_with fail
      refine wp_region_class (p := fun x => Y.grownBy x none) (by kernel_rfl) (by kernel_rfl) hA ?_
      repeat (go_big_quiet_step (first | (go_at_call 61; rename_i s; with_reducible exact K1.out s)))
      refine wpQuiet_nil ?_
      rintro _ ⟨s, rfl⟩
      cases bt with
      | true =>
        have HIN : Hid (inW tl tn F (stF es q (R p)) (R p) (k : Int) (j + 1) = []) := by
          show _ = _
          rw [inW, if_pos (by rw [HSY.out]; exact of_decide_eq_true HBT.out.symm)]
        clear g0 g1 g2 g3 g4 g5 g6 g7 g8 g9 r0
        go_wp2_with fail
        refine bodyPost_end (v := .tuple #[]) (by simp [results, Tryz.results60]) rfl ?_
        refine ⟨rfl, HKE.out.trans (.none_ s.ok), ?_⟩
        rw [← HFN.out, HIN.out]
        exact HLN.out.kept s.ok
      | false =>
        clear g0 g1 g2 g3 g4 g5 g6 g7 g8 g9 r0
        have HGZ : Hid (Y.grownBy s.w none) := s.ok
        generalize s.w = Z at HGZ ⊢
        have HLZ : Hid (LqT P Z bx kb T Qn tb (m + 1) (fun i => .int .i64 (stF es q (R p) i : Int))) := HLN.out.kept HGZ.out
        have HAZ : Hid (Z.heap[ab]? = some (.cells cs 81 (0, 0))) := box_kept HABY.out HGZ.out
        have HHZ : Hid (Z.heap[hb]? = some (.cells #[.func (.func 57) #[] #[.pointer (some ⟨bx, 0, none⟩)]] 116 (0, 0))) := box_kept HHBY.out HGZ.out
        have HKZ : Hid (KeepH w Z) := HKE.out.trans (.none_ HGZ.out)
        obtain ⟨su, hsu⟩ : ∃ x, x = stF es q (R p) j := ⟨_, rfl⟩
        have hsuN : su < N := by rw [hsu]; exact HST.out j
        have hT0 : 0 < tl.length := by rw [← HK.out.hT]; omega
        obtain ⟨f, hf⟩ : ∃ f : Nat, nmF tl su sy = (f : Int) := ⟨(nmF tl su sy).toNat, by have := nmF_range hT0 su sy; omega⟩
        have hfT : f < T := by have h := nmF_range hT0 su sy; rw [hf, ← HK.out.hT] at h; omega
        obtain ⟨mg, rfl, _, _⟩ := (HR.out Z HLZ.out.grown).nmc HK.out hsuN hsyS
        have HNM : Hid (∀ X, P.grownBy X none → X.cell? ⟨mg, su, none⟩ = some (.slice (some ⟨mb su, 0, none⟩) S S) ∧ X.cell? ⟨mb su, sy, none⟩ = some (.int .i64 (f : Int))) := fun X hX => by
          obtain ⟨mg', h1, h2, h3⟩ := (HR.out X hX).nmc HK.out hsuN hsyS
          simp only [Option.some.injEq, Addr.mk.injEq, and_true] at h1
          rw [h1, ← hf]
          exact ⟨h2, h3⟩
        have HSX : Hid (∀ X : World, X.heap[ab]? = some (.cells cs 81 (0, 0)) → X.heap[hb]? = some (.cells #[.func (.func 57) #[] #[.pointer (some ⟨bx, 0, none⟩)]] 116 (0, 0)) → ∀ Qx, LqT P X bx kb T Qx tb (m + 1) (fun i => .int .i64 (stF es q (R p) i : Int)) → X.cell? ⟨hb, 0, none⟩ = some (.func (.func 57) #[] #[.pointer (some ⟨bx, 0, none⟩)]) ∧ X.cell? ⟨ab, 9, none⟩ = some (.slice (some ⟨mg, 0, none⟩) N mc1) ∧ X.cell? ⟨tb, j, none⟩ = some (.int .i64 (su : Int)) ∧ X.cell? ⟨rb, ro + j, none⟩ = some (.int .i64 (sy : Int)) ∧ X.cell? ⟨mg, su, none⟩ = some (.slice (some ⟨mb su, 0, none⟩) S S) ∧ X.cell? ⟨mb su, sy, none⟩ = some (.int .i64 (f : Int))) := fun X h1 h2 Qx h3 => by
          rw [HCS.out] at h1
          obtain ⟨h4, h5⟩ := HNM.out X h3.grown
          refine ⟨by rw [cell_of_row _ _ _ _ _ _ h2]; rfl, (av_cells h1).2.2.2.2.2.2.2.2.2, ?_, HR0.out X h3.grown, h4, h5⟩
          have h6 := h3.val.cell j (by omega)
          rw [hsu]
          exact h6
        have HKS : Hid (Z.cell? ⟨hb, 0, none⟩ = some (.func (.func 57) #[] #[.pointer (some ⟨bx, 0, none⟩)]) ∧ Z.cell? ⟨ab, 9, none⟩ = some (.slice (some ⟨mg, 0, none⟩) N mc1) ∧ Z.cell? ⟨tb, j, none⟩ = some (.int .i64 (su : Int)) ∧ Z.cell? ⟨rb, ro + j, none⟩ = some (.int .i64 (sy : Int)) ∧ Z.cell? ⟨mg, su, none⟩ = some (.slice (some ⟨mb su, 0, none⟩) S S) ∧ Z.cell? ⟨mb su, sy, none⟩ = some (.int .i64 (f : Int))) := HSX.out Z HAZ.out HHZ.out _ HLZ.out
        have HHA : Hid (Calls Tryz.prog 57 #[.int .i64 (f : Int), .int .i64 (k : Int), .pointer (some ⟨bx, 0, none⟩)] Z.drew fun e y => HandToldT P bx kb T tb (m + 1) (fun i => .int .i64 (stF es q (R p) i : Int)) Qn f (k : Int) Z.drew e y) := handT_any P Z.drew bx kb T tb (m + 1) _ Qn (HLZ.out.kept (grown_drewN Z 1)) f (k : Int) hfT (by have := HQN.out f; omega)
        have HAZ' : Hid (Z.drew.heap[ab]? = some (.cells cs 81 (0, 0))) := box_kept HAZ.out (grown_drewN Z 1)
        have HHZ' : Hid (Z.drew.heap[hb]? = some (.cells #[.func (.func 57) #[] #[.pointer (some ⟨bx, 0, none⟩)]] 116 (0, 0))) := box_kept HHZ.out (grown_drewN Z 1)
        have HKZ' : Hid (KeepH w Z.drew) := HKZ.out.trans (.none_ (grown_drewN Z 1))
        have HINC : Hid (inW tl tn F (stF es q (R p)) (R p) (k : Int) (j + 1) = (f, (k : Int)) :: (if F (sy - tn) then inW tl tn F (stF es q (R p)) (R p) (k : Int) j else [])) := by
          show _ = _
          rw [inW, HSY.out, if_neg (of_decide_eq_false HBT.out.symm), Int.toNat_natCast, ← hsu, hf, Int.toNat_natCast]
        have hsy0 : (0 : Int) ≤ (sy : Int) := by omega
        have hsy1 : (sy : Int) < (S : Int) := by omega
        have hsu0 : (0 : Int) ≤ (su : Int) := by omega
        have hsu1 : (su : Int) < (N : Int) := by omega
        have hj2 : (j : Int) < (m : Int) + 1 := by omega
        have hj3 : (j : Int) < ((m + 1 : Nat) : Int) := by omega
        clear hsu hf hT0 hA hne HAC K1
        go_wp2_with fail
        go_region_held3 (fun x' => x'.cell? ⟨hb, 0, none⟩ = some (.func (.func 57) #[] #[.pointer (some ⟨bx, 0, none⟩)]) ∧ x'.cell? ⟨ab, 9, none⟩ = some (.slice (some ⟨mg, 0, none⟩) N mc1) ∧ x'.cell? ⟨tb, j, none⟩ = some (.int .i64 (su : Int)) ∧ x'.cell? ⟨rb, ro + j, none⟩ = some (.int .i64 (sy : Int)) ∧ x'.cell? ⟨mg, su, none⟩ = some (.slice (some ⟨mb su, 0, none⟩) S S) ∧ x'.cell? ⟨mb su, sy, none⟩ = some (.int .i64 (f : Int))) (first | exact HKS.out | exact HKT.out | go_keep)
          ((first
            | (go_at_call 57; refine calls_at Z.drew (by with_reducible rfl) ?_; refine Calls.mono HHA.out ?_; rintro e w4 ⟨rfl, hk4, hl4⟩; have HA4 : Hid (w4.heap[ab]? = some (.cells cs 81 (0, 0))) := hk4.at HAZ'.out (by decide) (by decide); have HH4 : Hid (w4.heap[hb]? = some (.cells #[.func (.func 57) #[] #[.pointer (some ⟨bx, 0, none⟩)]] 116 (0, 0))) := hk4.at HHZ'.out (by decide) (by decide); have HL4 : Hid (LqT P w4 bx kb T (updL Qn f (addL (Qn f) (k : Int))) tb (m + 1) (fun i => .int .i64 (stF es q (R p) i : Int))) := hl4; have HK4 : Hid (KeepH w w4) := HKZ'.out.trans hk4; have HKT : Hid (w4.cell? ⟨hb, 0, none⟩ = some (.func (.func 57) #[] #[.pointer (some ⟨bx, 0, none⟩)]) ∧ w4.cell? ⟨ab, 9, none⟩ = some (.slice (some ⟨mg, 0, none⟩) N mc1) ∧ w4.cell? ⟨tb, j, none⟩ = some (.int .i64 (su : Int)) ∧ w4.cell? ⟨rb, ro + j, none⟩ = some (.int .i64 (sy : Int)) ∧ w4.cell? ⟨mg, su, none⟩ = some (.slice (some ⟨mb su, 0, none⟩) S S) ∧ w4.cell? ⟨mb su, sy, none⟩ = some (.int .i64 (f : Int))) := HSX.out w4 HA4.out HH4.out _ HL4.out; clear hk4 hl4)
            | fail))
        clear HKS HHA HAZ HHZ HKZ HAZ' HHZ' HKZ' HLZ HKT HSX
        have hA : (fun x => w4.grownBy x none) w4.drew := grown_drewN w4 1
        haveI hne : Nonempty (WBox (fun x => w4.grownBy x none)) := ⟨⟨_, hA⟩⟩
        have HAC4 : Hid (∀ X, w4.grownBy X none → X.cell? ⟨ab, 0, none⟩ = some (.slice ta tn tc) ∧ X.cell? ⟨ab, 1, none⟩ = some (.slice na nn nc) ∧ X.cell? ⟨ab, 2, none⟩ = some (.slice la ln lc) ∧ X.cell? ⟨ab, 3, none⟩ = some (.int .i64 st) ∧ X.cell? ⟨ab, 4, none⟩ = some (.slice (some ⟨pb, po, none⟩) n pc) ∧ X.cell? ⟨ab, 5, none⟩ = some (.slice (some ⟨nb, 0, none⟩) nn nn) ∧ X.cell? ⟨ab, 6, none⟩ = some (.slice sa N sc) ∧ X.cell? ⟨ab, 7, none⟩ = some (.slice xa T xc) ∧ X.cell? ⟨ab, 8, none⟩ = some (.slice l1 N lc1) ∧ X.cell? ⟨ab, 9, none⟩ = some (.slice (some ⟨mg, 0, none⟩) N mc1)) := fun X hX => av_cells (by have h := box_kept HA4.out hX; rw [HCS.out] at h; exact h)
        have g0 := fun s : WBox (fun x => w4.grownBy x none) => (HAC4.out s.w s.ok).1
        have g1 := fun s : WBox (fun x => w4.grownBy x none) => (HAC4.out s.w s.ok).2.1
        have g2 := fun s : WBox (fun x => w4.grownBy x none) => (HAC4.out s.w s.ok).2.2.1
        have g3 := fun s : WBox (fun x => w4.grownBy x none) => (HAC4.out s.w s.ok).2.2.2.1
        have g4 := fun s : WBox (fun x => w4.grownBy x none) => (HAC4.out s.w s.ok).2.2.2.2.1
        have g5 := fun s : WBox (fun x => w4.grownBy x none) => (HAC4.out s.w s.ok).2.2.2.2.2.1
        have g6 := fun s : WBox (fun x => w4.grownBy x none) => (HAC4.out s.w s.ok).2.2.2.2.2.2.1
        have g7 := fun s : WBox (fun x => w4.grownBy x none) => (HAC4.out s.w s.ok).2.2.2.2.2.2.2.1
        have g8 := fun s : WBox (fun x => w4.grownBy x none) => (HAC4.out s.w s.ok).2.2.2.2.2.2.2.2.1
        have g9 := fun s : WBox (fun x => w4.grownBy x none) => (HAC4.out s.w s.ok).2.2.2.2.2.2.2.2.2
        have r0 := fun s : WBox (fun x => w4.grownBy x none) => HR0.out s.w (grown_trans HL4.out.grown s.ok)
        obtain ⟨bv, hbv⟩ : ∃ b, b = (decide (tn ≤ sy) && F (sy - tn)) := ⟨_, rfl⟩
        have HBV := show Hid _ from hbv
        have K2 : Hid (∀ s : WBox (fun x => w4.grownBy x none), Calls Tryz.prog 58 #[.agg #[.slice ta tn tc, .slice na nn nc, .slice la ln lc, .int .i64 st, .slice (some ⟨pb, po, none⟩) n pc, .slice (some ⟨nb, 0, none⟩) nn nn, .slice sa N sc, .slice xa T xc, .slice l1 N lc1, .slice (some ⟨mg, 0, none⟩) N mc1], .int .i64 (sy : Int)] s.w fun e w' => e = .returned (.bool bv) ∧ ∃ s' : WBox (fun x => w4.grownBy x none), w' = s'.w) := fun s => calls_class ((uvan_any _ _ _ _ _ _ _ _ _ _ _ _ _ _ _ _ _ _ _ _ _ s.w _ _ _ F ((HR.out s.w (grown_trans HL4.out.grown s.ok)).nul) hnn sy (by rw [← HK.out.hS]; exact hsyS) bv HBV.out).mono fun e w' h => ⟨h.1, grown_trans s.ok h.2⟩)
        clear hbv
        go_wp2_with fail
        refine wp_region_class (p := fun x => w4.grownBy x none) (by kernel_rfl) (by kernel_rfl) hA ?_
        repeat (go_big_quiet_step (first | (go_at_call 58; rename_i s; with_reducible exact K2.out s)))
        refine wpQuiet_nil ?_
        rintro _ ⟨s4, rfl⟩
        clear g0 g1 g2 g3 g4 g5 g6 g7 g8 g9 r0 K2 HAC4
        cases bv with
        | false =>
          have HFI : Hid (F (sy - tn) = false) := by
            show _ = _
            have h := HBV.out
            rw [decide_eq_true (by have := of_decide_eq_false HBT.out.symm; omega), Bool.true_and] at h
            exact h.symm
          go_wp2_with fail
          refine bodyPost_ret (v := .tuple #[]) (by simp [results, Tryz.results60]) rfl ?_
          refine ⟨rfl, HK4.out.trans (.none_ s4.ok), ?_⟩
          rw [← HFN.out, HINC.out, HFI.out, foldQ_cons]
          exact HL4.out.kept s4.ok
        | true =>
          have HFI : Hid (F (sy - tn) = true) := by
            show _ = _
            have h := HBV.out
            rw [decide_eq_true (by have := of_decide_eq_false HBT.out.symm; omega), Bool.true_and] at h
            exact h.symm
          have hjw : IntKind.i64.wrap ((j : Int) - 1) = (j : Int) - 1 := by rw [IntKind.wrap_i64]; omega
          go_wp2_with fail
          go_roundg j
          all_goals first
            | (refine (show ∃ (j' : Nat), _ from ⟨j, by omega, rfl, by go_num, HK4.out.trans (.none_ s4.ok), updL Qn f (addL (Qn f) (k : Int)), HL4.out.kept s4.ok, ?_, fun f' => ?_⟩)
               · rw [← HFN.out, HINC.out, HFI.out, foldQ_cons]; rfl
               · have h1 := HQN.out f'
                 have h2 := HQN.out f
                 by_cases e : f' = f
                 · rw [e, updL_same]; have := addL_len (Qn f) (k : Int); omega
                 · rw [updL_other _ _ e]; omega)
            | (have := HGJ.out; omega)
end

end Go.Proofs.YtkbjbijoekmooaaGreat.J
