import Derived.Test.YthoamlahbnphkaaGreatQaadeodneccno
import Derived.Test.YthoamlahbnphkaaGreatQdhejadpfeceb
import Derived.Deep.AppendLies
import Derived.Deep.RegionHeld3

/-
  relate: the tables of an automaton, pure and in memory.
-/
namespace Go.Proofs.YthoamlahbnphkaaGreat.J
open Go.RowKit Go.Maps Go.Shelf

/-- Where the edge by s leads, among these edges; 0: there is none. -/
def ldF (l : List (Nat × Nat)) (s : Nat) : Int := (nextL l (s : Int)).getD 0
theorem ldF_snoc {l : List (Nat × Nat)} {a b : Nat} (hno : a ∉ l.map Prod.fst) (s : Nat) : ldF (l ++ [(a, b)]) s = if s = a then (b : Int) else ldF l s := by
  unfold ldF
  rw [nextL_snoc hno]
  by_cases e : s = a
  · rw [if_pos (by rw [e]), if_pos e]; rfl
  · rw [if_neg (by omega), if_neg e]
/-- The number of a transition; 0: it is none. -/
def nmF (l : List It) (q s : Nat) : Int := if ((q : Int), (s : Int)) ∈ l then (l.idxOf ((q : Int), (s : Int)) : Int) else 0
theorem nmF_nil (q s : Nat) : nmF [] q s = 0 := by simp [nmF]
theorem nmF_snoc {l : List It} {x : It} (hno : x ∉ l) (q s : Nat) : nmF (l ++ [x]) q s = if ((q : Int), (s : Int)) = x then (l.length : Int) else nmF l q s := by
  unfold nmF
  by_cases e : ((q : Int), (s : Int)) = x
  · rw [if_pos (by simp [e]), if_pos e, e, List.idxOf_append, if_neg hno]
    simp
  · rw [if_neg e]
    by_cases h : ((q : Int), (s : Int)) ∈ l
    · rw [if_pos (List.mem_append.2 (.inl h)), if_pos h, List.idxOf_append, if_pos h]
    · rw [if_neg h, if_neg]
      intro h2
      rcases List.mem_append.1 h2 with h2 | h2
      · exact h h2
      · exact e (List.mem_singleton.1 h2)
theorem nodup_at {α : Type} [BEq α] [LawfulBEq α] : ∀ (l : List α), l.Nodup → ∀ (k : Nat) (x : α), l[k]? = some x → l.idxOf x = k
  | [], _, k, x, h => by simp at h
  | y :: l, hn, k, x, h => by
    rw [List.nodup_cons] at hn
    cases k with
    | zero =>
      simp only [List.getElem?_cons_zero, Option.some.injEq] at h
      subst h
      simp
    | succ k =>
      simp only [List.getElem?_cons_succ] at h
      have hne : ¬ y = x := fun e => hn.1 (by rw [e]; exact List.mem_of_getElem? h)
      have hb : (y == x) = false := beq_false_of_ne hne
      rw [List.idxOf_cons, nodup_at l hn.2 k x h, hb]
      rfl
theorem nmF_at {l : List It} (hnd : l.Nodup) {k q s : Nat} (e : l[k]? = some ((q : Int), (s : Int))) : nmF l q s = (k : Int) := by
  unfold nmF
  rw [if_pos (List.mem_of_getElem? e), nodup_at l hnd k _ e]
theorem trI_nodup {tn : Nat} {l : List (Nat × Nat)} (i : Nat) (h : (l.map Prod.fst).Nodup) : (trI tn l i).Nodup := by
  unfold trI
  have h1 : ((l.filter fun x => decide (tn ≤ x.1)).map Prod.fst).Nodup := List.Nodup.sublist (List.Sublist.map _ List.filter_sublist) h
  unfold List.Nodup at h1 ⊢
  rw [List.pairwise_map] at h1 ⊢
  refine h1.imp fun hne e => hne ?_
  simp only [Prod.mk.injEq] at e
  omega
theorem trT_fst {tn : Nat} {es : List (List (Nat × Nat))} : ∀ (i : Nat) (x : It), x ∈ trT tn es i → x.1 < (i : Int)
  | 0, x, h => by simp [trT] at h
  | i + 1, x, h => by
    unfold trT at h
    rcases List.mem_append.1 h with h | h
    · have := trT_fst i x h
      omega
    · unfold trI at h
      obtain ⟨y, _, rfl⟩ := List.mem_map.1 h
      show (i : Int) < _
      omega
theorem trT_nodup {tn : Nat} {es : List (List (Nat × Nat))} : ∀ (i : Nat), (∀ q, q < i → ((es.getD q []).map Prod.fst).Nodup) → (trT tn es i).Nodup
  | 0, _ => by simp [trT]
  | i + 1, h => by
    unfold trT
    rw [List.nodup_append]
    refine ⟨trT_nodup i fun q hq => h q (by omega), trI_nodup i (h i (by omega)), fun x hx y hy e => ?_⟩
    subst e
    have h1 := trT_fst i x hx
    unfold trI at hy
    obtain ⟨y, _, rfl⟩ := List.mem_map.1 hy
    have h1' : (i : Int) < (i : Int) := h1
    omega

/-- The cells of a table: its rows lie in the blocks lb. -/
def tabV (lb : Nat → Nat) (S : Nat) : Nat → List Value
  | 0 => []
  | i + 1 => tabV lb S i ++ [.slice (some ⟨lb i, 0, none⟩) S S]
theorem tabV_len (lb : Nat → Nat) (S : Nat) : ∀ i, (tabV lb S i).length = i
  | 0 => rfl
  | i + 1 => by rw [tabV, List.length_append, tabV_len lb S i]; rfl
theorem tabV_congr {lb lb' : Nat → Nat} {S : Nat} : ∀ i, (∀ q, q < i → lb q = lb' q) → tabV lb S i = tabV lb' S i
  | 0, _ => rfl
  | i + 1, h => by rw [tabV, tabV, tabV_congr i fun q hq => h q (by omega), h i (by omega)]
theorem tabV_at (lb : Nat → Nat) (S : Nat) : ∀ i q, q < i → (tabV lb S i)[q]? = some (.slice (some ⟨lb q, 0, none⟩) S S)
  | 0, q, h => by omega
  | i + 1, q, h => by
    rw [tabV]
    by_cases e : q < i
    · rw [List.getElem?_append_left (by rw [tabV_len]; exact e)]; exact tabV_at lb S i q e
    · have e2 : q = i := by omega
      subst e2
      rw [List.getElem?_append_right (by rw [tabV_len]; exact Nat.le_refl _), tabV_len, Nat.sub_self]; rfl

/-- A table under way: i rows stand in it, il rows are made. -/
structure TbP (B : Nat) (X : World) (v : Value) (i il S : Nat) (lb : Nat → Nat) (ld : Nat → Nat → Int) : Prop where
  row : X.ownsRow B 24 1 v i (tabV lb S i)
  val : ∀ q, q < il → ValAt X (lb q) S 3 (fun s => .int .i64 (ld q s))
  inj : ∀ q r, q < il → r < il → lb q = lb r → q = r
  lo : ∀ q, q < il → B ≤ lb q
  le : i ≤ il
section
variable {B : Nat} {X Y : World} {v : Value} {i il S : Nat} {lb : Nat → Nat} {ld : Nat → Nat → Int}
theorem TbP.none_ (B : Nat) (X : World) (S : Nat) (lb : Nat → Nat) (ld : Nat → Nat → Int) : TbP B X (.slice none 0 0) 0 0 S lb ld :=
  ⟨World.ownsRow_nil _ _ _ _, fun _ hq => absurd hq (Nat.not_lt_zero _), fun _ _ hq => absurd hq (Nat.not_lt_zero _), fun _ hq => absurd hq (Nat.not_lt_zero _), Nat.le_refl _⟩
theorem TbP.kept (h : TbP B X v i il S lb ld) (hg : X.grownBy Y none) : TbP B Y v i il S lb ld :=
  ⟨keep0 h.row hg, fun q hq => (h.val q hq).kept hg, h.inj, h.lo, h.le⟩
/-- A box of another type is turned. -/
theorem TbP.boxed (h : TbP B X v i il S lb ld) {b : Nat} {cs : Array Value} {t : TypeId} (hb : X.heap[b]? = some (.cells cs t (0, 0))) (h1 : 24 ≠ t) (h2 : 3 ≠ t) (hg : X.grownBy Y (some b)) : TbP B Y v i il S lb ld :=
  ⟨h.row.kept hg (owns_nebox h.row hb h1), fun q hq => (h.val q hq).at hg fun e => by
    have h3 := h.val q hq
    unfold ValAt at h3
    rw [e, hb] at h3
    simp only [Option.some.injEq, Obj.cells.injEq] at h3
    exact h2 h3.2.1.symm, h.inj, h.lo, h.le⟩
/-- A row of the other table is turned. -/
theorem TbP.far (h : TbP B X v i il S lb ld) {b x : Nat} {u : Value} {t : TypeId} {len : Nat} {c : Nat → Value} (hb : ValAt X b len t c) (ht : 24 ≠ t) (hne : ∀ q, q < il → lb q ≠ b) : TbP B (X.setCell ⟨b, x, none⟩ u) v i il S lb ld :=
  have hg : X.grownBy (X.setCell ⟨b, x, none⟩ u) (some b) := grown_setCell _ _ _
  ⟨h.row.kept hg (owns_nebox h.row hb ht), fun q hq => (h.val q hq).at hg (hne q hq), h.inj, h.lo, h.le⟩
/-- The other table grows. -/
theorem TbP.beside (h : TbP B X v i il S lb ld) {B' n : Nat} {v' : Value} {xs : List Value} (ho : X.ownsRow B' 24 1 v' n xs) (hne : v.ownBlock = none ∨ v.ownBlock ≠ v'.ownBlock) (hg : X.grownBy Y v'.ownBlock) : TbP B Y v i il S lb ld :=
  ⟨h.row.kept hg hne, fun q hq => box_row (h.val q hq) ho (by decide) hg, h.inj, h.lo, h.le⟩
/-- A row more is made. -/
theorem TbP.made (h : TbP B X v i il S lb ld) (hB : B ≤ X.heap.size) {g : Nat} {f : Nat → Int} (hg : X.grownBy Y none) (hn : X.heap.size ≤ g) (hv : ValAt Y g S 3 (fun s => .int .i64 (f s))) : TbP B Y v i (il + 1) S (updL lb il g) (updL ld il f) := by
  refine ⟨?_, fun q hq => ?_, fun q r hq hr e => ?_, fun q hq => ?_, by have := h.le; omega⟩
  · rw [tabV_congr (lb' := lb) i fun q hq => updL_other _ _ (by have := h.le; omega)]
    exact keep0 h.row hg
  · by_cases e : q = il
    · subst e; rw [updL_same, updL_same]; exact hv
    · rw [updL_other _ _ e, updL_other _ _ e]; exact (h.val q (by omega)).kept hg
  · by_cases e1 : q = il
    · by_cases e2 : r = il
      · rw [e1, e2]
      · rw [e1, updL_same, updL_other _ _ e2] at e
        have := (h.val r (by omega)).lt
        omega
    · by_cases e2 : r = il
      · rw [e2, updL_same, updL_other _ _ e1] at e
        have := (h.val q (by omega)).lt
        omega
      · rw [updL_other _ _ e1, updL_other _ _ e2] at e
        exact h.inj q r (by omega) (by omega) e
  · by_cases e : q = il
    · subst e; rw [updL_same]; omega
    · rw [updL_other _ _ e]; exact h.lo q (by omega)
/-- A cell of a row is turned. -/
theorem TbP.set (h : TbP B X v i il S lb ld) {q : Nat} (hq : q < il) (s : Nat) (x : Int) : TbP B (X.setCell ⟨lb q, s, none⟩ (.int .i64 x)) v i il S lb (updL ld q (fun u => if u = s then x else ld q u)) := by
  have hg : X.grownBy (X.setCell ⟨lb q, s, none⟩ (.int .i64 x)) (some (lb q)) := grown_setCell _ _ _
  refine ⟨h.row.kept hg (owns_nebox h.row (h.val q hq) (by decide)), fun r hr => ?_, h.inj, h.lo, h.le⟩
  by_cases e : r = q
  · subst e
    rw [updL_same]
    refine ((h.val r hq).set s (.int .i64 x)).ext fun u _ => ?_
    unfold put
    by_cases e : u = s
    · simp only [if_pos e]
    · simp only [if_neg e]
  · rw [updL_other _ _ e]
    exact (h.val r hr).at hg fun e2 => e (h.inj r q hr hq e2)
/-- A row more stands in it. -/
theorem TbP.push (h : TbP B X v i (i + 1) S lb ld) {v' : Value} (hg : X.grownBy Y v.ownBlock) (ho : Y.ownsRow B 24 1 v' (i + 1) (tabV lb S i ++ [.slice (some ⟨lb i, 0, none⟩) S S])) : TbP B Y v' (i + 1) (i + 1) S lb ld :=
  ⟨ho, fun q hq => box_row (h.val q hq) h.row (by decide) hg, h.inj, h.lo, Nat.le_refl _⟩
theorem TbP.ext (h : TbP B X v i il S lb ld) {ld' : Nat → Nat → Int} (e : ∀ q, q < il → ∀ s, s < S → ld q s = ld' q s) : TbP B X v i il S lb ld' :=
  ⟨h.row, fun q hq => (h.val q hq).ext fun s hs => by rw [e q hq s hs], h.inj, h.lo, h.le⟩
/-- What is read of it. -/
theorem TbP.at (h : TbP B X v i il S lb ld) {q : Nat} (hq : q < i) : ∃ g c, v = .slice (some ⟨g, 0, none⟩) i c ∧ X.cell? ⟨g, q, none⟩ = some (.slice (some ⟨lb q, 0, none⟩) S S) ∧ ∀ s, s < S → X.cell? ⟨lb q, s, none⟩ = some (.int .i64 (ld q s)) := by
  obtain ⟨g, c, e, h1⟩ := owns_at h.row (by omega)
  exact ⟨g, c, e, h1 q _ (tabV_at lb S i q hq), fun s hs => (h.val q (by have := h.le; omega)).cell s hs⟩
end

end Go.Proofs.YthoamlahbnphkaaGreat.J

/-
  relate: automatonOf, where there is none.
-/
namespace Go.Proofs.YthoamlahbnphkaaGreat.J
open Go.RowKit Go.Maps Go.Shelf

attribute [local go_sem] Oper.semAt_some

theorem set10_heap {w : World} {g : Nat} {t : TypeId} {a0 a1 a2 a3 a4 a5 a6 a7 a8 a9 : Value} (h : w.heap[g]? = some (.cells #[a0, a1, a2, a3, a4, a5, a6, a7, a8, a9] t (0, 0))) (v0 v1 v2 v3 v4 v5 v6 v7 v8 v9 : Value) :
    ((((((((((w.setCell ⟨g, 0, none⟩ v0).setCell ⟨g, 1, none⟩ v1).setCell ⟨g, 2, none⟩ v2).setCell ⟨g, 3, none⟩ v3).setCell ⟨g, 4, none⟩ v4).setCell ⟨g, 5, none⟩ v5).setCell ⟨g, 6, none⟩ v6).setCell ⟨g, 7, none⟩ v7).setCell ⟨g, 8, none⟩ v8).setCell ⟨g, 9, none⟩ v9).heap[g]? = some (.cells #[v0, v1, v2, v3, v4, v5, v6, v7, v8, v9] t (0, 0)) := by
  have h0 : (w.setCell ⟨g, 0, none⟩ v0).heap[g]? = some (.cells #[v0, a1, a2, a3, a4, a5, a6, a7, a8, a9] t (0, 0)) := heap_setCell_same _ g 0 _ _ v0 h
  generalize w.setCell ⟨g, 0, none⟩ v0 = w0 at h0 ⊢
  have h1 : (w0.setCell ⟨g, 1, none⟩ v1).heap[g]? = some (.cells #[v0, v1, a2, a3, a4, a5, a6, a7, a8, a9] t (0, 0)) := heap_setCell_same _ g 1 _ _ v1 h0
  generalize w0.setCell ⟨g, 1, none⟩ v1 = w1 at h1 ⊢
  have h2 : (w1.setCell ⟨g, 2, none⟩ v2).heap[g]? = some (.cells #[v0, v1, v2, a3, a4, a5, a6, a7, a8, a9] t (0, 0)) := heap_setCell_same _ g 2 _ _ v2 h1
  generalize w1.setCell ⟨g, 2, none⟩ v2 = w2 at h2 ⊢
  have h3 : (w2.setCell ⟨g, 3, none⟩ v3).heap[g]? = some (.cells #[v0, v1, v2, v3, a4, a5, a6, a7, a8, a9] t (0, 0)) := heap_setCell_same _ g 3 _ _ v3 h2
  generalize w2.setCell ⟨g, 3, none⟩ v3 = w3 at h3 ⊢
  have h4 : (w3.setCell ⟨g, 4, none⟩ v4).heap[g]? = some (.cells #[v0, v1, v2, v3, v4, a5, a6, a7, a8, a9] t (0, 0)) := heap_setCell_same _ g 4 _ _ v4 h3
  generalize w3.setCell ⟨g, 4, none⟩ v4 = w4 at h4 ⊢
  have h5 : (w4.setCell ⟨g, 5, none⟩ v5).heap[g]? = some (.cells #[v0, v1, v2, v3, v4, v5, a6, a7, a8, a9] t (0, 0)) := heap_setCell_same _ g 5 _ _ v5 h4
  generalize w4.setCell ⟨g, 5, none⟩ v5 = w5 at h5 ⊢
  have h6 : (w5.setCell ⟨g, 6, none⟩ v6).heap[g]? = some (.cells #[v0, v1, v2, v3, v4, v5, v6, a7, a8, a9] t (0, 0)) := heap_setCell_same _ g 6 _ _ v6 h5
  generalize w5.setCell ⟨g, 6, none⟩ v6 = w6 at h6 ⊢
  have h7 : (w6.setCell ⟨g, 7, none⟩ v7).heap[g]? = some (.cells #[v0, v1, v2, v3, v4, v5, v6, v7, a8, a9] t (0, 0)) := heap_setCell_same _ g 7 _ _ v7 h6
  generalize w6.setCell ⟨g, 7, none⟩ v7 = w7 at h7 ⊢
  have h8 : (w7.setCell ⟨g, 8, none⟩ v8).heap[g]? = some (.cells #[v0, v1, v2, v3, v4, v5, v6, v7, v8, a9] t (0, 0)) := heap_setCell_same _ g 8 _ _ v8 h7
  generalize w7.setCell ⟨g, 8, none⟩ v8 = w8 at h8 ⊢
  exact heap_setCell_same _ g 9 _ _ v9 h8
theorem set10_grown (w : World) (g : Nat) (v0 v1 v2 v3 v4 v5 v6 v7 v8 v9 : Value) :
    w.grownBy ((((((((((w.setCell ⟨g, 0, none⟩ v0).setCell ⟨g, 1, none⟩ v1).setCell ⟨g, 2, none⟩ v2).setCell ⟨g, 3, none⟩ v3).setCell ⟨g, 4, none⟩ v4).setCell ⟨g, 5, none⟩ v5).setCell ⟨g, 6, none⟩ v6).setCell ⟨g, 7, none⟩ v7).setCell ⟨g, 8, none⟩ v8).setCell ⟨g, 9, none⟩ v9) (some g) :=
  grown_trans (grown_trans (grown_trans (set7_grown w g v0 v1 v2 v3 v4 v5 v6) (grown_setCell _ _ _)) (grown_setCell _ _ _)) (grown_setCell _ _ _)
theorem results_uof (tmps : Array Value) (w : World) (g : Nat) (cs : Array Value) (x : Value) (h2 : tmps.getD 2 undef = .pointer (some ⟨g, 0, none⟩)) (h3 : tmps.getD 3 undef = x) (hg : w.heap[g]? = some (.cells cs 81 (0, 0))) (hs : cs.size = 10) :
    (results Tryz.f30 tmps).run Tryz.prog w = .ok (.tuple #[.agg cs, x]) w := by
  have h2' : tmps[2]?.getD undef = .pointer (some ⟨g, 0, none⟩) := by simpa using h2
  have h3' : tmps[3]?.getD undef = x := by simpa using h3
  have hl := run_loadVar_row (P := Tryz.prog) w g 81 81 cs (0, 0) _ hg Tryz.underlying81 rfl (by rw [hs]; kernel_rfl)
  simp [results, Tryz.results30, h2', h3', asAddr, hl]

section
variable (ta na la pa : Option Addr) (tc nc lc pc : Nat) (n : Nat) (st : Int) (w : World) (tn nn ln : Nat)

set_option maxRecDepth 100000 in
set_option maxHeartbeats 2000000 in
theorem uof_bad (ec : Int) (hec : ec = 1 ∨ ec = 11)
    (hBU : ∀ X, w.grownBy X none → Calls Tryz.prog 22 #[.agg #[.slice ta tn tc, .slice na nn nc, .slice la ln lc, .int .i64 st, .slice pa n pc]] X fun e y => e = .returned (.tuple #[.agg #[.slice none 0 0, .int .i64 0, .int .i64 0], .int .i64 ec]) ∧ X.grownBy y none) :
    Calls Tryz.prog 30 #[.agg #[.slice ta tn tc, .slice na nn nc, .slice la ln lc, .int .i64 st, .slice pa n pc]] w fun e y => e = .returned (.tuple #[.agg #[.slice none 0 0, .slice none 0 0, .slice none 0 0, .int .i64 0, .slice none 0 0, .slice none 0 0, .slice none 0 0, .slice none 0 0, .slice none 0 0, .slice none 0 0], .int .i64 ec]) ∧ w.grownBy y none := by
  have HBU := show Hid _ from hBU
  have HX0 : Hid (w.grownBy ((w.alloc (.cells #[.slice ta tn tc, .slice na nn nc, .slice la ln lc, .int .i64 st, .slice pa n pc] 27)).alloc (.cells #[.slice none 0 0, .slice none 0 0, .slice none 0 0, .int .i64 0, .slice none 0 0, .slice none 0 0, .slice none 0 0, .slice none 0 0, .slice none 0 0, .slice none 0 0] 81)) none) := grown_trans (World.grownBy_alloc _ _ none) (World.grownBy_alloc _ _ none)
  have HB0 : Hid (((w.alloc (.cells #[.slice ta tn tc, .slice na nn nc, .slice la ln lc, .int .i64 st, .slice pa n pc] 27)).alloc (.cells #[.slice none 0 0, .slice none 0 0, .slice none 0 0, .int .i64 0, .slice none 0 0, .slice none 0 0, .slice none 0 0, .slice none 0 0, .slice none 0 0, .slice none 0 0] 81)).heap[w.heap.size + 1]? = some (.cells #[.slice none 0 0, .slice none 0 0, .slice none 0 0, .int .i64 0, .slice none 0 0, .slice none 0 0, .slice none 0 0, .slice none 0 0, .slice none 0 0, .slice none 0 0] 81 (0, 0))) := by
    have h := heap_alloc_last (w.alloc (.cells #[.slice ta tn tc, .slice na nn nc, .slice la ln lc, .int .i64 st, .slice pa n pc] 27)) (.cells #[.slice none 0 0, .slice none 0 0, .slice none 0 0, .int .i64 0, .slice none 0 0, .slice none 0 0, .slice none 0 0, .slice none 0 0, .slice none 0 0, .slice none 0 0] 81)
    rw [World.size_alloc] at h; exact h
  have hne : (ec != 0) = true := bne_iff_ne.2 (by omega)
  clear hBU hec
  go_enter Tryz.func30, Tryz.ntmps30
  go_wp2_with fail
  refine Calls.mono (HBU.out _ HX0.out) ?_
  rintro e w1 ⟨rfl, hg1⟩
  have HB1 : Hid ((w1.alloc (.cells #[.slice none 0 0, .int .i64 0, .int .i64 0] 59)).heap[w.heap.size + 1]? = some (.cells #[.slice none 0 0, .slice none 0 0, .slice none 0 0, .int .i64 0, .slice none 0 0, .slice none 0 0, .slice none 0 0, .slice none 0 0, .slice none 0 0, .slice none 0 0] 81 (0, 0))) := box_kept HB0.out (grown_trans hg1 (World.grownBy_alloc _ _ none))
  have HG1 : Hid (w.grownBy (w1.alloc (.cells #[.slice none 0 0, .int .i64 0, .int .i64 0] 59)) none) := grown_trans HX0.out (grown_trans hg1 (World.grownBy_alloc _ _ none))
  clear hg1 HB0 HX0
  have kc := fun j => cell_of_row _ (w.heap.size + 1) j _ _ _ HB1.out
  obtain ⟨k0, k1, k2, k3, k4, k5, k6, k7, k8, k9⟩ : _ ∧ _ ∧ _ ∧ _ ∧ _ ∧ _ ∧ _ ∧ _ ∧ _ ∧ _ := ⟨kc 0, kc 1, kc 2, kc 3, kc 4, kc 5, kc 6, kc 7, kc 8, kc 9⟩
  have kf := fun j => frozen_of_row _ (w.heap.size + 1) j _ _ HB1.out
  simp only [List.getElem?_toArray, List.getElem?_cons_zero, List.getElem?_cons_succ] at k0 k1 k2 k3 k4 k5 k6 k7 k8 k9
  clear kc
  go_wp2_with fail
  refine bodyPost_ret (v := .tuple #[.agg #[.slice none 0 0, .slice none 0 0, .slice none 0 0, .int .i64 0, .slice none 0 0, .slice none 0 0, .slice none 0 0, .slice none 0 0, .slice none 0 0, .slice none 0 0], .int .i64 ec]) ?_ rfl ?_
  · exact results_uof _ _ (w.heap.size + 1) _ _ rfl rfl (set10_heap HB1.out _ _ _ _ _ _ _ _ _ _) rfl
  · exact ⟨rfl, grown_new HG1.out (set10_grown _ _ _ _ _ _ _ _ _ _ _ _) (by omega)⟩
end

end Go.Proofs.YthoamlahbnphkaaGreat.J

/-
  relate: automatonOf under way, in memory.
-/
namespace Go.Proofs.YthoamlahbnphkaaGreat.J
open Go.RowKit Go.Maps Go.Shelf

/-- All blocks stay but numbers, rows of rows, and the box ab. -/
def KeepA (ab : Nat) (X Y : World) : Prop := ∀ (b : Nat) (cs : Array Value) (t : TypeId), X.heap[b]? = some (.cells cs t (0, 0)) → t ≠ 3 → t ≠ 24 → (t = 81 → b ≠ ab) → Y.heap[b]? = some (.cells cs t (0, 0))
section
variable {ab : Nat} {X Y : World}
theorem KeepA.none_ (h : X.grownBy Y none) : KeepA ab X Y := fun _ _ _ h1 _ _ _ => box_kept h1 h
theorem KeepA.box {cs : Array Value} (hb : X.heap[ab]? = some (.cells cs 81 (0, 0))) (h : X.grownBy Y (some ab)) : KeepA ab X Y := fun b cs' t h1 _ _ h4 => by
  refine (h.block b (Array.getElem?_eq_some_iff.1 h1).1 ?_).trans h1
  intro e
  have e2 : b = ab := by simpa using e
  have h5 := h1
  rw [e2, hb] at h5
  simp only [Option.some.injEq, Obj.cells.injEq] at h5
  exact h4 h5.2.1.symm e2
theorem KeepA.int {b : Nat} {cs : Array Value} (hb : X.heap[b]? = some (.cells cs 3 (0, 0))) (h : X.grownBy Y (some b)) : KeepA ab X Y := fun b' cs' t h1 h2 _ _ => by
  refine (h.block b' (Array.getElem?_eq_some_iff.1 h1).1 ?_).trans h1
  intro e
  have e2 : b' = b := by simpa using e
  have h5 := h1
  rw [e2, hb] at h5
  simp only [Option.some.injEq, Obj.cells.injEq] at h5
  exact h2 h5.2.1.symm
theorem KeepA.row {B n : Nat} {v : Value} {xs : List Value} (ho : X.ownsRow B 24 1 v n xs) (h : X.grownBy Y v.ownBlock) : KeepA ab X Y := fun _ _ _ h1 _ h3 _ => box_row h1 ho (fun e => h3 e.symm) h
theorem KeepA.owns {B e s n : Nat} {v : Value} {xs : List Value} (h : KeepA ab X Y) (ho : X.ownsRow B e s v n xs) (h1 : e ≠ 3) (h2 : e ≠ 24) (h3 : e ≠ 81) : Y.ownsRow B e s v n xs := by
  refine ⟨ho.1, ?_⟩
  rcases ho.2 with hn | ⟨g, cap, cur, rfl, hb, hgg, rest⟩
  · exact .inl hn
  · exact .inr ⟨g, cap, cur, rfl, hb, h g _ _ hgg h1 h2 (fun e => absurd e h3), rest⟩
end

/-- What automatonOf has got, beside its tables. -/
structure UPas (B : Nat) (X : World) (gb rb nb nn : Nat) (c0 c1 c2 c3 c4 sv tv : Value) (ks : List (List It)) (es : List (List (Nat × Nat))) (kv ev : Nat → Value) (tl : List It) (F : Nat → Bool) : Prop where
  gbox : X.heap[gb]? = some (.cells #[c0, c1, c2, c3, c4] 27 (0, 0))
  res : X.heap[rb]? = some (.cells #[.slice none 0 0, .slice none 0 0, .slice none 0 0, .int .i64 0, .slice none 0 0, .slice none 0 0, .slice none 0 0, .slice none 0 0, .slice none 0 0, .slice none 0 0] 81 (0, 0))
  aut : AutP B X sv ks (elF es) kv ev
  trs : X.ownsRow B 53 2 tv tl.length (itsV tl)
  nul : ValAt X nb nn 4 (fun i => .bool (F i))
section
variable {B : Nat} {X Y : World} {ab gb rb nb nn : Nat} {c0 c1 c2 c3 c4 sv tv : Value} {ks : List (List It)} {es : List (List (Nat × Nat))} {kv ev : Nat → Value} {tl : List It} {F : Nat → Bool}
theorem UPas.keep (h : UPas B X gb rb nb nn c0 c1 c2 c3 c4 sv tv ks es kv ev tl F) (hk : KeepA ab X Y) (hne : rb ≠ ab) : UPas B Y gb rb nb nn c0 c1 c2 c3 c4 sv tv ks es kv ev tl F :=
  ⟨hk _ _ _ h.gbox (by decide) (by decide) (fun e => absurd e (by decide)), hk _ _ _ h.res (by decide) (by decide) (fun _ => hne),
    ⟨hk.owns h.aut.row (by decide) (by decide) (by decide), fun i hi => hk.owns (h.aut.ker i hi) (by decide) (by decide) (by decide), fun i hi => hk.owns (h.aut.edg i hi) (by decide) (by decide) (by decide)⟩,
    hk.owns h.trs (by decide) (by decide) (by decide), hk _ _ _ h.nul (by decide) (by decide) (fun e => absurd e (by decide))⟩
end

/-- Where the edges lead, once j of those of i have been gone over. -/
def ldJ (es : List (List (Nat × Nat))) (i j q s : Nat) : Int := if q = i then ldF ((es.getD i []).take j) s else ldF (es.getD q []) s
theorem ldJ_zero (es : List (List (Nat × Nat))) (i q s : Nat) : updL (fun q s => ldF (es.getD q []) s) i (fun _ => 0) q s = ldJ es i 0 q s := by
  unfold ldJ updL
  by_cases e : q = i
  · rw [if_pos e, if_pos e]; rfl
  · rw [if_neg e, if_neg e]
theorem ldJ_end (es : List (List (Nat × Nat))) (i q s : Nat) : ldJ es i (es.getD i []).length q s = ldF (es.getD q []) s := by
  unfold ldJ
  rw [List.take_length]
  by_cases e : q = i
  · rw [if_pos e, e]
  · rw [if_neg e]
theorem ldJ_step {es : List (List (Nat × Nat))} {i j s t : Nat} (hj : j < (es.getD i []).length) (he : (es.getD i []).getD j (0, 0) = (s, t)) (hnd : ((es.getD i []).map Prod.fst).Nodup) (q u : Nat) : updL (ldJ es i j) i (fun u => if u = s then (t : Int) else ldJ es i j i u) q u = ldJ es i (j + 1) q u := by
  unfold updL
  by_cases e : q = i
  · rw [if_pos e]
    unfold ldJ
    rw [if_pos rfl, if_pos e, take_snocE hj he, ldF_snoc]
    have h2 : (((es.getD i []).take (j + 1)).map Prod.fst).Nodup := List.Nodup.sublist (List.Sublist.map _ (List.take_sublist _ _)) hnd
    rw [take_snocE hj he, List.map_append, List.nodup_append] at h2
    intro h3
    exact h2.2.2 s h3 s (by simp) rfl
  · rw [if_neg e]
    unfold ldJ
    rw [if_neg e, if_neg e]

/-- automatonOf under way. -/
structure RlP (w X : World) (ab gb rb nb nn : Nat) (c0 c1 c2 c3 c4 nv sv tv bl bm lv mv : Value) (i il j jl S : Nat) (lb mb : Nat → Nat) (ld nm : Nat → Nat → Int) (ks : List (List It)) (es : List (List (Nat × Nat))) (kv ev : Nat → Value) (tl : List It) (F : Nat → Bool) : Prop where
  grown : w.grownBy X none
  box : X.heap[ab]? = some (.cells #[c0, c1, c2, c3, c4, nv, sv, tv, bl, bm] 81 (0, 0))
  pas : UPas w.heap.size X gb rb nb nn c0 c1 c2 c3 c4 sv tv ks es kv ev tl F
  l : TbP w.heap.size X lv i il S lb ld
  m : TbP w.heap.size X mv j jl S mb nm
  lm : ∀ q r, q < il → r < jl → lb q ≠ mb r
  apart : ∀ b, lv.ownBlock = some b → mv.ownBlock ≠ some b
  lo : w.heap.size ≤ ab ∧ w.heap.size ≤ rb
  ne : rb ≠ ab
section
variable {w X Y : World} {ab gb rb nb nn : Nat} {c0 c1 c2 c3 c4 nv sv tv bl bm lv mv : Value} {i il j jl S : Nat} {lb mb : Nat → Nat} {ld nm : Nat → Nat → Int} {ks : List (List It)} {es : List (List (Nat × Nat))} {kv ev : Nat → Value} {tl : List It} {F : Nat → Bool}
theorem RlP.kept (h : RlP w X ab gb rb nb nn c0 c1 c2 c3 c4 nv sv tv bl bm lv mv i il j jl S lb mb ld nm ks es kv ev tl F) (hg : X.grownBy Y none) : RlP w Y ab gb rb nb nn c0 c1 c2 c3 c4 nv sv tv bl bm lv mv i il j jl S lb mb ld nm ks es kv ev tl F :=
  ⟨grown_trans h.grown hg, box_kept h.box hg, h.pas.keep (.none_ hg) h.ne, h.l.kept hg, h.m.kept hg, h.lm, h.apart, h.lo, h.ne⟩
theorem RlP.setL (h : RlP w X ab gb rb nb nn c0 c1 c2 c3 c4 nv sv tv bl bm lv mv i il j jl S lb mb ld nm ks es kv ev tl F) (v : Value) : RlP w (X.setCell ⟨ab, 8, none⟩ v) ab gb rb nb nn c0 c1 c2 c3 c4 nv sv tv v bm lv mv i il j jl S lb mb ld nm ks es kv ev tl F :=
  have hg : X.grownBy (X.setCell ⟨ab, 8, none⟩ v) (some ab) := grown_setCell _ _ _
  ⟨grown_new h.grown hg h.lo.1, heap_setCell_same _ _ _ _ _ _ h.box, h.pas.keep (.box h.box hg) h.ne, h.l.boxed h.box (by decide) (by decide) hg, h.m.boxed h.box (by decide) (by decide) hg, h.lm, h.apart, h.lo, h.ne⟩
theorem RlP.setM (h : RlP w X ab gb rb nb nn c0 c1 c2 c3 c4 nv sv tv bl bm lv mv i il j jl S lb mb ld nm ks es kv ev tl F) (v : Value) : RlP w (X.setCell ⟨ab, 9, none⟩ v) ab gb rb nb nn c0 c1 c2 c3 c4 nv sv tv bl v lv mv i il j jl S lb mb ld nm ks es kv ev tl F :=
  have hg : X.grownBy (X.setCell ⟨ab, 9, none⟩ v) (some ab) := grown_setCell _ _ _
  ⟨grown_new h.grown hg h.lo.1, heap_setCell_same _ _ _ _ _ _ h.box, h.pas.keep (.box h.box hg) h.ne, h.l.boxed h.box (by decide) (by decide) hg, h.m.boxed h.box (by decide) (by decide) hg, h.lm, h.apart, h.lo, h.ne⟩
theorem RlP.madeL (h : RlP w X ab gb rb nb nn c0 c1 c2 c3 c4 nv sv tv bl bm lv mv i il j jl S lb mb ld nm ks es kv ev tl F) {g : Nat} {f : Nat → Int} (hg : X.grownBy Y none) (hn : X.heap.size ≤ g) (hv : ValAt Y g S 3 (fun s => .int .i64 (f s))) : RlP w Y ab gb rb nb nn c0 c1 c2 c3 c4 nv sv tv bl bm lv mv i (il + 1) j jl S (updL lb il g) mb (updL ld il f) nm ks es kv ev tl F := by
  have h2 := h.kept hg
  refine ⟨h2.grown, h2.box, h2.pas, h.l.made h.grown.size hg hn hv, h2.m, fun q r hq hr => ?_, h.apart, h.lo, h.ne⟩
  by_cases e : q = il
  · rw [e, updL_same]
    have := (h.m.val r hr).lt
    omega
  · rw [updL_other _ _ e]; exact h.lm q r (by omega) hr
theorem RlP.madeM (h : RlP w X ab gb rb nb nn c0 c1 c2 c3 c4 nv sv tv bl bm lv mv i il j jl S lb mb ld nm ks es kv ev tl F) {g : Nat} {f : Nat → Int} (hg : X.grownBy Y none) (hn : X.heap.size ≤ g) (hv : ValAt Y g S 3 (fun s => .int .i64 (f s))) : RlP w Y ab gb rb nb nn c0 c1 c2 c3 c4 nv sv tv bl bm lv mv i il j (jl + 1) S lb (updL mb jl g) ld (updL nm jl f) ks es kv ev tl F := by
  have h2 := h.kept hg
  refine ⟨h2.grown, h2.box, h2.pas, h2.l, h.m.made h.grown.size hg hn hv, fun q r hq hr => ?_, h.apart, h.lo, h.ne⟩
  by_cases e : r = jl
  · rw [e, updL_same]
    have := (h.l.val q hq).lt
    omega
  · rw [updL_other _ _ e]; exact h.lm q r hq (by omega)
theorem RlP.putL (h : RlP w X ab gb rb nb nn c0 c1 c2 c3 c4 nv sv tv bl bm lv mv i il j jl S lb mb ld nm ks es kv ev tl F) {q : Nat} (hq : q < il) (s : Nat) (x : Int) : RlP w (X.setCell ⟨lb q, s, none⟩ (.int .i64 x)) ab gb rb nb nn c0 c1 c2 c3 c4 nv sv tv bl bm lv mv i il j jl S lb mb (updL ld q (fun u => if u = s then x else ld q u)) nm ks es kv ev tl F := by
  have hg : X.grownBy (X.setCell ⟨lb q, s, none⟩ (.int .i64 x)) (some (lb q)) := grown_setCell _ _ _
  have hv := h.l.val q hq
  exact ⟨grown_new h.grown hg (h.l.lo q hq), KeepB h.box hv hg, h.pas.keep (.int hv hg) h.ne, h.l.set hq s x, h.m.far hv (by decide) (fun r hr e => h.lm q r hq hr e.symm), h.lm, h.apart, h.lo, h.ne⟩
where
  KeepB {X Y : World} {b ab len : Nat} {cs : Array Value} {c : Nat → Value} (hb : X.heap[ab]? = some (.cells cs 81 (0, 0))) (hv : ValAt X b len 3 c) (hg : X.grownBy Y (some b)) : Y.heap[ab]? = some (.cells cs 81 (0, 0)) := by
    refine (hg.block ab (Array.getElem?_eq_some_iff.1 hb).1 ?_).trans hb
    intro e
    have e2 : ab = b := by simpa using e
    unfold ValAt at hv
    rw [e2, hv] at hb
    simp only [Option.some.injEq, Obj.cells.injEq] at hb
    exact absurd hb.2.1 (by decide)
theorem RlP.putM (h : RlP w X ab gb rb nb nn c0 c1 c2 c3 c4 nv sv tv bl bm lv mv i il j jl S lb mb ld nm ks es kv ev tl F) {q : Nat} (hq : q < jl) (s : Nat) (x : Int) : RlP w (X.setCell ⟨mb q, s, none⟩ (.int .i64 x)) ab gb rb nb nn c0 c1 c2 c3 c4 nv sv tv bl bm lv mv i il j jl S lb mb ld (updL nm q (fun u => if u = s then x else nm q u)) ks es kv ev tl F := by
  have hg : X.grownBy (X.setCell ⟨mb q, s, none⟩ (.int .i64 x)) (some (mb q)) := grown_setCell _ _ _
  have hv := h.m.val q hq
  exact ⟨grown_new h.grown hg (h.m.lo q hq), RlP.putL.KeepB h.box hv hg, h.pas.keep (.int hv hg) h.ne, h.l.far hv (by decide) (fun r hr => h.lm r q hr hq), h.m.set hq s x, h.lm, h.apart, h.lo, h.ne⟩
theorem RlP.pushL (h : RlP w X ab gb rb nb nn c0 c1 c2 c3 c4 nv sv tv bl bm lv mv i (i + 1) j jl S lb mb ld nm ks es kv ev tl F) {g c : Nat} (hg : X.grownBy Y lv.ownBlock) (ho : Y.ownsRow w.heap.size 24 1 (.slice (some ⟨g, 0, none⟩) (i + 1) c) (i + 1) (tabV lb S i ++ [.slice (some ⟨lb i, 0, none⟩) S S])) (hat : lv.ownBlock = some g ∨ g = X.heap.size) : RlP w Y ab gb rb nb nn c0 c1 c2 c3 c4 nv sv tv bl bm (.slice (some ⟨g, 0, none⟩) (i + 1) c) mv (i + 1) (i + 1) j jl S lb mb ld nm ks es kv ev tl F := by
  refine ⟨grown_owned h.grown h.l.row (Nat.le_refl _) hg, box_row h.box h.l.row (by decide) hg, h.pas.keep (.row h.l.row hg) h.ne, h.l.push hg ho, h.m.beside h.l.row ?_ hg, h.lm, fun b hb hm => ?_, h.lo, h.ne⟩
  · cases hb : mv.ownBlock with
    | none => exact .inl rfl
    | some b => exact .inr fun e => h.apart b e.symm hb
  · have e : g = b := by simpa [Value.ownBlock] using hb
    subst e
    rcases hat with h1 | h1
    · exact h.apart g h1 hm
    · have := (h.m.row.lt g hm).2
      omega
theorem RlP.pushM (h : RlP w X ab gb rb nb nn c0 c1 c2 c3 c4 nv sv tv bl bm lv mv i il j (j + 1) S lb mb ld nm ks es kv ev tl F) {g c : Nat} (hg : X.grownBy Y mv.ownBlock) (ho : Y.ownsRow w.heap.size 24 1 (.slice (some ⟨g, 0, none⟩) (j + 1) c) (j + 1) (tabV mb S j ++ [.slice (some ⟨mb j, 0, none⟩) S S])) (hat : mv.ownBlock = some g ∨ g = X.heap.size) : RlP w Y ab gb rb nb nn c0 c1 c2 c3 c4 nv sv tv bl bm lv (.slice (some ⟨g, 0, none⟩) (j + 1) c) i il (j + 1) (j + 1) S lb mb ld nm ks es kv ev tl F := by
  refine ⟨grown_owned h.grown h.m.row (Nat.le_refl _) hg, box_row h.box h.m.row (by decide) hg, h.pas.keep (.row h.m.row hg) h.ne, h.l.beside h.m.row ?_ hg, h.m.push hg ho, h.lm, fun b hb hm => ?_, h.lo, h.ne⟩
  · cases hb : lv.ownBlock with
    | none => exact .inl rfl
    | some b => exact .inr fun e => h.apart b hb e.symm
  · have e : g = b := by simpa [Value.ownBlock] using hm
    subst e
    rcases hat with h1 | h1
    · exact h.apart g hb h1
    · have := (h.l.row.lt g hb).2
      omega
theorem RlP.extL (h : RlP w X ab gb rb nb nn c0 c1 c2 c3 c4 nv sv tv bl bm lv mv i il j jl S lb mb ld nm ks es kv ev tl F) {ld' : Nat → Nat → Int} (e : ∀ q, q < il → ∀ s, s < S → ld q s = ld' q s) : RlP w X ab gb rb nb nn c0 c1 c2 c3 c4 nv sv tv bl bm lv mv i il j jl S lb mb ld' nm ks es kv ev tl F :=
  ⟨h.grown, h.box, h.pas, h.l.ext e, h.m, h.lm, h.apart, h.lo, h.ne⟩
theorem RlP.extM (h : RlP w X ab gb rb nb nn c0 c1 c2 c3 c4 nv sv tv bl bm lv mv i il j jl S lb mb ld nm ks es kv ev tl F) {nm' : Nat → Nat → Int} (e : ∀ q, q < jl → ∀ s, s < S → nm q s = nm' q s) : RlP w X ab gb rb nb nn c0 c1 c2 c3 c4 nv sv tv bl bm lv mv i il j jl S lb mb ld nm' ks es kv ev tl F :=
  ⟨h.grown, h.box, h.pas, h.l, h.m.ext e, h.lm, h.apart, h.lo, h.ne⟩
theorem RlP.cells (h : RlP w X ab gb rb nb nn c0 c1 c2 c3 c4 nv sv tv bl bm lv mv i il j jl S lb mb ld nm ks es kv ev tl F) : (X.cell? ⟨ab, 6, none⟩ = some sv ∧ X.cell? ⟨ab, 7, none⟩ = some tv ∧ X.cell? ⟨ab, 8, none⟩ = some bl ∧ X.cell? ⟨ab, 9, none⟩ = some bm) ∧ ∀ k, X.frozen? ⟨ab, k, none⟩ = false := by
  refine ⟨⟨?_, ?_, ?_, ?_⟩, fun k => frozen_of_row _ _ _ _ _ h.box⟩ <;> rw [cell_of_row _ _ _ _ _ _ h.box] <;> rfl
end

end Go.Proofs.YthoamlahbnphkaaGreat.J

/-
  relate: automatonOf, where there is an automaton.
-/
namespace Go.Proofs.YthoamlahbnphkaaGreat.J
open Go.RowKit Go.Maps Go.Shelf

attribute [local go_sem] Oper.semAt_some

theorem infoInts : (Tryz.prog.info? 24).map (fun i => (i.zero, i.size, i.bytes)) = some (some (.slice none 0 0), 1, 24) := by kernel_rfl
theorem mk_ints (u : World) {i0 : TypeInfo} (hi0 : Tryz.prog.info? 3 = some i0) (hz0 : i0.zero = some (.int .i64 0)) (hz1 : i0.size = 1) (hz2 : i0.bytes = 8) {S : Nat} (hS : S ≤ 130) : (Instr.makeSlice 24 (.int .i64 (S : Int)) (.int .i64 (S : Int))).run Tryz.prog u = .ok (.slice (some ⟨u.heap.size, 0, none⟩) S S) (u.alloc (.cells (madeCells #[.int .i64 0] S) 3)) := by
  have h := run_make (P := Tryz.prog) u 24 3 i0 (.int .i64 0) Tryz.underlying24 hi0 hz0 .i64 .i64 (S : Int) (S : Int) (by omega) (Int.le_refl _) (by rw [hz2]; omega) (by omega)
  rw [h]
  simp [hz1, Value.cells]
theorem mk_val {Y : World} {b S : Nat} (h : Y.heap[b]? = some (.cells (madeCells #[.int .i64 0] S) 3 (0, 0))) : ValAt Y b S 3 (fun _ => .int .i64 0) := by
  unfold ValAt
  rw [h]
  congr 2
  apply Array.ext'
  rw [toList_madeCells_one, List.map_const', List.length_range]
theorem u_first (X : World) (o1 : Obj) (o2 : Obj) (k : Nat) : (((X.alloc o1).alloc o2).drewN k).heap[X.heap.size]? = some o1 := by
  show ((X.alloc o1).alloc o2).heap[X.heap.size]? = _
  exact ((World.grownBy_alloc (X.alloc o1) o2 none).block _ (by rw [World.size_alloc]; omega) (by simp)).trans (heap_alloc_last X o1)
theorem u_second (X : World) (o1 : Obj) (o2 : Obj) (k : Nat) : (((X.alloc o1).alloc o2).drewN k).heap[X.heap.size + 1]? = some o2 := by
  show ((X.alloc o1).alloc o2).heap[X.heap.size + 1]? = _
  have h := heap_alloc_last (X.alloc o1) o2
  rw [World.size_alloc] at h; exact h
/-- An automaton of relate in memory. -/
structure RaAt (B : Nat) (X : World) (nb nn S : Nat) (sv tv lv mv : Value) (ks : List (List It)) (es : List (List (Nat × Nat))) (kv ev : Nat → Value) (tl : List It) (F : Nat → Bool) (lb mb : Nat → Nat) : Prop where
  aut : AutP B X sv ks (elF es) kv ev
  trs : X.ownsRow B 53 2 tv tl.length (itsV tl)
  nul : ValAt X nb nn 4 (fun i => .bool (F i))
  l : TbP B X lv ks.length ks.length S lb (fun q s => ldF (es.getD q []) s)
  m : TbP B X mv ks.length ks.length S mb (fun q s => nmF tl q s)
/-- What automatonOf tells. -/
def UofTold (ta na la pa : Option Addr) (tc nc lc pc : Nat) (n : Nat) (st : Int) (tn nn ln : Nat) (ks : List (List It)) (es : List (List (Nat × Nat))) (tl : List It) (F : Nat → Bool) (w : World) (e : Ending) (y : World) : Prop :=
  ∃ (nb : Nat) (sa xa la' ma : Option Addr) (sc xc lc' mc : Nat) (kv ev : Nat → Value) (lb mb : Nat → Nat), e = .returned (.tuple #[.agg #[.slice ta tn tc, .slice na nn nc, .slice la ln lc, .int .i64 st, .slice pa n pc, .slice (some ⟨nb, 0, none⟩) nn nn, .slice sa ks.length sc, .slice xa tl.length xc, .slice la' ks.length lc', .slice ma ks.length mc], .int .i64 0]) ∧ RaAt w.heap.size y nb nn (tn + nn) (.slice sa ks.length sc) (.slice xa tl.length xc) (.slice la' ks.length lc') (.slice ma ks.length mc) ks es kv ev tl F lb mb ∧ w.grownBy y none

section
variable (ta na la pa : Option Addr) (tc nc lc pc : Nat) (n : Nat) (st : Int) (w : World) (tn nn ln : Nat)

set_option maxRecDepth 100000 in
set_option maxHeartbeats 4000000 in
theorem uof_ok (ask : Nat) (ks : List (List It)) (es : List (List (Nat × Nat))) (tl : List It) (F : Nat → Bool) (htn : tn ≤ 65) (hnn : nn ≤ 65) (hN256 : ks.length ≤ 256) (hes : ∀ q, q < ks.length → (es.getD q []).length ≤ 130 ∧ ((es.getD q []).map Prod.fst).Nodup ∧ ∀ x ∈ es.getD q [], x.1 < tn + nn ∧ x.2 < 256) (htl : tl.length ≤ 40000) (htnd : tl.Nodup) (htb : ∀ x ∈ tl, ∃ q s : Nat, x = ((q : Int), (s : Int)) ∧ q < ks.length ∧ s < tn + nn)
    (hBU : ∀ X, w.grownBy X none → Calls Tryz.prog 22 #[.agg #[.slice ta tn tc, .slice na nn nc, .slice la ln lc, .int .i64 st, .slice pa n pc]] X fun e y => ∃ sa sc kv ev, e = .returned (.tuple #[.agg #[.slice sa ks.length sc, .int .i64 (ask : Int), .int .i64 (ks.length : Int)], .int .i64 0]) ∧ AutP w.heap.size y (.slice sa ks.length sc) ks (elF es) kv ev ∧ X.grownBy y none)
    (hLI : ∀ X, w.grownBy X none → Calls Tryz.prog 36 #[.agg #[.slice ta tn tc, .slice na nn nc, .slice la ln lc, .int .i64 st, .slice pa n pc]] X fun e y => TrErr tl X e y)
    (hNU : ∀ X, w.grownBy X none → Calls Tryz.prog 38 #[.agg #[.slice ta tn tc, .slice na nn nc, .slice la ln lc, .int .i64 st, .slice pa n pc]] X fun e y => ∃ k, e = .returned (.tuple #[.slice (some ⟨k, 0, none⟩) nn nn, .int .i64 0]) ∧ X.heap.size ≤ k ∧ ValAt y k nn 4 (fun i => .bool (F i)) ∧ X.grownBy y none) :
    Calls Tryz.prog 30 #[.agg #[.slice ta tn tc, .slice na nn nc, .slice la ln lc, .int .i64 st, .slice pa n pc]] w fun e y => UofTold ta na la pa tc nc lc pc n st tn nn ln ks es tl F w e y := by
  have HBU := show Hid _ from hBU
  have HLI := show Hid _ from hLI
  have HNU := show Hid _ from hNU
  have HES := show Hid _ from hes
  have HTN := show Hid _ from htnd
  have HTB := show Hid _ from htb
  have HX0 : Hid (PhAt w ((w.alloc (.cells #[.slice ta tn tc, .slice na nn nc, .slice la ln lc, .int .i64 st, .slice pa n pc] 27)).alloc (.cells #[.slice none 0 0, .slice none 0 0, .slice none 0 0, .int .i64 0, .slice none 0 0, .slice none 0 0, .slice none 0 0, .slice none 0 0, .slice none 0 0, .slice none 0 0] 81)) w.heap.size #[.slice ta tn tc, .slice na nn nc, .slice la ln lc, .int .i64 st, .slice pa n pc]) := PhAt.kept ⟨World.grownBy_alloc _ _ none, heap_alloc_last w _⟩ (World.grownBy_alloc _ _ none)
  have HB0 : Hid (((w.alloc (.cells #[.slice ta tn tc, .slice na nn nc, .slice la ln lc, .int .i64 st, .slice pa n pc] 27)).alloc (.cells #[.slice none 0 0, .slice none 0 0, .slice none 0 0, .int .i64 0, .slice none 0 0, .slice none 0 0, .slice none 0 0, .slice none 0 0, .slice none 0 0, .slice none 0 0] 81)).heap[w.heap.size + 1]? = some (.cells #[.slice none 0 0, .slice none 0 0, .slice none 0 0, .int .i64 0, .slice none 0 0, .slice none 0 0, .slice none 0 0, .slice none 0 0, .slice none 0 0, .slice none 0 0] 81 (0, 0))) := by
    have h := heap_alloc_last (w.alloc (.cells #[.slice ta tn tc, .slice na nn nc, .slice la ln lc, .int .i64 st, .slice pa n pc] 27)) (.cells #[.slice none 0 0, .slice none 0 0, .slice none 0 0, .int .i64 0, .slice none 0 0, .slice none 0 0, .slice none 0 0, .slice none 0 0, .slice none 0 0, .slice none 0 0] 81)
    rw [World.size_alloc] at h; exact h
  obtain ⟨i0, hi0, hz0, hz1, hz2⟩ := info_parts infoInt
  obtain ⟨i1, hq1, hu0, hu1, hu2⟩ := info_parts infoInts
  obtain ⟨N, hN⟩ : ∃ n, n = ks.length := ⟨_, rfl⟩
  have HN : Hid (N = ks.length) := hN
  rw [← hN] at hN256 HBU
  obtain ⟨T, hT⟩ : ∃ n, n = tl.length := ⟨_, rfl⟩
  have HT : Hid (T = tl.length) := hT
  rw [← hT] at htl
  clear hBU hes hLI hNU htnd htb hN hT
  go_enter Tryz.func30, Tryz.ntmps30
  go_wp2_with fail
  refine Calls.mono (HBU.out _ HX0.out.grown) ?_
  rintro e w1 ⟨sa, sc, kv, ev, rfl, hAP, hg1⟩
  have hbd : ∀ u, (Instr.build 81 #[(0, .agg #[.slice ta tn tc, .slice na nn nc, .slice la ln lc, .int .i64 st, .slice pa n pc]), (2, .slice sa N sc)]).run Tryz.prog u = .ok (.agg #[.slice ta tn tc, .slice na nn nc, .slice la ln lc, .int .i64 st, .slice pa n pc, .slice none 0 0, .slice sa N sc, .slice none 0 0, .slice none 0 0, .slice none 0 0]) u := fun u => run_build u _ _ _ (by kernel_rfl)
  obtain ⟨W, hW⟩ : ∃ W, W = w1.alloc (.cells #[.slice sa N sc, .int .i64 (ask : Int), .int .i64 (N : Int)] 59) := ⟨_, rfl⟩
  obtain ⟨ub, hub⟩ : ∃ b, b = w1.heap.size := ⟨_, rfl⟩
  have hgW : w1.grownBy W none := by rw [hW]; exact World.grownBy_alloc _ _ none
  have HXW : Hid (PhAt w W w.heap.size #[.slice ta tn tc, .slice na nn nc, .slice la ln lc, .int .i64 st, .slice pa n pc]) := HX0.out.kept (grown_trans hg1 hgW)
  have HBW : Hid (W.heap[w.heap.size + 1]? = some (.cells #[.slice none 0 0, .slice none 0 0, .slice none 0 0, .int .i64 0, .slice none 0 0, .slice none 0 0, .slice none 0 0, .slice none 0 0, .slice none 0 0, .slice none 0 0] 81 (0, 0))) := box_kept HB0.out (grown_trans hg1 hgW)
  have HAW : Hid (W.heap[ub]? = some (.cells #[.slice sa N sc, .int .i64 (ask : Int), .int .i64 (N : Int)] 59 (0, 0))) := by rw [hW, hub]; exact heap_alloc_last w1 _
  have HPW : Hid (AutP w.heap.size W (.slice sa N sc) ks (elF es) kv ev) := hAP.kept hgW
  have HWE := show Hid _ from hW
  have HBE := show Hid _ from hub
  clear hg1 hAP HX0 HB0 hgW hW hub
  have y0 : (w1.alloc (.cells #[.slice sa N sc, .int .i64 (ask : Int), .int .i64 (N : Int)] 59)).cell? ⟨w1.heap.size, 0, none⟩ = some (.slice sa N sc) := by rw [← HWE.out, ← HBE.out, cell_of_row _ _ _ _ _ _ HAW.out]; rfl
  obtain ⟨k0, k1, k2, k3, k4⟩ := HXW.out.cells
  rw [HWE.out] at k0 k1 k2 k3 k4
  have m0 := fun o => (World.grownBy_alloc _ o none).cell k0 (by simp)
  have m1 := fun o => (World.grownBy_alloc _ o none).cell k1 (by simp)
  have m2 := fun o => (World.grownBy_alloc _ o none).cell k2 (by simp)
  have m3 := fun o => (World.grownBy_alloc _ o none).cell k3 (by simp)
  have m4 := fun o => (World.grownBy_alloc _ o none).cell k4 (by simp)
  go_wp2_with fail
  rw [← HWE.out, ← HBE.out]
  clear k0 k1 k2 k3 k4 m0 m1 m2 m3 m4 y0 hbd
  obtain ⟨ab, hab⟩ : ∃ b, b = ub + 1 := ⟨_, rfl⟩
  have hsz : W.heap.size = ab := by rw [HWE.out, World.size_alloc, ← HBE.out, hab]
  have HLO : Hid (w.heap.size ≤ ab ∧ w.heap.size + 1 < ab) := by
    have h1 := HXW.out.grown.size
    have h2 := (Array.getElem?_eq_some_iff.1 HBW.out).1
    show _ ∧ _
    omega
  rw [← hab]
  obtain ⟨W0, hW0⟩ : ∃ X, X = W.alloc (.cells #[.slice ta tn tc, .slice na nn nc, .slice la ln lc, .int .i64 st, .slice pa n pc, .slice none 0 0, .slice sa N sc, .slice none 0 0, .slice none 0 0, .slice none 0 0] 81) := ⟨_, rfl⟩
  have hg0 : W.grownBy W0 none := by rw [hW0]; exact World.grownBy_alloc _ _ none
  have HX0 : Hid (PhAt w W0 w.heap.size #[.slice ta tn tc, .slice na nn nc, .slice la ln lc, .int .i64 st, .slice pa n pc]) := HXW.out.kept hg0
  have HR0 : Hid (W0.heap[w.heap.size + 1]? = some (.cells #[.slice none 0 0, .slice none 0 0, .slice none 0 0, .int .i64 0, .slice none 0 0, .slice none 0 0, .slice none 0 0, .slice none 0 0, .slice none 0 0, .slice none 0 0] 81 (0, 0))) := box_kept HBW.out hg0
  have HB0 : Hid (W0.heap[ab]? = some (.cells #[.slice ta tn tc, .slice na nn nc, .slice la ln lc, .int .i64 st, .slice pa n pc, .slice none 0 0, .slice sa N sc, .slice none 0 0, .slice none 0 0, .slice none 0 0] 81 (0, 0))) := by rw [hW0, ← hsz]; exact heap_alloc_last W _
  have HP0 : Hid (AutP w.heap.size W0 (.slice sa N sc) ks (elF es) kv ev) := HPW.out.kept hg0
  rw [← hW0]
  clear hW0 hg0 HXW HBW HAW HPW HWE HBE hab hsz
  refine Calls.mono (HLI.out _ HX0.out.grown) ?_
  rintro e w2 ⟨xa, xc, rfl, hown2, hg2⟩
  rw [← HT.out] at hown2 ⊢
  obtain ⟨y0, y1⟩ : w2.cell? ⟨ab, 7, none⟩ = some (.slice none 0 0) ∧ w2.frozen? ⟨ab, 7, none⟩ = false := by
    have h := box_kept HB0.out hg2
    exact ⟨by rw [cell_of_row _ _ _ _ _ _ h]; rfl, frozen_of_row _ _ _ _ _ h⟩
  have HB2 : Hid (w2.heap[ab]? = some (.cells #[.slice ta tn tc, .slice na nn nc, .slice la ln lc, .int .i64 st, .slice pa n pc, .slice none 0 0, .slice sa N sc, .slice none 0 0, .slice none 0 0, .slice none 0 0] 81 (0, 0))) := box_kept HB0.out hg2
  have HX2 : Hid (PhAt w w2 w.heap.size #[.slice ta tn tc, .slice na nn nc, .slice la ln lc, .int .i64 st, .slice pa n pc]) := HX0.out.kept hg2
  have HR2 : Hid (w2.heap[w.heap.size + 1]? = some (.cells #[.slice none 0 0, .slice none 0 0, .slice none 0 0, .int .i64 0, .slice none 0 0, .slice none 0 0, .slice none 0 0, .slice none 0 0, .slice none 0 0, .slice none 0 0] 81 (0, 0))) := box_kept HR0.out hg2
  have HP2 : Hid (AutP w.heap.size w2 (.slice sa N sc) ks (elF es) kv ev) := HP0.out.kept hg2
  have HT2 : Hid (w2.ownsRow w.heap.size 53 2 (.slice xa T xc) T (itsV tl)) := owns_base hown2 HX0.out.grown.size
  clear HB0 HX0 HR0 HP0 hown2 hg2
  obtain ⟨k0, k1, k2, k3, k4⟩ := HX2.out.cells
  go_wp2_with fail
  clear y0 y1 k0 k1 k2 k3 k4
  obtain ⟨X3, hX3⟩ : ∃ X, X = w2.setCell ⟨ab, 7, none⟩ (.slice xa T xc) := ⟨_, rfl⟩
  have hg3 : w2.grownBy X3 (some ab) := by rw [hX3]; exact grown_setCell _ _ _
  have hk3 : KeepA ab w2 X3 := .box HB2.out hg3
  have HB3 : Hid (X3.heap[ab]? = some (.cells #[.slice ta tn tc, .slice na nn nc, .slice la ln lc, .int .i64 st, .slice pa n pc, .slice none 0 0, .slice sa N sc, .slice xa T xc, .slice none 0 0, .slice none 0 0] 81 (0, 0))) := by rw [hX3]; exact heap_setCell_same _ _ _ _ _ _ HB2.out
  have HX3 : Hid (PhAt w X3 w.heap.size #[.slice ta tn tc, .slice na nn nc, .slice la ln lc, .int .i64 st, .slice pa n pc]) := ⟨grown_new HX2.out.grown hg3 HLO.out.1, hk3 _ _ _ HX2.out.box (by decide) (by decide) (fun e => absurd e (by decide))⟩
  have HR3 : Hid (X3.heap[w.heap.size + 1]? = some (.cells #[.slice none 0 0, .slice none 0 0, .slice none 0 0, .int .i64 0, .slice none 0 0, .slice none 0 0, .slice none 0 0, .slice none 0 0, .slice none 0 0, .slice none 0 0] 81 (0, 0))) := hk3 _ _ _ HR2.out (by decide) (by decide) (fun _ => Nat.ne_of_lt HLO.out.2)
  have HP3 : Hid (AutP w.heap.size X3 (.slice sa N sc) ks (elF es) kv ev) := ⟨hk3.owns HP2.out.row (by decide) (by decide) (by decide), fun i hi => hk3.owns (HP2.out.ker i hi) (by decide) (by decide) (by decide), fun i hi => hk3.owns (HP2.out.edg i hi) (by decide) (by decide) (by decide)⟩
  have HT3 : Hid (X3.ownsRow w.heap.size 53 2 (.slice xa T xc) T (itsV tl)) := hk3.owns HT2.out (by decide) (by decide) (by decide)
  rw [← hX3]
  clear hX3 hg3 hk3 HB2 HX2 HR2 HP2 HT2
  refine Calls.mono (HNU.out _ HX3.out.grown) ?_
  rintro e w4 ⟨nb, rfl, hnb, hval4, hg4⟩
  have HB4 : Hid (w4.heap[ab]? = some (.cells #[.slice ta tn tc, .slice na nn nc, .slice la ln lc, .int .i64 st, .slice pa n pc, .slice none 0 0, .slice sa N sc, .slice xa T xc, .slice none 0 0, .slice none 0 0] 81 (0, 0))) := box_kept HB3.out hg4
  have HU4 : Hid (UPas w.heap.size w4 w.heap.size (w.heap.size + 1) nb nn (.slice ta tn tc) (.slice na nn nc) (.slice la ln lc) (.int .i64 st) (.slice pa n pc) (.slice sa N sc) (.slice xa T xc) ks es kv ev tl F) := ⟨box_kept HX3.out.box hg4, box_kept HR3.out hg4, HP3.out.kept hg4, by rw [← HT.out]; exact keep0 HT3.out hg4, hval4⟩
  have HG4 : Hid (w.grownBy w4 none) := grown_trans HX3.out.grown hg4
  obtain ⟨y0, y1⟩ : w4.cell? ⟨ab, 5, none⟩ = some (.slice none 0 0) ∧ w4.frozen? ⟨ab, 5, none⟩ = false := ⟨by rw [cell_of_row _ _ _ _ _ _ HB4.out]; rfl, frozen_of_row _ _ _ _ _ HB4.out⟩
  have hz : ∀ k, (w4.setCell ⟨ab, 5, none⟩ (.slice (some ⟨nb, 0, none⟩) nn nn)).cell? ⟨w.heap.size, k, none⟩ = (#[.slice ta tn tc, .slice na nn nc, .slice la ln lc, .int .i64 st, .slice pa n pc] : Array Value)[k]? := fun k => by
    have h := (KeepA.box HB4.out (grown_setCell (w := w4) ab 5 (.slice (some ⟨nb, 0, none⟩) nn nn))) _ _ _ HU4.out.gbox (by decide) (by decide) (fun e => absurd e (by decide))
    exact cell_of_row _ _ _ _ _ _ h
  have k0 := hz 0
  have k1 := hz 1
  simp only [List.getElem?_toArray, List.getElem?_cons_zero, List.getElem?_cons_succ] at k0 k1
  have HL4 : Hid (RlP w (w4.setCell ⟨ab, 5, none⟩ (.slice (some ⟨nb, 0, none⟩) nn nn)) ab w.heap.size (w.heap.size + 1) nb nn (.slice ta tn tc) (.slice na nn nc) (.slice la ln lc) (.int .i64 st) (.slice pa n pc) (.slice (some ⟨nb, 0, none⟩) nn nn) (.slice sa N sc) (.slice xa T xc) (.slice none 0 0) (.slice none 0 0) (.slice none 0 0) (.slice none 0 0) 0 0 0 0 (tn + nn) (fun _ => 0) (fun _ => 0) (fun q s => ldF (es.getD q []) s) (fun _ _ => 0) ks es kv ev tl F) := by
    have hg := grown_setCell (w := w4) ab 5 (.slice (some ⟨nb, 0, none⟩) nn nn)
    exact ⟨grown_new HG4.out hg HLO.out.1, heap_setCell_same _ _ _ _ _ _ HB4.out, HU4.out.keep (.box HB4.out hg) (Nat.ne_of_lt HLO.out.2), .none_ _ _ _ _ _, .none_ _ _ _ _ _, fun _ _ h => absurd h (Nat.not_lt_zero _), fun b hb => (by cases hb), ⟨HLO.out.1, by omega⟩, Nat.ne_of_lt HLO.out.2⟩
  clear hg4 hval4 hnb HB3 HX3 HR3 HP3 HT3 HU4 HG4 HB4 hz
  obtain ⟨y6, -⟩ := HL4.out.cells.1
  go_wp2_with fail
  obtain ⟨S, hS⟩ : ∃ S, S = tn + nn := ⟨_, rfl⟩
  have hSi : (tn : Int) + (nn : Int) = (S : Int) := by omega
  have hSb : S ≤ 130 := by omega
  have HSE : Hid (S = tn + nn) := hS
  rw [← hS] at HL4 HES HTB
  rw [hSi]
  clear y0 y1 k0 k1 y6 hSi hS
  generalize w4.setCell ⟨ab, 5, none⟩ (.slice (some ⟨nb, 0, none⟩) nn nn) = X5 at HL4 ⊢
  go_loopg [50] N (fun gk v50 wr => ∃ (i lc1 mc1 : Nat) (la1 ma1 : Option Addr) (lb mb : Nat → Nat), i ≤ N ∧ gk = N - i ∧ v50 = .int .i64 i ∧ RlP w wr ab w.heap.size (w.heap.size + 1) nb nn (.slice ta tn tc) (.slice na nn nc) (.slice la ln lc) (.int .i64 st) (.slice pa n pc) (.slice (some ⟨nb, 0, none⟩) nn nn) (.slice sa N sc) (.slice xa T xc) (.slice la1 i lc1) (.slice ma1 i mc1) (.slice la1 i lc1) (.slice ma1 i mc1) i i i i S lb mb (fun q s => ldF (es.getD q []) s) (fun _ _ => 0) ks es kv ev tl F)
  case atStart => exact ⟨0, 0, 0, none, none, _, _, Nat.zero_le _, rfl, rfl, HL4.out⟩
  case round =>
    obtain ⟨i, lc1, mc1, la1, ma1, lb, mb, hi, hgi, rfl, hR⟩ := hrel
    have HGI : Hid (gk = N - i) := hgi
    have HR := show Hid _ from hR
    clear hgi hR HL4
    generalize wr = Z at *
    by_cases hlt : i < N
    · have hid : decide (i < N) = true := decide_eq_true hlt
      have hi0' : (0 : Int) ≤ (i : Int) := by omega
      have hi1 : (i : Int) < (N : Int) := by omega
      have hik : i < ks.length := by rw [← HN.out]; exact hlt
      have hPZ : AutP w.heap.size Z (.slice sa N sc) ks (elF es) kv ev := HR.out.pas.aut
      rw [HN.out] at hPZ
      obtain ⟨sb, sc', hsv, hs0, hs1⟩ := hPZ.st hik
      simp only [Value.slice.injEq] at hsv
      obtain ⟨rfl, _, rfl⟩ := hsv
      obtain ⟨ka, kc, hkv, _, _⟩ := hPZ.kerAt hik
      obtain ⟨ea, ec, hev, _⟩ := hPZ.edgAt hik
      have HEA : Hid (∀ Y, AutP w.heap.size Y (.slice (some ⟨sb, 0, none⟩) N sc) ks (elF es) kv ev → ItsAt Y ea (elF es i)) := fun Y h => by
        rw [HN.out] at h
        obtain ⟨ea2, ec2, h1, h2⟩ := h.edgAt hik
        rw [hev] at h1
        simp only [Value.slice.injEq] at h1
        rw [h1.1]; exact h2
      rw [hkv] at hs0
      rw [hev] at hs1
      obtain ⟨kl, hkl⟩ : ∃ k, k = (ks.getD i []).length := ⟨_, rfl⟩
      obtain ⟨E, hE⟩ : ∃ E, E = (elF es i).length := ⟨_, rfl⟩
      rw [← hkl] at hs0
      rw [← hE] at hs1
      have HE : Hid (E = (es.getD i []).length) := by show _ = _; rw [hE]; exact elF_len _ _
      have hEb : E ≤ 130 := by rw [HE.out]; exact (HES.out i hik).1
      clear hkl hE hkv hev hPZ
      go_wp2_with (at_make; refine wpList_make_full _ rfl _ _ 24 rfl w.heap.size 3 i0 (.int .i64 0) 1 Tryz.underlying24 hi0 hz0 hz1 .i64 .i64 _ _ S rfl rfl (by simp) (by simp) (by rw [hz2]; omega) (by unfold maxLen; omega) (by have := HR.out.grown.size; simp; omega) ?_)
      intro W1 hown hgrow
      have hval : ValAt W1 (Z.heap.size + 1) S 3 (fun _ => .int .i64 0) := made_rowK (B := w.heap.size) rfl (by simpa [Value.cells] using hown)
      obtain ⟨lb1, hlb1⟩ : ∃ f, f = updL lb i (Z.heap.size + 1) := ⟨_, rfl⟩
      have hlbi : Z.heap.size + 1 = lb1 i := by rw [hlb1, updL_same]
      have HR1 := show Hid _ from (HR.out.madeL (f := fun _ => 0) (grown_trans (World.grownBy_alloc _ _ none) hgrow) (Nat.le_succ _) hval).extL (fun q _ s _ => ldJ_zero es i q s)
      rw [← hlb1] at HR1
      rw [hlbi]
      have hc1 : W1.cell? ⟨Z.heap.size, 1, none⟩ = some (.slice ea E ec) := by rw [cell_of_row _ _ _ _ _ _ (box_kept (heap_alloc_last Z _) hgrow)]; rfl
      clear hown hgrow hval hlb1 hlbi HR hs0 hs1
      go_wp2_with fail
      go_loopg [59] E (fun gk v59 wr => ∃ (j : Nat), j ≤ E ∧ gk = E - j ∧ v59 = .int .i64 j ∧ RlP w wr ab w.heap.size (w.heap.size + 1) nb nn (.slice ta tn tc) (.slice na nn nc) (.slice la ln lc) (.int .i64 st) (.slice pa n pc) (.slice (some ⟨nb, 0, none⟩) nn nn) (.slice (some ⟨sb, 0, none⟩) N sc) (.slice xa T xc) (.slice la1 i lc1) (.slice ma1 i mc1) (.slice la1 i lc1) (.slice ma1 i mc1) i (i + 1) i i S lb1 mb (ldJ es i j) (fun _ _ => 0) ks es kv ev tl F)
      case atStart => exact ⟨0, Nat.zero_le _, rfl, rfl, HR1.out⟩
      case round =>
        obtain ⟨j, hj, hgj, rfl, hR2⟩ := hrel
        have HGJ : Hid (gk = E - j) := hgj
        have HR2 := show Hid _ from hR2
        clear hgj hR2 HR1
        by_cases hlj : j < E
        · have hjd : decide (j < E) = true := decide_eq_true hlj
          have hj0 : (0 : Int) ≤ (j : Int) := by omega
          have hj1 : (j : Int) < (E : Int) := by omega
          have hje : j < (es.getD i []).length := by rw [← HE.out]; exact hlj
          obtain ⟨eb, eo, hea, c0, c1⟩ := (HEA.out wr HR2.out.pas.aut).cellAt (i := j) (by rw [elF_len]; exact hje)
          subst hea
          rw [(elF_at hje).2] at c0 c1
          obtain ⟨x, hx⟩ : ∃ x, x = (es.getD i []).getD j (0, 0) := ⟨_, rfl⟩
          have hxb := (HES.out i hik).2.2 x (by
            rw [hx]
            generalize es.getD i [] = l at hje ⊢
            rw [List.getD_eq_getElem?_getD, List.getElem?_eq_getElem hje]; exact List.getElem_mem hje)
          rw [← hx] at c0 c1
          obtain ⟨s, t⟩ := x
          simp only at c0 c1 hxb
          have hR3 := HR2.out.kept (World.grownBy_alloc wr (.cells #[.int .i64 (s : Int), .int .i64 (t : Int)] 115) none)
          have HR4 := show Hid _ from (hR3.putL (q := i) (by omega) s (t : Int)).extL (fun q _ u _ => ldJ_step hje hx.symm (HES.out i hik).2.1 q u)
          have d0 := (hR3.l.val i (by omega)).cell s hxb.1
          have d1 := (hR3.l.val i (by omega)).free s
          have hs0 : (0 : Int) ≤ (s : Int) := by omega
          have hs1 : (s : Int) < (S : Int) := by omega
          clear hx hje hxb hR3
          go_wp2_with fail
          go_roundg (E - (j + 1))
          case measure => have := HGJ.out; omega
          case rel => exact ⟨j + 1, by omega, rfl, by go_num, HR4.out⟩
        · have hjE : E = j := by omega
          subst hjE
          have hjd : decide (E < E) = false := decide_eq_false (by omega)
          have HR3 := show Hid _ from HR2.out.extL (ld' := fun q s => ldF (es.getD q []) s) (fun q _ s _ => by rw [HE.out]; exact ldJ_end es i q s)
          clear HR2
          obtain ⟨⟨_, _, y8, y9⟩, yf⟩ := HR3.out.cells
          have HL3 : Hid (wr.ownsRow w.heap.size 24 1 (.slice la1 i lc1) i (tabV lb1 S i)) := HR3.out.l.row
          have hsz := HR3.out.grown.size
          go_wp2_with (at_builtin; refine wpList_append_lies _ rfl (.tmp 71) (.tmp 73) 30 rfl w.heap.size 24 i1 (.slice none 0 0) 1 24 Tryz.underlying30 hq1 hu0 hu1 hu2 rfl (by decide) (.slice la1 i lc1) i (tabV lb1 S i) rfl (HL3.out.alloc _) ⟨wr.heap.size, 0, none⟩ 1 1 [.slice (some ⟨lb1 i, 0, none⟩) S S] rfl rfl (World.news_of_block (heap_alloc_last wr _)) (by simp [Value.oneCell']) (by decide) (by unfold maxLen; omega) (by omega) (by simp; omega) _ rfl ?_)
          intro g7 c7 V hoV hgV hat _
          have HR5 := show Hid _ from (HR3.out.kept (World.grownBy_alloc wr (.cells #[.slice (some ⟨lb1 i, 0, none⟩) S S] 24) none)).pushL hgV hoV (by rw [World.size_alloc]; exact hat)
          have hR6 := HR5.out.setL (.slice (some ⟨g7, 0, none⟩) (i + 1) c7)
          obtain ⟨⟨_, _, z8, _⟩, zf⟩ := HR5.out.cells
          have z8f := zf 8
          have HR6 := show Hid _ from hR6
          clear y8 y9 yf HL3 hoV hgV hat hR6 zf hsz HR3
          go_wp2_with fail
          clear HR5 z8 z8f
          generalize V.setCell ⟨ab, 8, none⟩ (.slice (some ⟨g7, 0, none⟩) (i + 1) c7) = X6 at HR6 ⊢
          obtain ⟨⟨-, -, -, z9⟩, -⟩ := HR6.out.cells
          have m9 : ∀ o, (X6.alloc o).cell? ⟨ab, 9, none⟩ = some (.slice ma1 i mc1) := fun o => (World.grownBy_alloc _ o none).cell z9 (by simp)
          have n9 : ∀ o o', ((X6.alloc o).alloc o').cell? ⟨ab, 9, none⟩ = some (.slice ma1 i mc1) := fun o o' => (World.grownBy_alloc _ o' none).cell (m9 o) (by simp)
          have HOW : Hid (∀ Y, X6.grownBy Y none → Y.ownsRow w.heap.size 24 1 (.slice ma1 i mc1) i (tabV mb S i)) := fun Y hY => keep0 HR6.out.m.row hY
          have HPS : Hid (∀ Y, X6.grownBy Y none → w.heap.size ≤ Y.heap.size) := fun Y hY => Nat.le_trans HR6.out.grown.size hY.size
          have HFIN : Hid (∀ (Y V7 : World) (g c : Nat), X6.grownBy Y none → ValAt Y X6.heap.size S 3 (fun _ => .int .i64 0) → Y.grownBy V7 (Value.slice ma1 i mc1).ownBlock → V7.ownsRow w.heap.size 24 1 (.slice (some ⟨g, 0, none⟩) (i + 1) c) (i + 1) (tabV mb S i ++ [.slice (some ⟨X6.heap.size, 0, none⟩) S S]) → ((Value.slice ma1 i mc1).ownBlock = some g ∨ g = Y.heap.size) → V7.cell? ⟨ab, 9, none⟩ = some (.slice ma1 i mc1) ∧ V7.frozen? ⟨ab, 9, none⟩ = false ∧ ∃ mb2, RlP w (V7.setCell ⟨ab, 9, none⟩ (.slice (some ⟨g, 0, none⟩) (i + 1) c)) ab w.heap.size (w.heap.size + 1) nb nn (.slice ta tn tc) (.slice na nn nc) (.slice la ln lc) (.int .i64 st) (.slice pa n pc) (.slice (some ⟨nb, 0, none⟩) nn nn) (.slice (some ⟨sb, 0, none⟩) N sc) (.slice xa T xc) (.slice (some ⟨g7, 0, none⟩) (i + 1) c7) (.slice (some ⟨g, 0, none⟩) (i + 1) c) (.slice (some ⟨g7, 0, none⟩) (i + 1) c7) (.slice (some ⟨g, 0, none⟩) (i + 1) c) (i + 1) (i + 1) (i + 1) (i + 1) S lb1 mb2 (fun q s => ldF (es.getD q []) s) (fun _ _ => 0) ks es kv ev tl F) := fun Y V7 g c hY hv hg ho hat => by
            have h1 := HR6.out.madeM (f := fun _ => 0) hY (Nat.le_refl _) hv
            have h2 := (h1.pushM (g := g) (c := c) hg (by rw [updL_same, tabV_congr (lb' := mb) i fun q hq => updL_other _ _ (by omega)]; exact ho) hat).extM (nm' := fun _ _ => 0) (fun q _ s _ => by
              unfold updL
              by_cases e : q = i
              · rw [if_pos e]
              · rw [if_neg e])
            obtain ⟨⟨-, -, -, h3⟩, h4⟩ := h2.cells
            exact ⟨h3, h4 9, _, h2.setM _⟩
          have hmk : ∀ u : World, (Instr.makeSlice 24 (.int .i64 (S : Int)) (.int .i64 (S : Int))).run Tryz.prog u = .ok (.slice (some ⟨u.heap.size, 0, none⟩) S S) (u.alloc (.cells (madeCells #[.int .i64 0] S) 3)) := fun u => mk_ints u hi0 hz0 hz1 hz2 hSb
          have HVA : Hid (∀ Y : World, Y.heap[X6.heap.size]? = some (.cells (madeCells #[.int .i64 0] S) 3 (0, 0)) → ValAt Y X6.heap.size S 3 (fun _ => .int .i64 0)) := fun Y h => mk_val h
          clear HR6
          go_region_law (first
            | (refine step_append_liesW _ rfl (.tmp 77) (.tmp 80) 30 rfl w.heap.size 24 i1 (.slice none 0 0) 1 24 Tryz.underlying30 hq1 hu0 hu1 hu2 rfl (by decide) (.slice ma1 i mc1) i (tabV mb S i) (by simp [Act.eval]) (HOW.out _ (grown_trans (World.grownBy_alloc _ _ none) (grown_trans (World.grownBy_alloc _ _ none) (grown_drewN _ _)))) ⟨X6.heap.size + 1, 0, none⟩ 1 1 [.slice (some ⟨X6.heap.size, 0, none⟩) S S] (by simp [Act.eval]) rfl (World.news_of_block (u_second _ _ _ _)) (by simp [Value.oneCell']) (by decide) (by unfold maxLen; omega) (by omega) (HPS.out _ (grown_trans (World.grownBy_alloc _ _ none) (grown_trans (World.grownBy_alloc _ _ none) (grown_drewN _ _)))) ?_; intro g9 c9 wB hoB hgB hat; obtain ⟨q1, q2, q3⟩ := HFIN.out _ wB g9 c9 (grown_trans (World.grownBy_alloc _ _ none) (grown_trans (World.grownBy_alloc _ _ none) (grown_drewN _ _))) (HVA.out _ (u_first _ _ _ _)) hgB hoB hat; have HQ1 := show Hid _ from q3; clear q3 hoB hgB hat)
            | fail)
          all_goals go_wp2_with fail
          all_goals go_roundg (N - (i + 1))
          all_goals first
            | exact (show ∃ (i' lc1' mc1' : Nat) (la1' ma1' : Option Addr) (lb' mb' : Nat → Nat), _ from (by obtain ⟨mb2, h9⟩ := HQ1.out; exact ⟨i + 1, _, _, _, _, lb1, mb2, by omega, rfl, by go_num, h9⟩))
            | (have := HGI.out; omega)
    · have hiN : N = i := by omega
      subst hiN
      have hid : decide (N < N) = false := decide_eq_false (by omega)
      obtain ⟨⟨-, y7, -, -⟩, -⟩ := HR.out.cells
      go_wp2_with fail
      clear y7
      have HR7 := show Hid _ from HR.out.extM (nm' := fun q s => nmF (tl.take 0) q s) (fun q _ s _ => by rw [List.take_zero]; exact (nmF_nil q s).symm)
      clear HR
      go_loopg [87] T (fun gk v87 wr => ∃ (k : Nat), k ≤ T ∧ gk = T - k ∧ v87 = .int .i64 k ∧ RlP w wr ab w.heap.size (w.heap.size + 1) nb nn (.slice ta tn tc) (.slice na nn nc) (.slice la ln lc) (.int .i64 st) (.slice pa n pc) (.slice (some ⟨nb, 0, none⟩) nn nn) (.slice sa N sc) (.slice xa T xc) (.slice la1 N lc1) (.slice ma1 N mc1) (.slice la1 N lc1) (.slice ma1 N mc1) N N N N S lb mb (fun q s => ldF (es.getD q []) s) (fun q s => nmF (tl.take k) q s) ks es kv ev tl F)
      case atStart => exact ⟨0, Nat.zero_le _, rfl, rfl, HR7.out⟩
      case round =>
        obtain ⟨k, hk, hgk, rfl, hR8⟩ := hrel
        have HGK : Hid (gk = T - k) := hgk
        have HR8 := show Hid _ from hR8
        clear hgk hR8 HR7
        generalize wr = Y at *
        by_cases hlk : k < T
        · have hkd : decide (k < T) = true := decide_eq_true hlk
          have hk0 : (0 : Int) ≤ (k : Int) := by omega
          have hk1 : (k : Int) < (T : Int) := by omega
          have hkt : k < tl.length := by rw [← HT.out]; exact hlk
          have hTR := HR8.out.pas.trs
          rw [HT.out] at hTR
          obtain ⟨xb, xo, hxa, c0, c1⟩ := (ItsAt.ofT hTR).cellAt hkt
          subst hxa
          obtain ⟨q, s, hqs, hqN, hsS⟩ := HTB.out (tl.getD k (0, 0)) (by
            rw [List.getD_eq_getElem?_getD, List.getElem?_eq_getElem hkt]; exact List.getElem_mem hkt)
          rw [hqs] at c0 c1
          rw [← HN.out] at hqN
          have HTK : Hid (tl.take (k + 1) = tl.take k ++ [((q : Int), (s : Int))] ∧ ((q : Int), (s : Int)) ∉ tl.take k ∧ (tl.take k).length = k) := by
            have e1 : tl.take (k + 1) = tl.take k ++ [((q : Int), (s : Int))] := by
              rw [List.take_succ_eq_append_getElem hkt]
              rw [List.getD_eq_getElem?_getD, List.getElem?_eq_getElem hkt] at hqs
              exact congrArg _ (congrArg (fun y => [y]) hqs)
            refine ⟨e1, ?_, List.length_take_of_le (by omega)⟩
            have h2 : (tl.take (k + 1)).Nodup := List.Nodup.sublist (List.take_sublist _ _) HTN.out
            rw [e1, List.nodup_append] at h2
            intro h3
            exact h2.2.2 _ h3 _ (by simp) rfl
          have HRT : Hid (∀ u, Y.grownBy u none → RlP w u ab w.heap.size (w.heap.size + 1) nb nn (.slice ta tn tc) (.slice na nn nc) (.slice la ln lc) (.int .i64 st) (.slice pa n pc) (.slice (some ⟨nb, 0, none⟩) nn nn) (.slice sa N sc) (.slice (some ⟨xb, xo, none⟩) T xc) (.slice la1 N lc1) (.slice ma1 N mc1) (.slice la1 N lc1) (.slice ma1 N mc1) N N N N S lb mb (fun q s => ldF (es.getD q []) s) (fun q s => nmF (tl.take k) q s) ks es kv ev tl F) := fun u hu => HR8.out.kept hu
          obtain ⟨g, c, hmv, d0, d1⟩ := HR8.out.m.at hqN
          simp only [Value.slice.injEq, true_and] at hmv
          obtain ⟨rfl, rfl⟩ := hmv
          have hq0 : (0 : Int) ≤ (q : Int) := by omega
          have hq1' : (q : Int) < (N : Int) := by omega
          have hs0 : (0 : Int) ≤ (s : Int) := by omega
          have hs1 : (s : Int) < (S : Int) := by omega
          clear hTR hqs
          go_wp2_with fail
          obtain ⟨X9, hX9⟩ : ∃ X, X = Y.alloc (.cells #[.int .i64 (q : Int), .int .i64 (s : Int)] 53) := ⟨_, rfl⟩
          have hg9 : Y.grownBy X9 none := by rw [hX9]; exact World.grownBy_alloc _ _ none
          have t0 : X9.cell? ⟨Y.heap.size, 0, none⟩ = some (.int .i64 (q : Int)) := by rw [hX9, cell_of_row _ _ _ _ _ _ (heap_alloc_last Y _)]; rfl
          have t1 : X9.cell? ⟨Y.heap.size, 1, none⟩ = some (.int .i64 (s : Int)) := by rw [hX9, cell_of_row _ _ _ _ _ _ (heap_alloc_last Y _)]; rfl
          have t2 : X9.cell? ⟨ab, 9, none⟩ = some (.slice (some ⟨g, 0, none⟩) N mc1) := (HRT.out X9 hg9).cells.1.2.2.2
          have t3 : X9.cell? ⟨g, q, none⟩ = some (.slice (some ⟨mb q, 0, none⟩) S S) := hg9.cell d0 (by simp)
          have t4 : X9.cell? ⟨mb q, s, none⟩ = some (.int .i64 (nmF (tl.take k) q s)) := hg9.cell (d1 s hsS) (by simp)
          have t5 : X9.frozen? ⟨mb q, s, none⟩ = false := ((HRT.out X9 hg9).m.val q hqN).free s
          have HFIN : Hid (∀ u, X9.grownBy u none → RlP w (u.setCell ⟨mb q, s, none⟩ (.int .i64 (k : Int))) ab w.heap.size (w.heap.size + 1) nb nn (.slice ta tn tc) (.slice na nn nc) (.slice la ln lc) (.int .i64 st) (.slice pa n pc) (.slice (some ⟨nb, 0, none⟩) nn nn) (.slice sa N sc) (.slice (some ⟨xb, xo, none⟩) T xc) (.slice la1 N lc1) (.slice (some ⟨g, 0, none⟩) N mc1) (.slice la1 N lc1) (.slice (some ⟨g, 0, none⟩) N mc1) N N N N S lb mb (fun q s => ldF (es.getD q []) s) (fun q s => nmF (tl.take (k + 1)) q s) ks es kv ev tl F) := fun u hu => ((HRT.out u (grown_trans hg9 hu)).putM hqN s (k : Int)).extM (fun q' _ s' _ => by
            obtain ⟨e1, e2, e3⟩ := HTK.out
            rw [e1, nmF_snoc e2, e3]
            unfold updL
            by_cases e : q' = q
            · subst e
              rw [if_pos rfl]
              by_cases e4 : s' = s
              · subst e4
                rw [if_pos rfl, if_pos rfl]
              · rw [if_neg e4, if_neg (by simp only [Prod.mk.injEq]; omega)]
            · rw [if_neg e, if_neg (by simp only [Prod.mk.injEq]; omega)])
          have HKS : Hid ((X9.setCell ⟨mb q, s, none⟩ (.int .i64 (k : Int))).cell? ⟨Y.heap.size, 0, none⟩ = some (.int .i64 (q : Int)) ∧ (X9.setCell ⟨mb q, s, none⟩ (.int .i64 (k : Int))).cell? ⟨Y.heap.size, 1, none⟩ = some (.int .i64 (s : Int)) ∧ (X9.setCell ⟨mb q, s, none⟩ (.int .i64 (k : Int))).cell? ⟨ab, 9, none⟩ = some (.slice (some ⟨g, 0, none⟩) N mc1) ∧ (X9.setCell ⟨mb q, s, none⟩ (.int .i64 (k : Int))).cell? ⟨g, q, none⟩ = some (.slice (some ⟨mb q, 0, none⟩) S S)) := by
            have hgs : X9.grownBy (X9.setCell ⟨mb q, s, none⟩ (.int .i64 (k : Int))) (some (mb q)) := grown_setCell _ _ _
            have hv := (HRT.out X9 hg9).m.val q hqN
            have n1 : Y.heap.size ≠ mb q := by
              have := (HR8.out.m.val q hqN).lt
              omega
            have n2 : ab ≠ mb q := fun e => by
              have h := (HRT.out X9 hg9).box
              unfold ValAt at hv
              rw [e, hv] at h
              simp only [Option.some.injEq, Obj.cells.injEq] at h
              exact absurd h.2.1 (by decide)
            have n3 : g ≠ mb q := fun e => by
              rcases owns_nebox (HRT.out X9 hg9).m.row hv (by decide) with h | h
              · cases h
              · exact h (by rw [← e]; rfl)
            exact ⟨hgs.cell t0 (by simp [n1]), hgs.cell t1 (by simp [n1]), hgs.cell t2 (by simp [n2]), hgs.cell t3 (by simp [n3])⟩
          rw [← hX9]
          clear hX9 hg9 HRT d0 d1 c0 c1 HR8 HTK
          go_region_held3 (fun x => x.cell? ⟨Y.heap.size, 0, none⟩ = some (.int .i64 (q : Int)) ∧ x.cell? ⟨Y.heap.size, 1, none⟩ = some (.int .i64 (s : Int)) ∧ x.cell? ⟨ab, 9, none⟩ = some (.slice (some ⟨g, 0, none⟩) N mc1) ∧ x.cell? ⟨g, q, none⟩ = some (.slice (some ⟨mb q, 0, none⟩) S S)) (first | exact HKS.out | go_keep) (fail)
          all_goals go_wp2_with fail
          all_goals go_roundg (T - (k + 1))
          all_goals first
            | exact (show ∃ (k' : Nat), _ from ⟨k + 1, by omega, rfl, by go_num, HFIN.out _ (grown_drewN _ _)⟩)
            | (have := HGK.out; omega)
        · have hkT : T = k := by omega
          subst hkT
          have hkd : decide (T < T) = false := decide_eq_false (by omega)
          have HTA : Hid (tl.take T = tl) := by show _ = _; rw [HT.out]; exact List.take_length
          rw [HTA.out] at HR8
          have kc := fun j => cell_of_row _ ab j _ _ _ HR8.out.box
          obtain ⟨k0, k1, k2, k3, k4, k5, k6, k7, k8, k9⟩ : _ ∧ _ ∧ _ ∧ _ ∧ _ ∧ _ ∧ _ ∧ _ ∧ _ ∧ _ := ⟨kc 0, kc 1, kc 2, kc 3, kc 4, kc 5, kc 6, kc 7, kc 8, kc 9⟩
          have qc := fun j => cell_of_row _ (w.heap.size + 1) j _ _ _ HR8.out.pas.res
          obtain ⟨q0, q1, q2, q3, q4, q5, q6, q7, q8, q9⟩ : _ ∧ _ ∧ _ ∧ _ ∧ _ ∧ _ ∧ _ ∧ _ ∧ _ ∧ _ := ⟨qc 0, qc 1, qc 2, qc 3, qc 4, qc 5, qc 6, qc 7, qc 8, qc 9⟩
          have qf := fun j => frozen_of_row _ (w.heap.size + 1) j _ _ HR8.out.pas.res
          simp only [List.getElem?_toArray, List.getElem?_cons_zero, List.getElem?_cons_succ] at k0 k1 k2 k3 k4 k5 k6 k7 k8 k9 q0 q1 q2 q3 q4 q5 q6 q7 q8 q9
          clear kc qc
          go_wp2_with fail
          refine bodyPost_ret (v := .tuple #[.agg #[.slice ta tn tc, .slice na nn nc, .slice la ln lc, .int .i64 st, .slice pa n pc, .slice (some ⟨nb, 0, none⟩) nn nn, .slice sa N sc, .slice xa T xc, .slice la1 N lc1, .slice ma1 N mc1], .int .i64 0]) ?_ rfl ?_
          · exact results_uof _ _ (w.heap.size + 1) _ _ rfl rfl (set10_heap HR8.out.pas.res _ _ _ _ _ _ _ _ _ _) rfl
          · have hgs := set10_grown Y (w.heap.size + 1) (.slice ta tn tc) (.slice na nn nc) (.slice la ln lc) (.int .i64 st) (.slice pa n pc) (.slice (some ⟨nb, 0, none⟩) nn nn) (.slice sa N sc) (.slice xa T xc) (.slice la1 N lc1) (.slice ma1 N mc1)
            have hk : KeepA (w.heap.size + 1) Y _ := KeepA.box HR8.out.pas.res hgs
            have hP := HR8.out.pas
            have hl := HR8.out.l.boxed HR8.out.pas.res (by decide) (by decide) hgs
            have hm := HR8.out.m.boxed HR8.out.pas.res (by decide) (by decide) hgs
            have hau : AutP w.heap.size _ (.slice sa N sc) ks (elF es) kv ev := ⟨hk.owns hP.aut.row (by decide) (by decide) (by decide), fun i hi => hk.owns (hP.aut.ker i hi) (by decide) (by decide) (by decide), fun i hi => hk.owns (hP.aut.edg i hi) (by decide) (by decide) (by decide)⟩
            have htr := hk.owns hP.trs (by decide) (by decide) (by decide)
            have hnu := hk _ _ _ hP.nul (by decide) (by decide) (fun e => absurd e (by decide))
            have hgf := grown_new HR8.out.grown hgs (by omega)
            have eN := HN.out
            have eT := HT.out
            have eS := HSE.out
            clear HN HT HSE
            subst eN
            subst eT
            subst eS
            exact ⟨nb, sa, xa, la1, ma1, sc, xc, lc1, mc1, kv, ev, lb, mb, rfl, ⟨hau, htr, hnu, hl, hm⟩, hgf⟩
end

end Go.Proofs.YthoamlahbnphkaaGreat.J

/-
  relate: isTerm, vanishes.
-/
namespace Go.Proofs.YthoamlahbnphkaaGreat.J
open Go.RowKit Go.Maps Go.Shelf

attribute [local go_sem] Oper.semAt_some

theorem RaAt.kept {B : Nat} {X Y : World} {nb nn S : Nat} {sv tv lv mv : Value} {ks : List (List It)} {es : List (List (Nat × Nat))} {kv ev : Nat → Value} {tl : List It} {F : Nat → Bool} {lb mb : Nat → Nat} (h : RaAt B X nb nn S sv tv lv mv ks es kv ev tl F lb mb) (hg : X.grownBy Y none) : RaAt B Y nb nn S sv tv lv mv ks es kv ev tl F lb mb :=
  ⟨h.aut.kept hg, keep0 h.trs hg, h.nul.kept hg, h.l.kept hg, h.m.kept hg⟩

section
variable (ta na la pa sa xa l1 m1 : Option Addr) (tc nc lc pc sc xc lc1 mc1 : Nat) (n N T nb : Nat) (st : Int) (w : World) (tn nn ln : Nat)

theorem uisTerm_any (s : Int) (b : Bool) (hb : b = decide (s < (tn : Int))) : Calls Tryz.prog 61 #[.agg #[.slice ta tn tc, .slice na nn nc, .slice la ln lc, .int .i64 st, .slice pa n pc, .slice (some ⟨nb, 0, none⟩) nn nn, .slice sa N sc, .slice xa T xc, .slice l1 N lc1, .slice m1 N mc1], .int .i64 s] w fun e y => e = .returned (.bool b) ∧ w.grownBy y none := by
  have HG0 : Hid (w.grownBy (w.alloc (.cells #[.slice ta tn tc, .slice na nn nc, .slice la ln lc, .int .i64 st, .slice pa n pc, .slice (some ⟨nb, 0, none⟩) nn nn, .slice sa N sc, .slice xa T xc, .slice l1 N lc1, .slice m1 N mc1] 81)) none) := World.grownBy_alloc _ _ none
  subst hb
  go_enter Tryz.func61, Tryz.ntmps61
  go_wp2_with fail
  go_ret
  exact ⟨rfl, HG0.out⟩

set_option maxRecDepth 100000 in
theorem uvan_any (F : Nat → Bool) (hR : ValAt w nb nn 4 (fun i => .bool (F i))) (hnn : nn ≤ 65) (s : Nat) (hs : s < tn + nn) (b : Bool) (hb : b = (decide (tn ≤ s) && F (s - tn))) : Calls Tryz.prog 58 #[.agg #[.slice ta tn tc, .slice na nn nc, .slice la ln lc, .int .i64 st, .slice pa n pc, .slice (some ⟨nb, 0, none⟩) nn nn, .slice sa N sc, .slice xa T xc, .slice l1 N lc1, .slice m1 N mc1], .int .i64 (s : Int)] w fun e y => e = .returned (.bool b) ∧ w.grownBy y none := by
  have HX0 : Hid ((w.alloc (.cells #[.slice ta tn tc, .slice na nn nc, .slice la ln lc, .int .i64 st, .slice pa n pc, .slice (some ⟨nb, 0, none⟩) nn nn, .slice sa N sc, .slice xa T xc, .slice l1 N lc1, .slice m1 N mc1] 81)).heap[w.heap.size]? = some (.cells #[.slice ta tn tc, .slice na nn nc, .slice la ln lc, .int .i64 st, .slice pa n pc, .slice (some ⟨nb, 0, none⟩) nn nn, .slice sa N sc, .slice xa T xc, .slice l1 N lc1, .slice m1 N mc1] 81 (0, 0))) := heap_alloc_last w _
  have HG0 : Hid (w.grownBy (w.alloc (.cells #[.slice ta tn tc, .slice na nn nc, .slice la ln lc, .int .i64 st, .slice pa n pc, .slice (some ⟨nb, 0, none⟩) nn nn, .slice sa N sc, .slice xa T xc, .slice l1 N lc1, .slice m1 N mc1] 81)) none) := World.grownBy_alloc _ _ none
  have HIT : Hid (∀ X, Calls Tryz.prog 61 #[.agg #[.slice ta tn tc, .slice na nn nc, .slice la ln lc, .int .i64 st, .slice pa n pc, .slice (some ⟨nb, 0, none⟩) nn nn, .slice sa N sc, .slice xa T xc, .slice l1 N lc1, .slice m1 N mc1], .int .i64 (s : Int)] X fun e y => e = .returned (.bool (decide (s < tn))) ∧ X.grownBy y none) := fun X => uisTerm_any ta na la pa sa xa l1 m1 tc nc lc pc sc xc lc1 mc1 n N T nb st X tn nn ln (s : Int) (decide (s < tn)) (by simp)
  have HV : Hid (ValAt w nb nn 4 (fun i => .bool (F i))) := hR
  have HB := show Hid _ from hb
  clear hR hb
  by_cases h : s < tn
  · have hd : decide (s < tn) = true := decide_eq_true h
    rw [hd] at HIT
    have HBB : Hid (b = false) := by show _ = _; rw [HB.out, decide_eq_false (by omega)]; rfl
    go_enter Tryz.func58, Tryz.ntmps58
    go_wp2_with fail
    refine Calls.mono (HIT.out _) ?_
    rintro e w1 ⟨rfl, hg1⟩
    have HG1 : Hid (w.grownBy w1 none) := grown_trans HG0.out hg1
    clear hg1 HX0
    go_wp2_with fail
    go_ret
    exact ⟨by rw [HBB.out]; rfl, HG1.out⟩
  · have hd : decide (s < tn) = false := decide_eq_false h
    rw [hd] at HIT
    obtain ⟨k, hk⟩ : ∃ k, k = s - tn := ⟨_, rfl⟩
    have hsk : (s : Int) - (tn : Int) = (k : Int) := by omega
    have hk0 : (0 : Int) ≤ (k : Int) := by omega
    have hk1 : (k : Int) < (nn : Int) := by omega
    have HBB : Hid (b = F k) := by show _ = _; rw [HB.out, decide_eq_true (by omega), hk]; rfl
    clear hk
    go_enter Tryz.func58, Tryz.ntmps58
    go_wp2_with fail
    refine Calls.mono (HIT.out _) ?_
    rintro e w1 ⟨rfl, hg1⟩
    have HG1 : Hid (w.grownBy w1 none) := grown_trans HG0.out hg1
    have hbx := box_kept HX0.out hg1
    have c5 : w1.cell? ⟨w.heap.size, 5, none⟩ = some (.slice (some ⟨nb, 0, none⟩) nn nn) := by rw [cell_of_row _ _ _ _ _ _ hbx]; rfl
    have c0 : w1.cell? ⟨w.heap.size, 0, none⟩ = some (.slice ta tn tc) := by rw [cell_of_row _ _ _ _ _ _ hbx]; rfl
    have cv : w1.cell? ⟨nb, k, none⟩ = some (.bool (F k)) := (HV.out.kept HG1.out).cell k (by omega)
    clear hg1 HX0 hbx
    go_wp2_with fail
    go_ret
    exact ⟨by rw [HBB.out]; rfl, HG1.out⟩
end

end Go.Proofs.YthoamlahbnphkaaGreat.J

/-
  relate: through.
-/
namespace Go.Proofs.YthoamlahbnphkaaGreat.J
open Go.RowKit Go.Maps Go.Shelf

attribute [local go_sem] Oper.semAt_some

/-- The states through which a row leads. -/
def stF (es : List (List (Nat × Nat))) (q : Nat) (row : List Int) : Nat → Nat
  | 0 => q
  | i + 1 => (ldF (es.getD (stF es q row i) []) (row.getD i 0).toNat).toNat
theorem ldF_range {l : List (Nat × Nat)} {N : Nat} (hN : 0 < N) (h : ∀ x ∈ l, x.2 < N) (s : Nat) : 0 ≤ ldF l s ∧ ldF l s < (N : Int) := by
  unfold ldF nextL
  cases hf : l.find? fun x => decide ((x.1 : Int) = (s : Int)) with
  | none => exact ⟨Int.le_refl _, by show (0 : Int) < _; omega⟩
  | some x =>
    have h1 := h x (List.mem_of_find?_eq_some hf)
    show 0 ≤ (x.2 : Int) ∧ (x.2 : Int) < (N : Int)
    omega
theorem stF_lt {es : List (List (Nat × Nat))} {q N : Nat} {row : List Int} (hq : q < N) (h : ∀ r, r < N → ∀ x ∈ es.getD r [], x.2 < N) : ∀ i, stF es q row i < N
  | 0 => hq
  | i + 1 => by
    have h1 := ldF_range (l := es.getD (stF es q row i) []) (by omega) (h _ (stF_lt hq h i)) (row.getD i 0).toNat
    unfold stF
    omega
/-- The states, once i symbols have been gone over; 0 behind. -/
def stT (es : List (List (Nat × Nat))) (q : Nat) (row : List Int) (k i : Nat) : Int := if i ≤ k then (stF es q row i : Int) else 0

section
variable (ta na la pa sa xa l1 m1 : Option Addr) (tc nc lc pc sc xc lc1 mc1 : Nat) (n N T nb : Nat) (st : Int) (w : World) (tn nn ln : Nat)

set_option maxRecDepth 100000 in
set_option maxHeartbeats 2000000 in
theorem uthr_any (B S : Nat) (es : List (List (Nat × Nat))) (lb : Nat → Nat) (hT : TbP B w (.slice l1 N lc1) N N S lb (fun q s => ldF (es.getD q []) s)) (hes : ∀ r, r < N → ∀ x ∈ es.getD r [], x.2 < N) (q : Nat) (hq : q < N) (hN : N ≤ 256) (a : Option Addr) (c : Nat) (row : List Int) (hrow : IntsAt w a row) (hlen : row.length ≤ 1000000) (hr : ∀ x ∈ row, 0 ≤ x ∧ x < (S : Int)) :
    Calls Tryz.prog 91 #[.agg #[.slice ta tn tc, .slice na nn nc, .slice la ln lc, .int .i64 st, .slice pa n pc, .slice (some ⟨nb, 0, none⟩) nn nn, .slice sa N sc, .slice xa T xc, .slice l1 N lc1, .slice m1 N mc1], .int .i64 (q : Int), .slice a row.length c] w fun e y => ∃ k, e = .returned (.slice (some ⟨k, 0, none⟩) (row.length + 1) (row.length + 1)) ∧ w.heap.size ≤ k ∧ ValAt y k (row.length + 1) 3 (fun i => .int .i64 (stF es q row i : Int)) ∧ w.grownBy y none := by
  have HT : Hid (∀ X, w.grownBy X none → TbP B X (.slice l1 N lc1) N N S lb (fun q s => ldF (es.getD q []) s)) := fun X hX => hT.kept hX
  have HRW : Hid (∀ X, w.grownBy X none → IntsAt X a row) := fun X hX => hrow.kept hX
  have HRR := show Hid _ from hr
  have HLT : Hid (∀ i, stF es q row i < N) := stF_lt hq hes
  have HRG : Hid (∀ r, r < N → ∀ s, 0 ≤ ldF (es.getD r []) s) := fun r hr s => (ldF_range (by omega) (hes r hr) s).1
  have HX0 : Hid ((w.alloc (.cells #[.slice ta tn tc, .slice na nn nc, .slice la ln lc, .int .i64 st, .slice pa n pc, .slice (some ⟨nb, 0, none⟩) nn nn, .slice sa N sc, .slice xa T xc, .slice l1 N lc1, .slice m1 N mc1] 81)).heap[w.heap.size]? = some (.cells #[.slice ta tn tc, .slice na nn nc, .slice la ln lc, .int .i64 st, .slice pa n pc, .slice (some ⟨nb, 0, none⟩) nn nn, .slice sa N sc, .slice xa T xc, .slice l1 N lc1, .slice m1 N mc1] 81 (0, 0))) := heap_alloc_last w _
  obtain ⟨m, hm⟩ : ∃ m, m = row.length := ⟨_, rfl⟩
  have HM : Hid (m = row.length) := hm
  rw [← hm] at hlen ⊢
  obtain ⟨i0, hi0, hz0, hz1, hz2⟩ := info_parts infoInt
  have hw1 : (1 : Int) + (m : Int) = ((m + 1 : Nat) : Int) := by omega
  clear hT hrow hr hes hm
  go_enter Tryz.func91, Tryz.ntmps91
  go_wp2_with (at_make; refine wpList_make_full _ rfl _ _ 24 rfl w.heap.size 3 i0 (.int .i64 0) 1 Tryz.underlying24 hi0 hz0 hz1 .i64 .i64 _ _ (m + 1) rfl rfl (by omega) (by omega) (by rw [hz2]; omega) (by unfold maxLen; omega) (by simp) ?_)
  intro W1 hown hgrow
  have hval : ValAt W1 (w.heap.size + 1) (m + 1) 3 (fun _ => .int .i64 0) := made_rowK (B := w.heap.size) rfl (by simpa [Value.cells] using hown)
  have HB1 : Hid (W1.heap[w.heap.size]? = some (.cells #[.slice ta tn tc, .slice na nn nc, .slice la ln lc, .int .i64 st, .slice pa n pc, .slice (some ⟨nb, 0, none⟩) nn nn, .slice sa N sc, .slice xa T xc, .slice l1 N lc1, .slice m1 N mc1] 81 (0, 0))) := box_kept HX0.out hgrow
  have HG1 : Hid (w.grownBy W1 none) := grown_trans (World.grownBy_alloc _ _ none) hgrow
  have v0 := hval.cell 0 (by omega)
  have v1 := hval.free 0
  have HV1 : Hid (ValAt (W1.setCell ⟨w.heap.size + 1, 0, none⟩ (.int .i64 (q : Int))) (w.heap.size + 1) (m + 1) 3 (fun i => .int .i64 (stT es q row 0 i))) := (hval.set 0 (.int .i64 (q : Int))).ext fun i _ => by
    unfold put stT
    by_cases e : i = 0
    · subst e; rfl
    · simp only [if_neg e]; rw [if_neg (by omega)]
  have HB2 : Hid ((W1.setCell ⟨w.heap.size + 1, 0, none⟩ (.int .i64 (q : Int))).heap[w.heap.size]? = some (.cells #[.slice ta tn tc, .slice na nn nc, .slice la ln lc, .int .i64 st, .slice pa n pc, .slice (some ⟨nb, 0, none⟩) nn nn, .slice sa N sc, .slice xa T xc, .slice l1 N lc1, .slice m1 N mc1] 81 (0, 0))) := ((grown_setCell (w := W1) (w.heap.size + 1) 0 (.int .i64 (q : Int))).block _ (Array.getElem?_eq_some_iff.1 HB1.out).1 (by simp)).trans HB1.out
  have HG2 : Hid (w.grownBy (W1.setCell ⟨w.heap.size + 1, 0, none⟩ (.int .i64 (q : Int))) none) := grown_new HG1.out (grown_setCell (w.heap.size + 1) 0 (.int .i64 (q : Int))) (by omega)
  clear hown hgrow hval HX0 HG1 HB1
  go_wp2_with fail
  generalize W1.setCell ⟨w.heap.size + 1, 0, none⟩ (.int .i64 (q : Int)) = W2 at HV1 HB2 HG2 ⊢
  clear v0 v1
  go_loopg [19] m (fun gk v19 wr => ∃ (j : Nat), j ≤ m ∧ gk = m - j ∧ v19 = .int .i64 j ∧ w.grownBy wr none ∧ wr.heap[w.heap.size]? = some (.cells #[.slice ta tn tc, .slice na nn nc, .slice la ln lc, .int .i64 st, .slice pa n pc, .slice (some ⟨nb, 0, none⟩) nn nn, .slice sa N sc, .slice xa T xc, .slice l1 N lc1, .slice m1 N mc1] 81 (0, 0)) ∧ ValAt wr (w.heap.size + 1) (m + 1) 3 (fun i => .int .i64 (stT es q row j i)))
  case atStart => exact ⟨0, Nat.zero_le _, rfl, rfl, HG2.out, HB2.out, HV1.out⟩
  case round =>
    obtain ⟨j, hj, hgj, rfl, hg, hb, hv⟩ := hrel
    have HGJ : Hid (gk = m - j) := hgj
    have HG : Hid (w.grownBy wr none) := hg
    have HB : Hid (wr.heap[w.heap.size]? = some (.cells #[.slice ta tn tc, .slice na nn nc, .slice la ln lc, .int .i64 st, .slice pa n pc, .slice (some ⟨nb, 0, none⟩) nn nn, .slice sa N sc, .slice xa T xc, .slice l1 N lc1, .slice m1 N mc1] 81 (0, 0))) := hb
    have HV : Hid (ValAt wr (w.heap.size + 1) (m + 1) 3 (fun i => .int .i64 (stT es q row j i))) := hv
    clear hgj hg hb hv HG2 HB2 HV1
    generalize wr = Y at *
    by_cases hlt : j < m
    · have hjd : decide (j < m) = true := decide_eq_true hlt
      have hj0 : (0 : Int) ≤ (j : Int) := by omega
      have hj1 : (j : Int) < (m : Int) := by omega
      have hjl : j < row.length := by rw [← HM.out]; exact hlt
      obtain ⟨s, hs⟩ : ∃ s : Nat, row.getD j 0 = (s : Int) := by
        have h := HRR.out (row.getD j 0) (by rw [List.getD_eq_getElem?_getD, List.getElem?_eq_getElem hjl]; exact List.getElem_mem hjl)
        exact ⟨(row.getD j 0).toNat, by omega⟩
      have hsS : s < S := by
        have h := HRR.out (row.getD j 0) (by rw [List.getD_eq_getElem?_getD, List.getElem?_eq_getElem hjl]; exact List.getElem_mem hjl)
        omega
      obtain ⟨ib, io, rfl, r0⟩ : ∃ ib io, a = some ⟨ib, io, none⟩ ∧ Y.cell? ⟨ib, io + j, none⟩ = some (.int .i64 (s : Int)) := by
        rcases HRW.out Y HG.out with h | ⟨ib, io, e, h⟩
        · rw [h] at hjl; exact absurd hjl (by simp)
        · exact ⟨ib, io, e, by rw [← hs]; exact h j hjl⟩
      obtain ⟨p, hp⟩ : ∃ p, p = stF es q row j := ⟨_, rfl⟩
      have hpN : p < N := by rw [hp]; exact HLT.out j
      obtain ⟨g, c', hlv, d0, d1⟩ := (HT.out Y HG.out).at hpN
      simp only [Value.slice.injEq, true_and] at hlv
      obtain ⟨rfl, rfl⟩ := hlv
      have HST : Hid (ldF (es.getD p []) s = (stF es q row (j + 1) : Int)) := by
        show _ = _
        have h := HRG.out p hpN s
        rw [stF, ← hp, hs, Int.toNat_natCast]
        omega
      have d2 := d1 s hsS
      simp only [HST.out] at d2
      obtain ⟨t, ht⟩ : ∃ t, t = stF es q row (j + 1) := ⟨_, rfl⟩
      rw [← ht] at d2
      have c8 : Y.cell? ⟨w.heap.size, 8, none⟩ = some (.slice (some ⟨g, 0, none⟩) N lc1) := by rw [cell_of_row _ _ _ _ _ _ HB.out]; rfl
      have v0 : Y.cell? ⟨w.heap.size + 1, j, none⟩ = some (.int .i64 (p : Int)) := by
        have h := HV.out.cell j (by omega)
        rw [stT, if_pos (Nat.le_refl _), ← hp] at h
        exact h
      have v1 := HV.out.cell (j + 1) (by omega)
      have v2 := HV.out.free (j + 1)
      have hgs : Y.grownBy (Y.setCell ⟨w.heap.size + 1, j + 1, none⟩ (.int .i64 (t : Int))) (some (w.heap.size + 1)) := grown_setCell _ _ _
      have HKS : Hid ((Y.setCell ⟨w.heap.size + 1, j + 1, none⟩ (.int .i64 (t : Int))).cell? ⟨w.heap.size, 8, none⟩ = some (.slice (some ⟨g, 0, none⟩) N lc1) ∧ (Y.setCell ⟨w.heap.size + 1, j + 1, none⟩ (.int .i64 (t : Int))).cell? ⟨w.heap.size + 1, j, none⟩ = some (.int .i64 (p : Int)) ∧ (Y.setCell ⟨w.heap.size + 1, j + 1, none⟩ (.int .i64 (t : Int))).cell? ⟨g, p, none⟩ = some (.slice (some ⟨lb p, 0, none⟩) S S) ∧ (Y.setCell ⟨w.heap.size + 1, j + 1, none⟩ (.int .i64 (t : Int))).cell? ⟨lb p, s, none⟩ = some (.int .i64 (t : Int))) := by
        have n1 : lb p ≠ w.heap.size + 1 := by
          have := ((HT.out w (grown_refl _ _)).val p hpN).lt
          omega
        have n2 : g ≠ w.heap.size + 1 := by
          have := ((HT.out w (grown_refl _ _)).row.lt g rfl).2
          omega
        refine ⟨hgs.cell c8 (by simp), ?_, hgs.cell d0 (by simp [n2]), hgs.cell d2 (by simp [n1])⟩
        have h := (HV.out.set (j + 1) (.int .i64 (t : Int))).cell j (by omega)
        unfold put at h
        rw [if_neg (by omega)] at h
        have h2 : stT es q row j j = (p : Int) := by rw [stT, if_pos (Nat.le_refl _), ← hp]
        simp only [h2] at h
        exact h
      have HFV : Hid (ValAt (Y.setCell ⟨w.heap.size + 1, j + 1, none⟩ (.int .i64 (t : Int))) (w.heap.size + 1) (m + 1) 3 (fun i => .int .i64 (stT es q row (j + 1) i))) := (HV.out.set (j + 1) (.int .i64 (t : Int))).ext fun i _ => by
        unfold put stT
        by_cases e : i = j + 1
        · subst e
          rw [if_pos rfl, if_pos (Nat.le_refl _), ht]
        · rw [if_neg e]
          show Value.int .i64 (if i ≤ j then (stF es q row i : Int) else 0) = _
          by_cases e2 : i ≤ j
          · rw [if_pos e2, if_pos (by omega)]
          · rw [if_neg e2, if_neg (by omega)]
      have HFB := show Hid _ from (hgs.block _ (Array.getElem?_eq_some_iff.1 HB.out).1 (by simp)).trans HB.out
      have HFG : Hid (w.grownBy (Y.setCell ⟨w.heap.size + 1, j + 1, none⟩ (.int .i64 (t : Int))) none) := grown_new HG.out hgs (by omega)
      have hs0 : (0 : Int) ≤ (s : Int) := by omega
      have hs1 : (s : Int) < (S : Int) := by omega
      have hp0 : (0 : Int) ≤ (p : Int) := by omega
      have hp1 : (p : Int) < (N : Int) := by omega
      have hj2 : (0 : Int) ≤ (j : Int) + 1 := by omega
      have hj3 : (j : Int) + 1 < ((m + 1 : Nat) : Int) := by omega
      have hj4 : (j : Int) < (m : Int) + 1 := by omega
      have hj5 : (j : Int) + 1 < (m : Int) + 1 := by omega
      have hjw : IntKind.i64.wrap ((j : Int) + 1) = (j : Int) + 1 := by rw [IntKind.wrap_i64]; omega
      clear hp ht hs hgs d1 HB HV HG HST
      go_wp2_with fail
      go_region_held3 (fun x => x.cell? ⟨w.heap.size, 8, none⟩ = some (.slice (some ⟨g, 0, none⟩) N lc1) ∧ x.cell? ⟨w.heap.size + 1, j, none⟩ = some (.int .i64 (p : Int)) ∧ x.cell? ⟨g, p, none⟩ = some (.slice (some ⟨lb p, 0, none⟩) S S) ∧ x.cell? ⟨lb p, s, none⟩ = some (.int .i64 (t : Int))) (first | exact HKS.out | go_keep) (fail)
      all_goals go_wp2_with fail
      all_goals go_roundg (m - (j + 1))
      all_goals first
        | exact (show ∃ (j' : Nat), _ from ⟨j + 1, by omega, rfl, by go_num, grown_trans HFG.out (grown_drewN _ _), HFB.out, HFV.out⟩)
        | (have := HGJ.out; omega)
    · have hjm : m = j := by omega
      subst hjm
      have hjd : decide (m < m) = false := decide_eq_false (by omega)
      go_wp2_with fail
      go_ret
      refine ⟨w.heap.size + 1, rfl, by omega, HV.out.ext fun i hi => ?_, HG.out⟩
      rw [stT, if_pos (by omega)]
end

end Go.Proofs.YthoamlahbnphkaaGreat.J
