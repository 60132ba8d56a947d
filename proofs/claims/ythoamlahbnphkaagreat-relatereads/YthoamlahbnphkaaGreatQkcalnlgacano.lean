import Derived.Test.YthoamlahbnphkaaGreatQdiacnmnpkljc
import Derived.Test.YthoamlahbnphkaaGreatQecefdmabklhe
import Derived.Deep.AppendLies

/-
  relate: the tables of an automaton, pure and in memory.
-/
namespace Go.Proofs.YthoamlahbnphkaaGreat.J
open Go.RowKit Go.Maps Go.Shelf

/-- Where the edge by s leads, among these edges; 0: there is none. -/
def ldF (l : List (Nat × Nat)) (s : Nat) : Int := (nextL l (s : Int)).getD 0
theorem ldF_snoc {l : List (Nat × Nat)} {a b : Nat} (hno : a ∉ l.map Prod.fst) (s : Nat) : ldF (l ++ [(a, b)]) s = if s = a then (b : Int) else ldF l s := by
  unfold ldF
  rw [nextL_snoc hno]
  by_cases e : s = a
  · rw [if_pos (by rw [e]), if_pos e]; rfl
  · rw [if_neg (by omega), if_neg e]
/-- The number of a transition; 0: it is none. -/
def nmF (l : List It) (q s : Nat) : Int := if ((q : Int), (s : Int)) ∈ l then (l.idxOf ((q : Int), (s : Int)) : Int) else 0
theorem nmF_nil (q s : Nat) : nmF [] q s = 0 := by simp [nmF]
theorem nmF_snoc {l : List It} {x : It} (hno : x ∉ l) (q s : Nat) : nmF (l ++ [x]) q s = if ((q : Int), (s : Int)) = x then (l.length : Int) else nmF l q s := by
  unfold nmF
  by_cases e : ((q : Int), (s : Int)) = x
  · rw [if_pos (by simp [e]), if_pos e, e, List.idxOf_append, if_neg hno]
    simp
  · rw [if_neg e]
    by_cases h : ((q : Int), (s : Int)) ∈ l
    · rw [if_pos (List.mem_append.2 (.inl h)), if_pos h, List.idxOf_append, if_pos h]
    · rw [if_neg h, if_neg]
      intro h2
      rcases List.mem_append.1 h2 with h2 | h2
      · exact h h2
      · exact e (List.mem_singleton.1 h2)
theorem nodup_at {α : Type} [BEq α] [LawfulBEq α] : ∀ (l : List α), l.Nodup → ∀ (k : Nat) (x : α), l[k]? = some x → l.idxOf x = k
  | [], _, k, x, h => by simp at h
  | y :: l, hn, k, x, h => by
    rw [List.nodup_cons] at hn
    cases k with
    | zero =>
      simp only [List.getElem?_cons_zero, Option.some.injEq] at h
      subst h
      simp
    | succ k =>
      simp only [List.getElem?_cons_succ] at h
      have hne : ¬ y = x := fun e => hn.1 (by rw [e]; exact List.mem_of_getElem? h)
      have hb : (y == x) = false := beq_false_of_ne hne
      rw [List.idxOf_cons, nodup_at l hn.2 k x h, hb]
      rfl
theorem nmF_at {l : List It} (hnd : l.Nodup) {k q s : Nat} (e : l[k]? = some ((q : Int), (s : Int))) : nmF l q s = (k : Int) := by
  unfold nmF
  rw [if_pos (List.mem_of_getElem? e), nodup_at l hnd k _ e]
theorem trI_nodup {tn : Nat} {l : List (Nat × Nat)} (i : Nat) (h : (l.map Prod.fst).Nodup) : (trI tn l i).Nodup := by
  unfold trI
  have h1 : ((l.filter fun x => decide (tn ≤ x.1)).map Prod.fst).Nodup := List.Nodup.sublist (List.Sublist.map _ List.filter_sublist) h
  unfold List.Nodup at h1 ⊢
  rw [List.pairwise_map] at h1 ⊢
  refine h1.imp fun hne e => hne ?_
  simp only [Prod.mk.injEq] at e
  omega
theorem trT_fst {tn : Nat} {es : List (List (Nat × Nat))} : ∀ (i : Nat) (x : It), x ∈ trT tn es i → x.1 < (i : Int)
  | 0, x, h => by simp [trT] at h
  | i + 1, x, h => by
    unfold trT at h
    rcases List.mem_append.1 h with h | h
    · have := trT_fst i x h
      omega
    · unfold trI at h
      obtain ⟨y, _, rfl⟩ := List.mem_map.1 h
      show (i : Int) < _
      omega
theorem trT_nodup {tn : Nat} {es : List (List (Nat × Nat))} : ∀ (i : Nat), (∀ q, q < i → ((es.getD q []).map Prod.fst).Nodup) → (trT tn es i).Nodup
  | 0, _ => by simp [trT]
  | i + 1, h => by
    unfold trT
    rw [List.nodup_append]
    refine ⟨trT_nodup i fun q hq => h q (by omega), trI_nodup i (h i (by omega)), fun x hx y hy e => ?_⟩
    subst e
    have h1 := trT_fst i x hx
    unfold trI at hy
    obtain ⟨y, _, rfl⟩ := List.mem_map.1 hy
    have h1' : (i : Int) < (i : Int) := h1
    omega

/-- The cells of a table: its rows lie in the blocks lb. -/
def tabV (lb : Nat → Nat) (S : Nat) : Nat → List Value
  | 0 => []
  | i + 1 => tabV lb S i ++ [.slice (some ⟨lb i, 0, none⟩) S S]
theorem tabV_len (lb : Nat → Nat) (S : Nat) : ∀ i, (tabV lb S i).length = i
  | 0 => rfl
  | i + 1 => by rw [tabV, List.length_append, tabV_len lb S i]; rfl
theorem tabV_congr {lb lb' : Nat → Nat} {S : Nat} : ∀ i, (∀ q, q < i → lb q = lb' q) → tabV lb S i = tabV lb' S i
  | 0, _ => rfl
  | i + 1, h => by rw [tabV, tabV, tabV_congr i fun q hq => h q (by omega), h i (by omega)]
theorem tabV_at (lb : Nat → Nat) (S : Nat) : ∀ i q, q < i → (tabV lb S i)[q]? = some (.slice (some ⟨lb q, 0, none⟩) S S)
  | 0, q, h => by omega
  | i + 1, q, h => by
    rw [tabV]
    by_cases e : q < i
    · rw [List.getElem?_append_left (by rw [tabV_len]; exact e)]; exact tabV_at lb S i q e
    · have e2 : q = i := by omega
      subst e2
      rw [List.getElem?_append_right (by rw [tabV_len]; exact Nat.le_refl _), tabV_len, Nat.sub_self]; rfl

/-- A table under way: i rows stand in it, il rows are made. -/
structure TbP (B : Nat) (X : World) (v : Value) (i il S : Nat) (lb : Nat → Nat) (ld : Nat → Nat → Int) : Prop where
  row : X.ownsRow B 24 1 v i (tabV lb S i)
  val : ∀ q, q < il → ValAt X (lb q) S 3 (fun s => .int .i64 (ld q s))
  inj : ∀ q r, q < il → r < il → lb q = lb r → q = r
  lo : ∀ q, q < il → B ≤ lb q
  le : i ≤ il
section
variable {B : Nat} {X Y : World} {v : Value} {i il S : Nat} {lb : Nat → Nat} {ld : Nat → Nat → Int}
theorem TbP.none_ (B : Nat) (X : World) (S : Nat) (lb : Nat → Nat) (ld : Nat → Nat → Int) : TbP B X (.slice none 0 0) 0 0 S lb ld :=
  ⟨World.ownsRow_nil _ _ _ _, fun _ hq => absurd hq (Nat.not_lt_zero _), fun _ _ hq => absurd hq (Nat.not_lt_zero _), fun _ hq => absurd hq (Nat.not_lt_zero _), Nat.le_refl _⟩
theorem TbP.kept (h : TbP B X v i il S lb ld) (hg : X.grownBy Y none) : TbP B Y v i il S lb ld :=
  ⟨keep0 h.row hg, fun q hq => (h.val q hq).kept hg, h.inj, h.lo, h.le⟩
/-- A box of another type is turned. -/
theorem TbP.boxed (h : TbP B X v i il S lb ld) {b : Nat} {cs : Array Value} {t : TypeId} (hb : X.heap[b]? = some (.cells cs t (0, 0))) (h1 : 24 ≠ t) (h2 : 3 ≠ t) (hg : X.grownBy Y (some b)) : TbP B Y v i il S lb ld :=
  ⟨h.row.kept hg (owns_nebox h.row hb h1), fun q hq => (h.val q hq).at hg fun e => by
    have h3 := h.val q hq
    unfold ValAt at h3
    rw [e, hb] at h3
    simp only [Option.some.injEq, Obj.cells.injEq] at h3
    exact h2 h3.2.1.symm, h.inj, h.lo, h.le⟩
/-- A row of the other table is turned. -/
theorem TbP.far (h : TbP B X v i il S lb ld) {b x : Nat} {u : Value} {t : TypeId} {len : Nat} {c : Nat → Value} (hb : ValAt X b len t c) (ht : 24 ≠ t) (hne : ∀ q, q < il → lb q ≠ b) : TbP B (X.setCell ⟨b, x, none⟩ u) v i il S lb ld :=
  have hg : X.grownBy (X.setCell ⟨b, x, none⟩ u) (some b) := grown_setCell _ _ _
  ⟨h.row.kept hg (owns_nebox h.row hb ht), fun q hq => (h.val q hq).at hg (hne q hq), h.inj, h.lo, h.le⟩
/-- The other table grows. -/
theorem TbP.beside (h : TbP B X v i il S lb ld) {B' n : Nat} {v' : Value} {xs : List Value} (ho : X.ownsRow B' 24 1 v' n xs) (hne : v.ownBlock = none ∨ v.ownBlock ≠ v'.ownBlock) (hg : X.grownBy Y v'.ownBlock) : TbP B Y v i il S lb ld :=
  ⟨h.row.kept hg hne, fun q hq => box_row (h.val q hq) ho (by decide) hg, h.inj, h.lo, h.le⟩
/-- A row more is made. -/
theorem TbP.made (h : TbP B X v i il S lb ld) (hB : B ≤ X.heap.size) {g : Nat} {f : Nat → Int} (hg : X.grownBy Y none) (hn : X.heap.size ≤ g) (hv : ValAt Y g S 3 (fun s => .int .i64 (f s))) : TbP B Y v i (il + 1) S (updL lb il g) (updL ld il f) := by
  refine ⟨?_, fun q hq => ?_, fun q r hq hr e => ?_, fun q hq => ?_, by have := h.le; omega⟩
  · rw [tabV_congr (lb' := lb) i fun q hq => updL_other _ _ (by have := h.le; omega)]
    exact keep0 h.row hg
  · by_cases e : q = il
    · subst e; rw [updL_same, updL_same]; exact hv
    · rw [updL_other _ _ e, updL_other _ _ e]; exact (h.val q (by omega)).kept hg
  · by_cases e1 : q = il
    · by_cases e2 : r = il
      · rw [e1, e2]
      · rw [e1, updL_same, updL_other _ _ e2] at e
        have := (h.val r (by omega)).lt
        omega
    · by_cases e2 : r = il
      · rw [e2, updL_same, updL_other _ _ e1] at e
        have := (h.val q (by omega)).lt
        omega
      · rw [updL_other _ _ e1, updL_other _ _ e2] at e
        exact h.inj q r (by omega) (by omega) e
  · by_cases e : q = il
    · subst e; rw [updL_same]; omega
    · rw [updL_other _ _ e]; exact h.lo q (by omega)
/-- A cell of a row is turned. -/
theorem TbP.set (h : TbP B X v i il S lb ld) {q : Nat} (hq : q < il) (s : Nat) (x : Int) : TbP B (X.setCell ⟨lb q, s, none⟩ (.int .i64 x)) v i il S lb (updL ld q (fun u => if u = s then x else ld q u)) := by
  have hg : X.grownBy (X.setCell ⟨lb q, s, none⟩ (.int .i64 x)) (some (lb q)) := grown_setCell _ _ _
  refine ⟨h.row.kept hg (owns_nebox h.row (h.val q hq) (by decide)), fun r hr => ?_, h.inj, h.lo, h.le⟩
  by_cases e : r = q
  · subst e
    rw [updL_same]
    refine ((h.val r hq).set s (.int .i64 x)).ext fun u _ => ?_
    unfold put
    by_cases e : u = s
    · simp only [if_pos e]
    · simp only [if_neg e]
  · rw [updL_other _ _ e]
    exact (h.val r hr).at hg fun e2 => e (h.inj r q hr hq e2)
/-- A row more stands in it. -/
theorem TbP.push (h : TbP B X v i (i + 1) S lb ld) {v' : Value} (hg : X.grownBy Y v.ownBlock) (ho : Y.ownsRow B 24 1 v' (i + 1) (tabV lb S i ++ [.slice (some ⟨lb i, 0, none⟩) S S])) : TbP B Y v' (i + 1) (i + 1) S lb ld :=
  ⟨ho, fun q hq => box_row (h.val q hq) h.row (by decide) hg, h.inj, h.lo, Nat.le_refl _⟩
theorem TbP.ext (h : TbP B X v i il S lb ld) {ld' : Nat → Nat → Int} (e : ∀ q, q < il → ∀ s, s < S → ld q s = ld' q s) : TbP B X v i il S lb ld' :=
  ⟨h.row, fun q hq => (h.val q hq).ext fun s hs => by rw [e q hq s hs], h.inj, h.lo, h.le⟩
/-- What is read of it. -/
theorem TbP.at (h : TbP B X v i il S lb ld) {q : Nat} (hq : q < i) : ∃ g c, v = .slice (some ⟨g, 0, none⟩) i c ∧ X.cell? ⟨g, q, none⟩ = some (.slice (some ⟨lb q, 0, none⟩) S S) ∧ ∀ s, s < S → X.cell? ⟨lb q, s, none⟩ = some (.int .i64 (ld q s)) := by
  obtain ⟨g, c, e, h1⟩ := owns_at h.row (by omega)
  exact ⟨g, c, e, h1 q _ (tabV_at lb S i q hq), fun s hs => (h.val q (by have := h.le; omega)).cell s hs⟩
end

end Go.Proofs.YthoamlahbnphkaaGreat.J

/-
  relate: automatonOf, where there is none.
-/
namespace Go.Proofs.YthoamlahbnphkaaGreat.J
open Go.RowKit Go.Maps Go.Shelf

attribute [local go_sem] Oper.semAt_some

theorem set10_heap {w : World} {g : Nat} {t : TypeId} {a0 a1 a2 a3 a4 a5 a6 a7 a8 a9 : Value} (h : w.heap[g]? = some (.cells #[a0, a1, a2, a3, a4, a5, a6, a7, a8, a9] t (0, 0))) (v0 v1 v2 v3 v4 v5 v6 v7 v8 v9 : Value) :
    ((((((((((w.setCell ⟨g, 0, none⟩ v0).setCell ⟨g, 1, none⟩ v1).setCell ⟨g, 2, none⟩ v2).setCell ⟨g, 3, none⟩ v3).setCell ⟨g, 4, none⟩ v4).setCell ⟨g, 5, none⟩ v5).setCell ⟨g, 6, none⟩ v6).setCell ⟨g, 7, none⟩ v7).setCell ⟨g, 8, none⟩ v8).setCell ⟨g, 9, none⟩ v9).heap[g]? = some (.cells #[v0, v1, v2, v3, v4, v5, v6, v7, v8, v9] t (0, 0)) := by
  have h0 : (w.setCell ⟨g, 0, none⟩ v0).heap[g]? = some (.cells #[v0, a1, a2, a3, a4, a5, a6, a7, a8, a9] t (0, 0)) := heap_setCell_same _ g 0 _ _ v0 h
  generalize w.setCell ⟨g, 0, none⟩ v0 = w0 at h0 ⊢
  have h1 : (w0.setCell ⟨g, 1, none⟩ v1).heap[g]? = some (.cells #[v0, v1, a2, a3, a4, a5, a6, a7, a8, a9] t (0, 0)) := heap_setCell_same _ g 1 _ _ v1 h0
  generalize w0.setCell ⟨g, 1, none⟩ v1 = w1 at h1 ⊢
  have h2 : (w1.setCell ⟨g, 2, none⟩ v2).heap[g]? = some (.cells #[v0, v1, v2, a3, a4, a5, a6, a7, a8, a9] t (0, 0)) := heap_setCell_same _ g 2 _ _ v2 h1
  generalize w1.setCell ⟨g, 2, none⟩ v2 = w2 at h2 ⊢
  have h3 : (w2.setCell ⟨g, 3, none⟩ v3).heap[g]? = some (.cells #[v0, v1, v2, v3, a4, a5, a6, a7, a8, a9] t (0, 0)) := heap_setCell_same _ g 3 _ _ v3 h2
  generalize w2.setCell ⟨g, 3, none⟩ v3 = w3 at h3 ⊢
  have h4 : (w3.setCell ⟨g, 4, none⟩ v4).heap[g]? = some (.cells #[v0, v1, v2, v3, v4, a5, a6, a7, a8, a9] t (0, 0)) := heap_setCell_same _ g 4 _ _ v4 h3
  generalize w3.setCell ⟨g, 4, none⟩ v4 = w4 at h4 ⊢
  have h5 : (w4.setCell ⟨g, 5, none⟩ v5).heap[g]? = some (.cells #[v0, v1, v2, v3, v4, v5, a6, a7, a8, a9] t (0, 0)) := heap_setCell_same _ g 5 _ _ v5 h4
  generalize w4.setCell ⟨g, 5, none⟩ v5 = w5 at h5 ⊢
  have h6 : (w5.setCell ⟨g, 6, none⟩ v6).heap[g]? = some (.cells #[v0, v1, v2, v3, v4, v5, v6, a7, a8, a9] t (0, 0)) := heap_setCell_same _ g 6 _ _ v6 h5
  generalize w5.setCell ⟨g, 6, none⟩ v6 = w6 at h6 ⊢
  have h7 : (w6.setCell ⟨g, 7, none⟩ v7).heap[g]? = some (.cells #[v0, v1, v2, v3, v4, v5, v6, v7, a8, a9] t (0, 0)) := heap_setCell_same _ g 7 _ _ v7 h6
  generalize w6.setCell ⟨g, 7, none⟩ v7 = w7 at h7 ⊢
  have h8 : (w7.setCell ⟨g, 8, none⟩ v8).heap[g]? = some (.cells #[v0, v1, v2, v3, v4, v5, v6, v7, v8, a9] t (0, 0)) := heap_setCell_same _ g 8 _ _ v8 h7
  generalize w7.setCell ⟨g, 8, none⟩ v8 = w8 at h8 ⊢
  exact heap_setCell_same _ g 9 _ _ v9 h8
theorem set10_grown (w : World) (g : Nat) (v0 v1 v2 v3 v4 v5 v6 v7 v8 v9 : Value) :
    w.grownBy ((((((((((w.setCell ⟨g, 0, none⟩ v0).setCell ⟨g, 1, none⟩ v1).setCell ⟨g, 2, none⟩ v2).setCell ⟨g, 3, none⟩ v3).setCell ⟨g, 4, none⟩ v4).setCell ⟨g, 5, none⟩ v5).setCell ⟨g, 6, none⟩ v6).setCell ⟨g, 7, none⟩ v7).setCell ⟨g, 8, none⟩ v8).setCell ⟨g, 9, none⟩ v9) (some g) :=
  grown_trans (grown_trans (grown_trans (set7_grown w g v0 v1 v2 v3 v4 v5 v6) (grown_setCell _ _ _)) (grown_setCell _ _ _)) (grown_setCell _ _ _)
theorem results_uof (tmps : Array Value) (w : World) (g : Nat) (cs : Array Value) (x : Value) (h2 : tmps.getD 2 undef = .pointer (some ⟨g, 0, none⟩)) (h3 : tmps.getD 3 undef = x) (hg : w.heap[g]? = some (.cells cs 81 (0, 0))) (hs : cs.size = 10) :
    (results Tryz.f30 tmps).run Tryz.prog w = .ok (.tuple #[.agg cs, x]) w := by
  have h2' : tmps[2]?.getD undef = .pointer (some ⟨g, 0, none⟩) := by simpa using h2
  have h3' : tmps[3]?.getD undef = x := by simpa using h3
  have hl := run_loadVar_row (P := Tryz.prog) w g 81 81 cs (0, 0) _ hg Tryz.underlying81 rfl (by rw [hs]; kernel_rfl)
  simp [results, Tryz.results30, h2', h3', asAddr, hl]

section
variable (ta na la pa : Option Addr) (tc nc lc pc : Nat) (n : Nat) (st : Int) (w : World) (tn nn ln : Nat)

set_option maxRecDepth 100000 in
set_option maxHeartbeats 2000000 in
theorem uof_bad (ec : Int) (hec : ec = 1 ∨ ec = 11)
    (hBU : ∀ X, w.grownBy X none → Calls Tryz.prog 22 #[.agg #[.slice ta tn tc, .slice na nn nc, .slice la ln lc, .int .i64 st, .slice pa n pc]] X fun e y => e = .returned (.tuple #[.agg #[.slice none 0 0, .int .i64 0, .int .i64 0], .int .i64 ec]) ∧ X.grownBy y none) :
    Calls Tryz.prog 30 #[.agg #[.slice ta tn tc, .slice na nn nc, .slice la ln lc, .int .i64 st, .slice pa n pc]] w fun e y => e = .returned (.tuple #[.agg #[.slice none 0 0, .slice none 0 0, .slice none 0 0, .int .i64 0, .slice none 0 0, .slice none 0 0, .slice none 0 0, .slice none 0 0, .slice none 0 0, .slice none 0 0], .int .i64 ec]) ∧ w.grownBy y none := by
  have HBU := show Hid _ from hBU
  have HX0 : Hid (w.grownBy ((w.alloc (.cells #[.slice ta tn tc, .slice na nn nc, .slice la ln lc, .int .i64 st, .slice pa n pc] 27)).alloc (.cells #[.slice none 0 0, .slice none 0 0, .slice none 0 0, .int .i64 0, .slice none 0 0, .slice none 0 0, .slice none 0 0, .slice none 0 0, .slice none 0 0, .slice none 0 0] 81)) none) := grown_trans (World.grownBy_alloc _ _ none) (World.grownBy_alloc _ _ none)
  have HB0 : Hid (((w.alloc (.cells #[.slice ta tn tc, .slice na nn nc, .slice la ln lc, .int .i64 st, .slice pa n pc] 27)).alloc (.cells #[.slice none 0 0, .slice none 0 0, .slice none 0 0, .int .i64 0, .slice none 0 0, .slice none 0 0, .slice none 0 0, .slice none 0 0, .slice none 0 0, .slice none 0 0] 81)).heap[w.heap.size + 1]? = some (.cells #[.slice none 0 0, .slice none 0 0, .slice none 0 0, .int .i64 0, .slice none 0 0, .slice none 0 0, .slice none 0 0, .slice none 0 0, .slice none 0 0, .slice none 0 0] 81 (0, 0))) := by
    have h := heap_alloc_last (w.alloc (.cells #[.slice ta tn tc, .slice na nn nc, .slice la ln lc, .int .i64 st, .slice pa n pc] 27)) (.cells #[.slice none 0 0, .slice none 0 0, .slice none 0 0, .int .i64 0, .slice none 0 0, .slice none 0 0, .slice none 0 0, .slice none 0 0, .slice none 0 0, .slice none 0 0] 81)
    rw [World.size_alloc] at h; exact h
  have hne : (ec != 0) = true := bne_iff_ne.2 (by omega)
  clear hBU hec
  go_enter Tryz.func30, Tryz.ntmps30
  go_wp2_with fail
  refine Calls.mono (HBU.out _ HX0.out) ?_
  rintro e w1 ⟨rfl, hg1⟩
  have HB1 : Hid ((w1.alloc (.cells #[.slice none 0 0, .int .i64 0, .int .i64 0] 59)).heap[w.heap.size + 1]? = some (.cells #[.slice none 0 0, .slice none 0 0, .slice none 0 0, .int .i64 0, .slice none 0 0, .slice none 0 0, .slice none 0 0, .slice none 0 0, .slice none 0 0, .slice none 0 0] 81 (0, 0))) := box_kept HB0.out (grown_trans hg1 (World.grownBy_alloc _ _ none))
  have HG1 : Hid (w.grownBy (w1.alloc (.cells #[.slice none 0 0, .int .i64 0, .int .i64 0] 59)) none) := grown_trans HX0.out (grown_trans hg1 (World.grownBy_alloc _ _ none))
  clear hg1 HB0 HX0
  have kc := fun j => cell_of_row _ (w.heap.size + 1) j _ _ _ HB1.out
  obtain ⟨k0, k1, k2, k3, k4, k5, k6, k7, k8, k9⟩ : _ ∧ _ ∧ _ ∧ _ ∧ _ ∧ _ ∧ _ ∧ _ ∧ _ ∧ _ := ⟨kc 0, kc 1, kc 2, kc 3, kc 4, kc 5, kc 6, kc 7, kc 8, kc 9⟩
  have kf := fun j => frozen_of_row _ (w.heap.size + 1) j _ _ HB1.out
  simp only [List.getElem?_toArray, List.getElem?_cons_zero, List.getElem?_cons_succ] at k0 k1 k2 k3 k4 k5 k6 k7 k8 k9
  clear kc
  go_wp2_with fail
  refine bodyPost_ret (v := .tuple #[.agg #[.slice none 0 0, .slice none 0 0, .slice none 0 0, .int .i64 0, .slice none 0 0, .slice none 0 0, .slice none 0 0, .slice none 0 0, .slice none 0 0, .slice none 0 0], .int .i64 ec]) ?_ rfl ?_
  · exact results_uof _ _ (w.heap.size + 1) _ _ rfl rfl (set10_heap HB1.out _ _ _ _ _ _ _ _ _ _) rfl
  · exact ⟨rfl, grown_new HG1.out (set10_grown _ _ _ _ _ _ _ _ _ _ _ _) (by omega)⟩
end

end Go.Proofs.YthoamlahbnphkaaGreat.J

/-
  relate: automatonOf under way, in memory.
-/
namespace Go.Proofs.YthoamlahbnphkaaGreat.J
open Go.RowKit Go.Maps Go.Shelf

/-- All blocks stay but numbers, rows of rows, and the box ab. -/
def KeepA (ab : Nat) (X Y : World) : Prop := ∀ (b : Nat) (cs : Array Value) (t : TypeId), X.heap[b]? = some (.cells cs t (0, 0)) → t ≠ 3 → t ≠ 24 → (t = 81 → b ≠ ab) → Y.heap[b]? = some (.cells cs t (0, 0))
section
variable {ab : Nat} {X Y : World}
theorem KeepA.none_ (h : X.grownBy Y none) : KeepA ab X Y := fun _ _ _ h1 _ _ _ => box_kept h1 h
theorem KeepA.box {cs : Array Value} (hb : X.heap[ab]? = some (.cells cs 81 (0, 0))) (h : X.grownBy Y (some ab)) : KeepA ab X Y := fun b cs' t h1 _ _ h4 => by
  refine (h.block b (Array.getElem?_eq_some_iff.1 h1).1 ?_).trans h1
  intro e
  have e2 : b = ab := by simpa using e
  have h5 := h1
  rw [e2, hb] at h5
  simp only [Option.some.injEq, Obj.cells.injEq] at h5
  exact h4 h5.2.1.symm e2
theorem KeepA.int {b : Nat} {cs : Array Value} (hb : X.heap[b]? = some (.cells cs 3 (0, 0))) (h : X.grownBy Y (some b)) : KeepA ab X Y := fun b' cs' t h1 h2 _ _ => by
  refine (h.block b' (Array.getElem?_eq_some_iff.1 h1).1 ?_).trans h1
  intro e
  have e2 : b' = b := by simpa using e
  have h5 := h1
  rw [e2, hb] at h5
  simp only [Option.some.injEq, Obj.cells.injEq] at h5
  exact h2 h5.2.1.symm
theorem KeepA.row {B n : Nat} {v : Value} {xs : List Value} (ho : X.ownsRow B 24 1 v n xs) (h : X.grownBy Y v.ownBlock) : KeepA ab X Y := fun _ _ _ h1 _ h3 _ => box_row h1 ho (fun e => h3 e.symm) h
theorem KeepA.owns {B e s n : Nat} {v : Value} {xs : List Value} (h : KeepA ab X Y) (ho : X.ownsRow B e s v n xs) (h1 : e ≠ 3) (h2 : e ≠ 24) (h3 : e ≠ 81) : Y.ownsRow B e s v n xs := by
  refine ⟨ho.1, ?_⟩
  rcases ho.2 with hn | ⟨g, cap, cur, rfl, hb, hgg, rest⟩
  · exact .inl hn
  · exact .inr ⟨g, cap, cur, rfl, hb, h g _ _ hgg h1 h2 (fun e => absurd e h3), rest⟩
end

/-- What automatonOf has got, beside its tables. -/
structure UPas (B : Nat) (X : World) (gb rb nb nn : Nat) (c0 c1 c2 c3 c4 sv tv : Value) (ks : List (List It)) (es : List (List (Nat × Nat))) (kv ev : Nat → Value) (tl : List It) (F : Nat → Bool) : Prop where
  gbox : X.heap[gb]? = some (.cells #[c0, c1, c2, c3, c4] 27 (0, 0))
  res : X.heap[rb]? = some (.cells #[.slice none 0 0, .slice none 0 0, .slice none 0 0, .int .i64 0, .slice none 0 0, .slice none 0 0, .slice none 0 0, .slice none 0 0, .slice none 0 0, .slice none 0 0] 81 (0, 0))
  aut : AutP B X sv ks (elF es) kv ev
  trs : X.ownsRow B 53 2 tv tl.length (itsV tl)
  nul : ValAt X nb nn 4 (fun i => .bool (F i))
section
variable {B : Nat} {X Y : World} {ab gb rb nb nn : Nat} {c0 c1 c2 c3 c4 sv tv : Value} {ks : List (List It)} {es : List (List (Nat × Nat))} {kv ev : Nat → Value} {tl : List It} {F : Nat → Bool}
theorem UPas.keep (h : UPas B X gb rb nb nn c0 c1 c2 c3 c4 sv tv ks es kv ev tl F) (hk : KeepA ab X Y) (hne : rb ≠ ab) : UPas B Y gb rb nb nn c0 c1 c2 c3 c4 sv tv ks es kv ev tl F :=
  ⟨hk _ _ _ h.gbox (by decide) (by decide) (fun e => absurd e (by decide)), hk _ _ _ h.res (by decide) (by decide) (fun _ => hne),
    ⟨hk.owns h.aut.row (by decide) (by decide) (by decide), fun i hi => hk.owns (h.aut.ker i hi) (by decide) (by decide) (by decide), fun i hi => hk.owns (h.aut.edg i hi) (by decide) (by decide) (by decide)⟩,
    hk.owns h.trs (by decide) (by decide) (by decide), hk _ _ _ h.nul (by decide) (by decide) (fun e => absurd e (by decide))⟩
end

/-- Where the edges lead, once j of those of i have been gone over. -/
def ldJ (es : List (List (Nat × Nat))) (i j q s : Nat) : Int := if q = i then ldF ((es.getD i []).take j) s else ldF (es.getD q []) s
theorem ldJ_zero (es : List (List (Nat × Nat))) (i q s : Nat) : updL (fun q s => ldF (es.getD q []) s) i (fun _ => 0) q s = ldJ es i 0 q s := by
  unfold ldJ updL
  by_cases e : q = i
  · rw [if_pos e, if_pos e]; rfl
  · rw [if_neg e, if_neg e]
theorem ldJ_end (es : List (List (Nat × Nat))) (i q s : Nat) : ldJ es i (es.getD i []).length q s = ldF (es.getD q []) s := by
  unfold ldJ
  rw [List.take_length]
  by_cases e : q = i
  · rw [if_pos e, e]
  · rw [if_neg e]
theorem ldJ_step {es : List (List (Nat × Nat))} {i j s t : Nat} (hj : j < (es.getD i []).length) (he : (es.getD i []).getD j (0, 0) = (s, t)) (hnd : ((es.getD i []).map Prod.fst).Nodup) (q u : Nat) : updL (ldJ es i j) i (fun u => if u = s then (t : Int) else ldJ es i j i u) q u = ldJ es i (j + 1) q u := by
  unfold updL
  by_cases e : q = i
  · rw [if_pos e]
    unfold ldJ
    rw [if_pos rfl, if_pos e, take_snocE hj he, ldF_snoc]
    have h2 : (((es.getD i []).take (j + 1)).map Prod.fst).Nodup := List.Nodup.sublist (List.Sublist.map _ (List.take_sublist _ _)) hnd
    rw [take_snocE hj he, List.map_append, List.nodup_append] at h2
    intro h3
    exact h2.2.2 s h3 s (by simp) rfl
  · rw [if_neg e]
    unfold ldJ
    rw [if_neg e, if_neg e]

/-- automatonOf under way. -/
structure RlP (w X : World) (ab gb rb nb nn : Nat) (c0 c1 c2 c3 c4 nv sv tv bl bm lv mv : Value) (i il j jl S : Nat) (lb mb : Nat → Nat) (ld nm : Nat → Nat → Int) (ks : List (List It)) (es : List (List (Nat × Nat))) (kv ev : Nat → Value) (tl : List It) (F : Nat → Bool) : Prop where
  grown : w.grownBy X none
  box : X.heap[ab]? = some (.cells #[c0, c1, c2, c3, c4, nv, sv, tv, bl, bm] 81 (0, 0))
  pas : UPas w.heap.size X gb rb nb nn c0 c1 c2 c3 c4 sv tv ks es kv ev tl F
  l : TbP w.heap.size X lv i il S lb ld
  m : TbP w.heap.size X mv j jl S mb nm
  lm : ∀ q r, q < il → r < jl → lb q ≠ mb r
  apart : ∀ b, lv.ownBlock = some b → mv.ownBlock ≠ some b
  lo : w.heap.size ≤ ab ∧ w.heap.size ≤ rb
  ne : rb ≠ ab
section
variable {w X Y : World} {ab gb rb nb nn : Nat} {c0 c1 c2 c3 c4 nv sv tv bl bm lv mv : Value} {i il j jl S : Nat} {lb mb : Nat → Nat} {ld nm : Nat → Nat → Int} {ks : List (List It)} {es : List (List (Nat × Nat))} {kv ev : Nat → Value} {tl : List It} {F : Nat → Bool}
theorem RlP.kept (h : RlP w X ab gb rb nb nn c0 c1 c2 c3 c4 nv sv tv bl bm lv mv i il j jl S lb mb ld nm ks es kv ev tl F) (hg : X.grownBy Y none) : RlP w Y ab gb rb nb nn c0 c1 c2 c3 c4 nv sv tv bl bm lv mv i il j jl S lb mb ld nm ks es kv ev tl F :=
  ⟨grown_trans h.grown hg, box_kept h.box hg, h.pas.keep (.none_ hg) h.ne, h.l.kept hg, h.m.kept hg, h.lm, h.apart, h.lo, h.ne⟩
theorem RlP.setL (h : RlP w X ab gb rb nb nn c0 c1 c2 c3 c4 nv sv tv bl bm lv mv i il j jl S lb mb ld nm ks es kv ev tl F) (v : Value) : RlP w (X.setCell ⟨ab, 8, none⟩ v) ab gb rb nb nn c0 c1 c2 c3 c4 nv sv tv v bm lv mv i il j jl S lb mb ld nm ks es kv ev tl F :=
  have hg : X.grownBy (X.setCell ⟨ab, 8, none⟩ v) (some ab) := grown_setCell _ _ _
  ⟨grown_new h.grown hg h.lo.1, heap_setCell_same _ _ _ _ _ _ h.box, h.pas.keep (.box h.box hg) h.ne, h.l.boxed h.box (by decide) (by decide) hg, h.m.boxed h.box (by decide) (by decide) hg, h.lm, h.apart, h.lo, h.ne⟩
theorem RlP.setM (h : RlP w X ab gb rb nb nn c0 c1 c2 c3 c4 nv sv tv bl bm lv mv i il j jl S lb mb ld nm ks es kv ev tl F) (v : Value) : RlP w (X.setCell ⟨ab, 9, none⟩ v) ab gb rb nb nn c0 c1 c2 c3 c4 nv sv tv bl v lv mv i il j jl S lb mb ld nm ks es kv ev tl F :=
  have hg : X.grownBy (X.setCell ⟨ab, 9, none⟩ v) (some ab) := grown_setCell _ _ _
  ⟨grown_new h.grown hg h.lo.1, heap_setCell_same _ _ _ _ _ _ h.box, h.pas.keep (.box h.box hg) h.ne, h.l.boxed h.box (by decide) (by decide) hg, h.m.boxed h.box (by decide) (by decide) hg, h.lm, h.apart, h.lo, h.ne⟩
theorem RlP.madeL (h : RlP w X ab gb rb nb nn c0 c1 c2 c3 c4 nv sv tv bl bm lv mv i il j jl S lb mb ld nm ks es kv ev tl F) {g : Nat} {f : Nat → Int} (hg : X.grownBy Y none) (hn : X.heap.size ≤ g) (hv : ValAt Y g S 3 (fun s => .int .i64 (f s))) : RlP w Y ab gb rb nb nn c0 c1 c2 c3 c4 nv sv tv bl bm lv mv i (il + 1) j jl S (updL lb il g) mb (updL ld il f) nm ks es kv ev tl F := by
  have h2 := h.kept hg
  refine ⟨h2.grown, h2.box, h2.pas, h.l.made h.grown.size hg hn hv, h2.m, fun q r hq hr => ?_, h.apart, h.lo, h.ne⟩
  by_cases e : q = il
  · rw [e, updL_same]
    have := (h.m.val r hr).lt
    omega
  · rw [updL_other _ _ e]; exact h.lm q r (by omega) hr
theorem RlP.madeM (h : RlP w X ab gb rb nb nn c0 c1 c2 c3 c4 nv sv tv bl bm lv mv i il j jl S lb mb ld nm ks es kv ev tl F) {g : Nat} {f : Nat → Int} (hg : X.grownBy Y none) (hn : X.heap.size ≤ g) (hv : ValAt Y g S 3 (fun s => .int .i64 (f s))) : RlP w Y ab gb rb nb nn c0 c1 c2 c3 c4 nv sv tv bl bm lv mv i il j (jl + 1) S lb (updL mb jl g) ld (updL nm jl f) ks es kv ev tl F := by
  have h2 := h.kept hg
  refine ⟨h2.grown, h2.box, h2.pas, h2.l, h.m.made h.grown.size hg hn hv, fun q r hq hr => ?_, h.apart, h.lo, h.ne⟩
  by_cases e : r = jl
  · rw [e, updL_same]
    have := (h.l.val q hq).lt
    omega
  · rw [updL_other _ _ e]; exact h.lm q r hq (by omega)
theorem RlP.putL (h : RlP w X ab gb rb nb nn c0 c1 c2 c3 c4 nv sv tv bl bm lv mv i il j jl S lb mb ld nm ks es kv ev tl F) {q : Nat} (hq : q < il) (s : Nat) (x : Int) : RlP w (X.setCell ⟨lb q, s, none⟩ (.int .i64 x)) ab gb rb nb nn c0 c1 c2 c3 c4 nv sv tv bl bm lv mv i il j jl S lb mb (updL ld q (fun u => if u = s then x else ld q u)) nm ks es kv ev tl F := by
  have hg : X.grownBy (X.setCell ⟨lb q, s, none⟩ (.int .i64 x)) (some (lb q)) := grown_setCell _ _ _
  have hv := h.l.val q hq
  exact ⟨grown_new h.grown hg (h.l.lo q hq), KeepB h.box hv hg, h.pas.keep (.int hv hg) h.ne, h.l.set hq s x, h.m.far hv (by decide) (fun r hr e => h.lm q r hq hr e.symm), h.lm, h.apart, h.lo, h.ne⟩
where
  KeepB {X Y : World} {b ab len : Nat} {cs : Array Value} {c : Nat → Value} (hb : X.heap[ab]? = some (.cells cs 81 (0, 0))) (hv : ValAt X b len 3 c) (hg : X.grownBy Y (some b)) : Y.heap[ab]? = some (.cells cs 81 (0, 0)) := by
    refine (hg.block ab (Array.getElem?_eq_some_iff.1 hb).1 ?_).trans hb
    intro e
    have e2 : ab = b := by simpa using e
    unfold ValAt at hv
    rw [e2, hv] at hb
    simp only [Option.some.injEq, Obj.cells.injEq] at hb
    exact absurd hb.2.1 (by decide)
theorem RlP.putM (h : RlP w X ab gb rb nb nn c0 c1 c2 c3 c4 nv sv tv bl bm lv mv i il j jl S lb mb ld nm ks es kv ev tl F) {q : Nat} (hq : q < jl) (s : Nat) (x : Int) : RlP w (X.setCell ⟨mb q, s, none⟩ (.int .i64 x)) ab gb rb nb nn c0 c1 c2 c3 c4 nv sv tv bl bm lv mv i il j jl S lb mb ld (updL nm q (fun u => if u = s then x else nm q u)) ks es kv ev tl F := by
  have hg : X.grownBy (X.setCell ⟨mb q, s, none⟩ (.int .i64 x)) (some (mb q)) := grown_setCell _ _ _
  have hv := h.m.val q hq
  exact ⟨grown_new h.grown hg (h.m.lo q hq), RlP.putL.KeepB h.box hv hg, h.pas.keep (.int hv hg) h.ne, h.l.far hv (by decide) (fun r hr => h.lm r q hr hq), h.m.set hq s x, h.lm, h.apart, h.lo, h.ne⟩
theorem RlP.pushL (h : RlP w X ab gb rb nb nn c0 c1 c2 c3 c4 nv sv tv bl bm lv mv i (i + 1) j jl S lb mb ld nm ks es kv ev tl F) {g c : Nat} (hg : X.grownBy Y lv.ownBlock) (ho : Y.ownsRow w.heap.size 24 1 (.slice (some ⟨g, 0, none⟩) (i + 1) c) (i + 1) (tabV lb S i ++ [.slice (some ⟨lb i, 0, none⟩) S S])) (hat : lv.ownBlock = some g ∨ g = X.heap.size) : RlP w Y ab gb rb nb nn c0 c1 c2 c3 c4 nv sv tv bl bm (.slice (some ⟨g, 0, none⟩) (i + 1) c) mv (i + 1) (i + 1) j jl S lb mb ld nm ks es kv ev tl F := by
  refine ⟨grown_owned h.grown h.l.row (Nat.le_refl _) hg, box_row h.box h.l.row (by decide) hg, h.pas.keep (.row h.l.row hg) h.ne, h.l.push hg ho, h.m.beside h.l.row ?_ hg, h.lm, fun b hb hm => ?_, h.lo, h.ne⟩
  · cases hb : mv.ownBlock with
    | none => exact .inl rfl
    | some b => exact .inr fun e => h.apart b e.symm hb
  · have e : g = b := by simpa [Value.ownBlock] using hb
    subst e
    rcases hat with h1 | h1
    · exact h.apart g h1 hm
    · have := (h.m.row.lt g hm).2
      omega
theorem RlP.pushM (h : RlP w X ab gb rb nb nn c0 c1 c2 c3 c4 nv sv tv bl bm lv mv i il j (j + 1) S lb mb ld nm ks es kv ev tl F) {g c : Nat} (hg : X.grownBy Y mv.ownBlock) (ho : Y.ownsRow w.heap.size 24 1 (.slice (some ⟨g, 0, none⟩) (j + 1) c) (j + 1) (tabV mb S j ++ [.slice (some ⟨mb j, 0, none⟩) S S])) (hat : mv.ownBlock = some g ∨ g = X.heap.size) : RlP w Y ab gb rb nb nn c0 c1 c2 c3 c4 nv sv tv bl bm lv (.slice (some ⟨g, 0, none⟩) (j + 1) c) i il (j + 1) (j + 1) S lb mb ld nm ks es kv ev tl F := by
  refine ⟨grown_owned h.grown h.m.row (Nat.le_refl _) hg, box_row h.box h.m.row (by decide) hg, h.pas.keep (.row h.m.row hg) h.ne, h.l.beside h.m.row ?_ hg, h.m.push hg ho, h.lm, fun b hb hm => ?_, h.lo, h.ne⟩
  · cases hb : lv.ownBlock with
    | none => exact .inl rfl
    | some b => exact .inr fun e => h.apart b hb e.symm
  · have e : g = b := by simpa [Value.ownBlock] using hm
    subst e
    rcases hat with h1 | h1
    · exact h.apart g hb h1
    · have := (h.l.row.lt g hb).2
      omega
theorem RlP.extL (h : RlP w X ab gb rb nb nn c0 c1 c2 c3 c4 nv sv tv bl bm lv mv i il j jl S lb mb ld nm ks es kv ev tl F) {ld' : Nat → Nat → Int} (e : ∀ q, q < il → ∀ s, s < S → ld q s = ld' q s) : RlP w X ab gb rb nb nn c0 c1 c2 c3 c4 nv sv tv bl bm lv mv i il j jl S lb mb ld' nm ks es kv ev tl F :=
  ⟨h.grown, h.box, h.pas, h.l.ext e, h.m, h.lm, h.apart, h.lo, h.ne⟩
theorem RlP.extM (h : RlP w X ab gb rb nb nn c0 c1 c2 c3 c4 nv sv tv bl bm lv mv i il j jl S lb mb ld nm ks es kv ev tl F) {nm' : Nat → Nat → Int} (e : ∀ q, q < jl → ∀ s, s < S → nm q s = nm' q s) : RlP w X ab gb rb nb nn c0 c1 c2 c3 c4 nv sv tv bl bm lv mv i il j jl S lb mb ld nm' ks es kv ev tl F :=
  ⟨h.grown, h.box, h.pas, h.l, h.m.ext e, h.lm, h.apart, h.lo, h.ne⟩
theorem RlP.cells (h : RlP w X ab gb rb nb nn c0 c1 c2 c3 c4 nv sv tv bl bm lv mv i il j jl S lb mb ld nm ks es kv ev tl F) : (X.cell? ⟨ab, 6, none⟩ = some sv ∧ X.cell? ⟨ab, 7, none⟩ = some tv ∧ X.cell? ⟨ab, 8, none⟩ = some bl ∧ X.cell? ⟨ab, 9, none⟩ = some bm) ∧ ∀ k, X.frozen? ⟨ab, k, none⟩ = false := by
  refine ⟨⟨?_, ?_, ?_, ?_⟩, fun k => frozen_of_row _ _ _ _ _ h.box⟩ <;> rw [cell_of_row _ _ _ _ _ _ h.box] <;> rfl
end

end Go.Proofs.YthoamlahbnphkaaGreat.J
