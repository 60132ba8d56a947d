import Derived.Test.YthoamlahbnphkaaGreatQonogmkdafpdl

/-
  lr0: an automaton in memory, read.
-/
namespace Go.Proofs.YthoamlahbnphkaaGreat.J
open Go.RowKit Go.Maps Go.Shelf

theorem own_nil {X : World} {B e s n c : Nat} {a : Option Addr} {xs : List Value} (h : X.ownsRow B e s (.slice a n c) n xs) : a = none → n = 0 ∧ c = 0 := fun e => by
  rcases h.2 with ⟨h1, h2⟩ | ⟨g, cap, cur, h1, _⟩
  · simp only [Value.slice.injEq] at h1
    exact ⟨h2, h1.2.2⟩
  · simp only [Value.slice.injEq] at h1
    rw [e] at h1
    cases h1.1
theorem ItsAt.cellAt {X : World} {a : Option Addr} {l : List It} (h : ItsAt X a l) {i : Nat} (hi : i < l.length) : ∃ b off, a = some ⟨b, off, none⟩ ∧ X.cell? ⟨b, off + i * 2, none⟩ = some (.int .i64 (l.getD i (0, 0)).1) ∧ X.cell? ⟨b, off + i * 2 + 1, none⟩ = some (.int .i64 (l.getD i (0, 0)).2) := by
  rcases h with h | ⟨b, off, e, h⟩
  · rw [h] at hi; cases hi
  · exact ⟨b, off, e, h i hi⟩
theorem ItsAt.ofT {X : World} {B c e : Nat} {a : Option Addr} {l : List It} (h : X.ownsRow B e 2 (.slice a l.length c) l.length (itsV l)) : ItsAt X a l := by
  rcases h.2 with ⟨h', h2⟩ | ⟨g, cap, cur, hv, hB, hh, _, _, hs, ht⟩
  · left
    exact List.eq_nil_of_length_eq_zero h2
  · right
    simp only [Value.slice.injEq] at hv
    refine ⟨g, 0, hv.1, fun i hi => ?_⟩
    obtain ⟨h3, h4⟩ := itsV_at l i hi
    rw [← ht, List.getElem?_take, if_pos (by omega)] at h3 h4
    rw [Nat.zero_add, cell_of_row _ _ _ _ _ _ hh, cell_of_row _ _ _ _ _ _ hh]
    exact ⟨by simpa using h3, by simpa using h4⟩
/-- The cells of an automaton that is read. -/
theorem AutP.st {B : Nat} {X : World} {v : Value} {ks : List (List It)} {el : Nat → List It} {kv ev : Nat → Value} (h : AutP B X v ks el kv ev) {q : Nat} (hq : q < ks.length) : ∃ g c, v = .slice (some ⟨g, 0, none⟩) ks.length c ∧ X.cell? ⟨g, q * 2, none⟩ = some (kv q) ∧ X.cell? ⟨g, q * 2 + 1, none⟩ = some (ev q) := by
  obtain ⟨g, c, e, h1⟩ := owns_at h.row (by omega)
  exact ⟨g, c, e, h1 _ _ (stV_at kv ev _ q hq).1, h1 _ _ (stV_at kv ev _ q hq).2⟩
theorem AutP.kerAt {B : Nat} {X : World} {v : Value} {ks : List (List It)} {el : Nat → List It} {kv ev : Nat → Value} (h : AutP B X v ks el kv ev) {q : Nat} (hq : q < ks.length) : ∃ a c, kv q = .slice a (ks.getD q []).length c ∧ ItsAt X a (ks.getD q []) ∧ (a = none → (ks.getD q []).length = 0 ∧ c = 0) := by
  have h1 := h.ker q hq
  obtain ⟨a, c, e⟩ := owns_cut h1
  rw [e] at h1
  exact ⟨a, c, e, ItsAt.of h1, own_nil h1⟩
theorem AutP.edgAt {B : Nat} {X : World} {v : Value} {ks : List (List It)} {el : Nat → List It} {kv ev : Nat → Value} (h : AutP B X v ks el kv ev) {q : Nat} (hq : q < ks.length) : ∃ a c, ev q = .slice a (el q).length c ∧ ItsAt X a (el q) := by
  have h1 := h.edg q hq
  obtain ⟨a, c, e⟩ := owns_cut h1
  rw [e] at h1
  exact ⟨a, c, e, ItsAt.ofT h1⟩
theorem elF_at {es : List (List (Nat × Nat))} {q i : Nat} (hi : i < (es.getD q []).length) : (elF es q).length = (es.getD q []).length ∧ (elF es q).getD i (0, 0) = (((((es.getD q []).getD i (0, 0)).1 : Nat) : Int), ((((es.getD q []).getD i (0, 0)).2 : Nat) : Int)) := by
  unfold elF
  generalize es.getD q [] = l at hi ⊢
  refine ⟨edI_len l, ?_⟩
  unfold edI
  rw [List.getD_eq_getElem?_getD, List.getD_eq_getElem?_getD, List.getElem?_map, List.getElem?_eq_getElem hi]; rfl
theorem elF_len (es : List (List (Nat × Nat))) (q : Nat) : (elF es q).length = (es.getD q []).length := edI_len _

theorem AutP.base {B B' : Nat} {X : World} {v : Value} {ks : List (List It)} {el : Nat → List It} {kv ev : Nat → Value} (h : AutP B X v ks el kv ev) (hb : B' ≤ B) : AutP B' X v ks el kv ev :=
  ⟨owns_base h.row hb, fun i hi => owns_base (h.ker i hi) hb, fun i hi => owns_base (h.edg i hi) hb⟩
theorem PJ.len {n : Nat} {R : Nat → List Int} {i : Nat} {k : List It} (h : PJ n R i k) (hi : i ≤ 257) : k.length ≤ 3341001 := by
  have h1 := h.2
  have h2 : 13000 * i ≤ 13000 * 257 := Nat.mul_le_mul_left _ hi
  omega
section
variable (ta na la pa : Option Addr) (tc nc lc pc : Nat) (ts : List (ByteArray × Int)) (ns : List ByteArray) (lv : List Int) (n : Nat) (L : Nat → Int) (R : Nat → List Int) (ra : Nat → Option Addr) (rc : Nat → Nat) (V : Nat → Int) (st : Int) (w : World) (tn nn ln : Nat) (hlen : ts.length = tn ∧ ns.length = nn ∧ lv.length = ln) (hG : GAt w ta na la pa tc nc lc pc ts ns lv n L R ra rc V)
include hlen hG
/-- Build, where there is an automaton: one for all worlds. -/
theorem build_some (hc : closedOK ts ns lv st n L R V) {ks : List (List It)} {es : List (List (Nat × Nat))} (h : autoF (GG tn n L R) (tn + nn) 256 = some (ks, es)) (X : World) (hX : w.grownBy X none) : Calls Tryz.prog 22 #[.agg #[.slice ta tn tc, .slice na nn nc, .slice la ln lc, .int .i64 st, .slice pa n pc]] X fun e y => ∃ sa sc kv ev, e = .returned (.tuple #[.agg #[.slice sa ks.length sc, .int .i64 (askN es : Int), .int .i64 (ks.length : Int)], .int .i64 0]) ∧ AutP X.heap.size y (.slice sa ks.length sc) ks (elF es) kv ev ∧ X.grownBy y none := by
  refine (buildOk ta na la pa tc nc lc pc ts ns lv n L R ra rc V st X tn nn ln hlen (hG.kept hX) hc).mono ?_
  rintro e y (⟨ks', es', sa, sc, kv, ev, hau, rfl, hA, hg⟩ | ⟨hau, _⟩)
  · have h2 := h.symm.trans hau
    simp only [Option.some.injEq, Prod.mk.injEq] at h2
    obtain ⟨rfl, rfl⟩ := h2
    exact ⟨sa, sc, kv, ev, rfl, hA, hg⟩
  · have h2 := h.symm.trans hau
    cases h2
theorem build_none (hc : closedOK ts ns lv st n L R V) (h : autoF (GG tn n L R) (tn + nn) 256 = none) (X : World) (hX : w.grownBy X none) : Calls Tryz.prog 22 #[.agg #[.slice ta tn tc, .slice na nn nc, .slice la ln lc, .int .i64 st, .slice pa n pc]] X fun e y => e = .returned (.tuple #[.agg #[.slice none 0 0, .int .i64 0, .int .i64 0], .int .i64 11]) ∧ X.grownBy y none := by
  refine (buildOk ta na la pa tc nc lc pc ts ns lv n L R ra rc V st X tn nn ln hlen (hG.kept hX) hc).mono ?_
  rintro e y (⟨ks', es', sa, sc, kv, ev, hau, rfl, hA, hg⟩ | ⟨hau, rfl, hg⟩)
  · have h2 := h.symm.trans hau
    cases h2
  · exact ⟨rfl, hg⟩
end

end Go.Proofs.YthoamlahbnphkaaGreat.J

/-
  trans: automatonOf.
-/
namespace Go.Proofs.YthoamlahbnphkaaGreat.J
open Go.RowKit Go.Maps Go.Shelf

attribute [local go_sem] Oper.semAt_some

theorem set7_heap {w : World} {g : Nat} {t : TypeId} {a0 a1 a2 a3 a4 a5 a6 : Value} (h : w.heap[g]? = some (.cells #[a0, a1, a2, a3, a4, a5, a6] t (0, 0))) (v0 v1 v2 v3 v4 v5 v6 : Value) :
    (((((((w.setCell ⟨g, 0, none⟩ v0).setCell ⟨g, 1, none⟩ v1).setCell ⟨g, 2, none⟩ v2).setCell ⟨g, 3, none⟩ v3).setCell ⟨g, 4, none⟩ v4).setCell ⟨g, 5, none⟩ v5).setCell ⟨g, 6, none⟩ v6).heap[g]? = some (.cells #[v0, v1, v2, v3, v4, v5, v6] t (0, 0)) := by
  have h0 : (w.setCell ⟨g, 0, none⟩ v0).heap[g]? = some (.cells #[v0, a1, a2, a3, a4, a5, a6] t (0, 0)) := heap_setCell_same _ g 0 _ _ v0 h
  have h1 : ((w.setCell ⟨g, 0, none⟩ v0).setCell ⟨g, 1, none⟩ v1).heap[g]? = some (.cells #[v0, v1, a2, a3, a4, a5, a6] t (0, 0)) := heap_setCell_same _ g 1 _ _ v1 h0
  have h2 : (((w.setCell ⟨g, 0, none⟩ v0).setCell ⟨g, 1, none⟩ v1).setCell ⟨g, 2, none⟩ v2).heap[g]? = some (.cells #[v0, v1, v2, a3, a4, a5, a6] t (0, 0)) := heap_setCell_same _ g 2 _ _ v2 h1
  have h3 : ((((w.setCell ⟨g, 0, none⟩ v0).setCell ⟨g, 1, none⟩ v1).setCell ⟨g, 2, none⟩ v2).setCell ⟨g, 3, none⟩ v3).heap[g]? = some (.cells #[v0, v1, v2, v3, a4, a5, a6] t (0, 0)) := heap_setCell_same _ g 3 _ _ v3 h2
  have h4 : (((((w.setCell ⟨g, 0, none⟩ v0).setCell ⟨g, 1, none⟩ v1).setCell ⟨g, 2, none⟩ v2).setCell ⟨g, 3, none⟩ v3).setCell ⟨g, 4, none⟩ v4).heap[g]? = some (.cells #[v0, v1, v2, v3, v4, a5, a6] t (0, 0)) := heap_setCell_same _ g 4 _ _ v4 h3
  have h5 : ((((((w.setCell ⟨g, 0, none⟩ v0).setCell ⟨g, 1, none⟩ v1).setCell ⟨g, 2, none⟩ v2).setCell ⟨g, 3, none⟩ v3).setCell ⟨g, 4, none⟩ v4).setCell ⟨g, 5, none⟩ v5).heap[g]? = some (.cells #[v0, v1, v2, v3, v4, v5, a6] t (0, 0)) := heap_setCell_same _ g 5 _ _ v5 h4
  have h6 : (((((((w.setCell ⟨g, 0, none⟩ v0).setCell ⟨g, 1, none⟩ v1).setCell ⟨g, 2, none⟩ v2).setCell ⟨g, 3, none⟩ v3).setCell ⟨g, 4, none⟩ v4).setCell ⟨g, 5, none⟩ v5).setCell ⟨g, 6, none⟩ v6).heap[g]? = some (.cells #[v0, v1, v2, v3, v4, v5, v6] t (0, 0)) := heap_setCell_same _ g 6 _ _ v6 h5
  exact h6
theorem set7_grown (w : World) (g : Nat) (v0 v1 v2 v3 v4 v5 v6 : Value) :
    w.grownBy (((((((w.setCell ⟨g, 0, none⟩ v0).setCell ⟨g, 1, none⟩ v1).setCell ⟨g, 2, none⟩ v2).setCell ⟨g, 3, none⟩ v3).setCell ⟨g, 4, none⟩ v4).setCell ⟨g, 5, none⟩ v5).setCell ⟨g, 6, none⟩ v6) (some g) :=
  grown_trans (grown_trans (grown_trans (grown_trans (grown_trans (grown_trans (grown_setCell _ _ _) (grown_setCell _ _ _)) (grown_setCell _ _ _)) (grown_setCell _ _ _)) (grown_setCell _ _ _)) (grown_setCell _ _ _)) (grown_setCell _ _ _)
theorem results_of (tmps : Array Value) (w : World) (g : Nat) (cs : Array Value) (x : Value) (h2 : tmps.getD 2 undef = .pointer (some ⟨g, 0, none⟩)) (h3 : tmps.getD 3 undef = x) (hg : w.heap[g]? = some (.cells cs 95 (0, 0))) (hs : cs.size = 7) :
    (results Tryz.f39 tmps).run Tryz.prog w = .ok (.tuple #[.agg cs, x]) w := by
  have h2' : tmps[2]?.getD undef = .pointer (some ⟨g, 0, none⟩) := by simpa using h2
  have h3' : tmps[3]?.getD undef = x := by simpa using h3
  have hl := run_loadVar_row (P := Tryz.prog) w g 95 95 cs (0, 0) _ hg Tryz.underlying95 rfl (by rw [hs]; kernel_rfl)
  simp [results, Tryz.results39, h2', h3', asAddr, hl]

section
variable (ta na la pa : Option Addr) (tc nc lc pc : Nat) (n : Nat) (st : Int) (w : World) (tn nn ln : Nat)

set_option maxRecDepth 100000 in
set_option maxHeartbeats 2000000 in
theorem of_bad (ec : Int) (hec : ec = 1 ∨ ec = 11)
    (hBU : ∀ X, w.grownBy X none → Calls Tryz.prog 22 #[.agg #[.slice ta tn tc, .slice na nn nc, .slice la ln lc, .int .i64 st, .slice pa n pc]] X fun e y => e = .returned (.tuple #[.agg #[.slice none 0 0, .int .i64 0, .int .i64 0], .int .i64 ec]) ∧ X.grownBy y none) :
    Calls Tryz.prog 39 #[.agg #[.slice ta tn tc, .slice na nn nc, .slice la ln lc, .int .i64 st, .slice pa n pc]] w fun e y => e = .returned (.tuple #[.agg #[.slice none 0 0, .slice none 0 0, .slice none 0 0, .int .i64 0, .slice none 0 0, .slice none 0 0, .map none], .int .i64 ec]) ∧ w.grownBy y none := by
  have HBU := show Hid _ from hBU
  have HX0 : Hid (w.grownBy ((w.alloc (.cells #[.slice ta tn tc, .slice na nn nc, .slice la ln lc, .int .i64 st, .slice pa n pc] 27)).alloc (.cells #[.slice none 0 0, .slice none 0 0, .slice none 0 0, .int .i64 0, .slice none 0 0, .slice none 0 0, .map none] 95)) none) := grown_trans (World.grownBy_alloc _ _ none) (World.grownBy_alloc _ _ none)
  have HB0 : Hid (((w.alloc (.cells #[.slice ta tn tc, .slice na nn nc, .slice la ln lc, .int .i64 st, .slice pa n pc] 27)).alloc (.cells #[.slice none 0 0, .slice none 0 0, .slice none 0 0, .int .i64 0, .slice none 0 0, .slice none 0 0, .map none] 95)).heap[w.heap.size + 1]? = some (.cells #[.slice none 0 0, .slice none 0 0, .slice none 0 0, .int .i64 0, .slice none 0 0, .slice none 0 0, .map none] 95 (0, 0))) := by
    have h := heap_alloc_last (w.alloc (.cells #[.slice ta tn tc, .slice na nn nc, .slice la ln lc, .int .i64 st, .slice pa n pc] 27)) (.cells #[.slice none 0 0, .slice none 0 0, .slice none 0 0, .int .i64 0, .slice none 0 0, .slice none 0 0, .map none] 95)
    rw [World.size_alloc] at h; exact h
  have hne : (ec != 0) = true := bne_iff_ne.2 (by omega)
  clear hBU hec
  go_enter Tryz.func39, Tryz.ntmps39
  go_wp2_with fail
  refine Calls.mono (HBU.out _ HX0.out) ?_
  rintro e w1 ⟨rfl, hg1⟩
  have HB1 : Hid ((w1.alloc (.cells #[.slice none 0 0, .int .i64 0, .int .i64 0] 59)).heap[w.heap.size + 1]? = some (.cells #[.slice none 0 0, .slice none 0 0, .slice none 0 0, .int .i64 0, .slice none 0 0, .slice none 0 0, .map none] 95 (0, 0))) := box_kept HB0.out (grown_trans hg1 (World.grownBy_alloc _ _ none))
  have HG1 : Hid (w.grownBy (w1.alloc (.cells #[.slice none 0 0, .int .i64 0, .int .i64 0] 59)) none) := grown_trans HX0.out (grown_trans hg1 (World.grownBy_alloc _ _ none))
  clear hg1 HB0 HX0
  obtain ⟨k0, k1, k2, k3, k4, k5, k6⟩ : _ ∧ _ ∧ _ ∧ _ ∧ _ ∧ _ ∧ _ := ⟨cell_of_row _ (w.heap.size + 1) 0 _ _ _ HB1.out, cell_of_row _ (w.heap.size + 1) 1 _ _ _ HB1.out, cell_of_row _ (w.heap.size + 1) 2 _ _ _ HB1.out, cell_of_row _ (w.heap.size + 1) 3 _ _ _ HB1.out, cell_of_row _ (w.heap.size + 1) 4 _ _ _ HB1.out, cell_of_row _ (w.heap.size + 1) 5 _ _ _ HB1.out, cell_of_row _ (w.heap.size + 1) 6 _ _ _ HB1.out⟩
  have kf := fun j => frozen_of_row _ (w.heap.size + 1) j _ _ HB1.out
  simp only [List.getElem?_toArray, List.getElem?_cons_zero, List.getElem?_cons_succ] at k0 k1 k2 k3 k4 k5 k6
  go_wp2_with fail
  refine bodyPost_ret (v := .tuple #[.agg #[.slice none 0 0, .slice none 0 0, .slice none 0 0, .int .i64 0, .slice none 0 0, .slice none 0 0, .map none], .int .i64 ec]) ?_ rfl ?_
  · exact results_of _ _ (w.heap.size + 1) _ _ rfl rfl (set7_heap HB1.out _ _ _ _ _ _ _) rfl
  · exact ⟨rfl, grown_new HG1.out (set7_grown _ _ _ _ _ _ _ _ _) (by omega)⟩
end

end Go.Proofs.YthoamlahbnphkaaGreat.J

/-
  trans: automatonOf, where there is an automaton.
-/
namespace Go.Proofs.YthoamlahbnphkaaGreat.J
open Go.RowKit Go.Maps Go.Shelf

attribute [local go_sem] Oper.semAt_some

/-- What automatonOf tells. -/
def OfTold (ta na la pa : Option Addr) (tc nc lc pc : Nat) (n : Nat) (st : Int) (tn nn ln : Nat) (ks : List (List It)) (es : List (List (Nat × Nat))) (w : World) (e : Ending) (y : World) : Prop :=
  ∃ (sa : Option Addr) (sc : Nat) (kv ev : Nat → Value) (lb m : Nat), e = .returned (.tuple #[.agg #[.slice ta tn tc, .slice na nn nc, .slice la ln lc, .int .i64 st, .slice pa n pc, .slice sa ks.length sc, .map (some lb)], .int .i64 0]) ∧ AutP w.heap.size y (.slice sa ks.length sc) ks (elF es) kv ev ∧ LdAt y lb m (leadA es) ∧ w.grownBy y none

section
variable (ta na la pa : Option Addr) (tc nc lc pc : Nat) (n : Nat) (st : Int) (w : World) (tn nn ln : Nat)

set_option maxRecDepth 100000 in
set_option maxHeartbeats 4000000 in
theorem of_ok (ask : Nat) (ks : List (List It)) (es : List (List (Nat × Nat))) (hN256 : ks.length ≤ 256) (hel : es.length = ks.length) (hes : ∀ q, q < ks.length → (es.getD q []).length ≤ 130 ∧ ((es.getD q []).map Prod.fst).Nodup ∧ ∀ x ∈ es.getD q [], x.1 < 130 ∧ x.2 < 256)
    (hBU : ∀ X, w.grownBy X none → Calls Tryz.prog 22 #[.agg #[.slice ta tn tc, .slice na nn nc, .slice la ln lc, .int .i64 st, .slice pa n pc]] X fun e y => ∃ sa sc kv ev, e = .returned (.tuple #[.agg #[.slice sa ks.length sc, .int .i64 (ask : Int), .int .i64 (ks.length : Int)], .int .i64 0]) ∧ AutP w.heap.size y (.slice sa ks.length sc) ks (elF es) kv ev ∧ X.grownBy y none) :
    Calls Tryz.prog 39 #[.agg #[.slice ta tn tc, .slice na nn nc, .slice la ln lc, .int .i64 st, .slice pa n pc]] w fun e y => OfTold ta na la pa tc nc lc pc n st tn nn ln ks es w e y := by
  have HBU := show Hid _ from hBU
  have HES := show Hid _ from hes
  have HEL : Hid (es.length = ks.length) := hel
  have HX0 : Hid (PhAt w ((w.alloc (.cells #[.slice ta tn tc, .slice na nn nc, .slice la ln lc, .int .i64 st, .slice pa n pc] 27)).alloc (.cells #[.slice none 0 0, .slice none 0 0, .slice none 0 0, .int .i64 0, .slice none 0 0, .slice none 0 0, .map none] 95)) w.heap.size #[.slice ta tn tc, .slice na nn nc, .slice la ln lc, .int .i64 st, .slice pa n pc]) := PhAt.kept ⟨World.grownBy_alloc _ _ none, heap_alloc_last w _⟩ (World.grownBy_alloc _ _ none)
  have HB0 : Hid (((w.alloc (.cells #[.slice ta tn tc, .slice na nn nc, .slice la ln lc, .int .i64 st, .slice pa n pc] 27)).alloc (.cells #[.slice none 0 0, .slice none 0 0, .slice none 0 0, .int .i64 0, .slice none 0 0, .slice none 0 0, .map none] 95)).heap[w.heap.size + 1]? = some (.cells #[.slice none 0 0, .slice none 0 0, .slice none 0 0, .int .i64 0, .slice none 0 0, .slice none 0 0, .map none] 95 (0, 0))) := by
    have h := heap_alloc_last (w.alloc (.cells #[.slice ta tn tc, .slice na nn nc, .slice la ln lc, .int .i64 st, .slice pa n pc] 27)) (.cells #[.slice none 0 0, .slice none 0 0, .slice none 0 0, .int .i64 0, .slice none 0 0, .slice none 0 0, .map none] 95)
    rw [World.size_alloc] at h; exact h
  have hmm := @run_makeMap Tryz.prog
  obtain ⟨N, hN⟩ : ∃ n, n = ks.length := ⟨_, rfl⟩
  have HN : Hid (N = ks.length) := hN
  rw [← hN] at hN256 HBU
  clear hBU hes hel hN
  go_enter Tryz.func39, Tryz.ntmps39
  go_wp2_with fail
  refine Calls.mono (HBU.out _ HX0.out.grown) ?_
  rintro e w1 ⟨sa, sc, kv, ev, rfl, hAP, hg1⟩
  obtain ⟨W, hW⟩ : ∃ W, W = w1.alloc (.cells #[.slice sa N sc, .int .i64 (ask : Int), .int .i64 (N : Int)] 59) := ⟨_, rfl⟩
  obtain ⟨ab, hab⟩ : ∃ b, b = w1.heap.size := ⟨_, rfl⟩
  have hgW : w1.grownBy W none := by rw [hW]; exact World.grownBy_alloc _ _ none
  have HXW : Hid (PhAt w W w.heap.size #[.slice ta tn tc, .slice na nn nc, .slice la ln lc, .int .i64 st, .slice pa n pc]) := HX0.out.kept (grown_trans hg1 hgW)
  have HBW : Hid (W.heap[w.heap.size + 1]? = some (.cells #[.slice none 0 0, .slice none 0 0, .slice none 0 0, .int .i64 0, .slice none 0 0, .slice none 0 0, .map none] 95 (0, 0))) := box_kept HB0.out (grown_trans hg1 hgW)
  have HAW : Hid (W.heap[ab]? = some (.cells #[.slice sa N sc, .int .i64 (ask : Int), .int .i64 (N : Int)] 59 (0, 0))) := by rw [hW, hab]; exact heap_alloc_last w1 _
  have HPW : Hid (AutP w.heap.size W (.slice sa N sc) ks (elF es) kv ev) := hAP.kept hgW
  have HWE := show Hid _ from hW
  have HBE := show Hid _ from hab
  clear hg1 hAP HX0 HB0 hgW hW hab
  have y0 : (w1.alloc (.cells #[.slice sa N sc, .int .i64 (ask : Int), .int .i64 (N : Int)] 59)).cell? ⟨w1.heap.size, 0, none⟩ = some (.slice sa N sc) := by rw [← HWE.out, ← HBE.out, cell_of_row _ _ _ _ _ _ HAW.out]; rfl
  have y1 : ∀ o, ((w1.alloc (.cells #[.slice sa N sc, .int .i64 (ask : Int), .int .i64 (N : Int)] 59)).alloc o).cell? ⟨w1.heap.size, 0, none⟩ = some (.slice sa N sc) := fun o => (World.grownBy_alloc _ o none).cell y0 (by simp)
  go_wp2_with fail
  rw [← HWE.out, ← HBE.out]
  clear y0 y1
  obtain ⟨lb, hlb⟩ : ∃ b, b = W.heap.size := ⟨_, rfl⟩
  have HLB : Hid (W.heap.size ≤ lb) := by show _ ≤ _; omega
  have HLE : Hid (lb = ab + 1) := by show _ = _; rw [hlb, HWE.out, World.size_alloc, HBE.out]
  rw [← HLE.out]
  have HL0 : Hid (LdAt (W.alloc (.map #[] 0)) lb 0 (leadT es 0 0)) := by
    rw [leadT_zero, hlb]; exact LdAt.made W
  clear hlb HWE HBE HLE
  go_loopg [24] N (fun gk v24 wr => ∃ i m : Nat, i ≤ N ∧ gk = N - i ∧ v24 = .int .i64 i ∧ m ≤ i * 130 ∧ W.grownBy wr none ∧ LdAt wr lb m (leadT es i 0))
  case atStart => exact ⟨0, 0, Nat.zero_le _, rfl, rfl, Nat.le_refl _, World.grownBy_alloc _ _ none, HL0.out⟩
  case round =>
    obtain ⟨i, m, hi, hgi, rfl, hm, hg, hL⟩ := hrel
    have HGI : Hid (gk = N - i) := hgi
    have HG : Hid (W.grownBy wr none) := hg
    have HL : Hid (LdAt wr lb m (leadT es i 0)) := hL
    clear hgi hg hL HL0
    generalize wr = Z at *
    by_cases hlt : i < N
    · have hid : decide (i < N) = true := decide_eq_true hlt
      have hi0 : (0 : Int) ≤ (i : Int) := by omega
      have hi1 : (i : Int) < (N : Int) := by omega
      have hik : i < ks.length := by rw [← HN.out]; exact hlt
      have hPZ : AutP w.heap.size Z (.slice sa N sc) ks (elF es) kv ev := HPW.out.kept HG.out
      rw [HN.out] at hPZ
      obtain ⟨sb, sc', hsv, hs0, hs1⟩ := hPZ.st hik
      simp only [Value.slice.injEq] at hsv
      obtain ⟨rfl, _, rfl⟩ := hsv
      obtain ⟨ka, kc, hkv, _, _⟩ := hPZ.kerAt hik
      obtain ⟨ea, ec, hev, _⟩ := hPZ.edgAt hik
      have HEA : Hid (∀ Y, W.grownBy Y none → ItsAt Y ea (elF es i)) := fun Y hY => by
        have h := HPW.out.kept hY
        rw [HN.out] at h
        obtain ⟨ea2, ec2, h1, h2⟩ := h.edgAt hik
        rw [hev] at h1
        simp only [Value.slice.injEq] at h1
        rw [h1.1]; exact h2
      rw [hkv] at hs0
      rw [hev] at hs1
      obtain ⟨kl, hkl⟩ : ∃ k, k = (ks.getD i []).length := ⟨_, rfl⟩
      obtain ⟨E, hE⟩ : ∃ E, E = (elF es i).length := ⟨_, rfl⟩
      rw [← hkl] at hs0
      rw [← hE] at hs1
      have HE : Hid (E = (es.getD i []).length) := by show _ = _; rw [hE]; exact elF_len _ _
      have hEb : E ≤ 130 := by rw [HE.out]; exact (HES.out i hik).1
      clear hkl hE hkv hev hPZ
      go_wp2_with fail
      go_loopg [32] E (fun gk v32 wr => ∃ j m' : Nat, j ≤ E ∧ gk = E - j ∧ v32 = .int .i64 j ∧ m' ≤ i * 130 + j ∧ W.grownBy wr none ∧ LdAt wr lb m' (leadT es i j))
      case atStart => exact ⟨0, m, Nat.zero_le _, rfl, rfl, hm, grown_trans HG.out (World.grownBy_alloc _ _ none), HL.out.kept (World.grownBy_alloc _ _ none) (by simp)⟩
      case round =>
        obtain ⟨j, m', hj, hgj, rfl, hm', hg2, hL2⟩ := hrel
        have HGJ : Hid (gk = E - j) := hgj
        have HG2 : Hid (W.grownBy wr none) := hg2
        have HL2 : Hid (LdAt wr lb m' (leadT es i j)) := hL2
        clear hgj hg2 hL2
        by_cases hlj : j < E
        · have hjd : decide (j < E) = true := decide_eq_true hlj
          have hj0 : (0 : Int) ≤ (j : Int) := by omega
          have hj1 : (j : Int) < (E : Int) := by omega
          have hje : j < (es.getD i []).length := by rw [← HE.out]; exact hlj
          obtain ⟨eb, eo, hea, c0, c1⟩ := (HEA.out wr HG2.out).cellAt (i := j) (by rw [elF_len]; exact hje)
          subst hea
          rw [(elF_at hje).2] at c0 c1
          obtain ⟨x, hx⟩ : ∃ x, x = (es.getD i []).getD j (0, 0) := ⟨_, rfl⟩
          have hxb := (HES.out i hik).2.2 x (by
            rw [hx]
            generalize es.getD i [] = l at hje ⊢
            rw [List.getD_eq_getElem?_getD, List.getElem?_eq_getElem hje]; exact List.getElem_mem hje)
          rw [← hx] at c0 c1
          obtain ⟨s, t⟩ := x
          simp only at c0 c1 hxb
          obtain ⟨W', hrun, hld, hgr⟩ := (HL2.out.kept (World.grownBy_alloc wr (.cells #[.int .i64 (s : Int), .int .i64 (t : Int)] 115) none) (by simp)).update (by unfold maxLen; omega) (x := ((i : Int), (s : Int))) ⟨WalkArith.wf_i64 ⟨by omega, by omega⟩, WalkArith.wf_i64 ⟨by omega, by omega⟩⟩ (t : Int)
          rw [leadT_step hje hx.symm (HES.out i hik).2.1] at hld
          have HLD : Hid (LdAt W' lb (m' + 1) (leadT es i (j + 1))) := hld
          have HG3 : Hid (W.grownBy W' none) := grown_new (grown_trans HG2.out (World.grownBy_alloc _ _ none)) hgr HLB.out
          have hrun' : (Instr.mapUpdate 93 (.map (some lb)) (.agg #[.int .i64 (i : Int), .int .i64 (s : Int)]) (.int .i64 (t : Int))).run Tryz.prog (wr.alloc (.cells #[.int .i64 (s : Int), .int .i64 (t : Int)] 115)) = .ok () W' := hrun
          clear hx hld hgr hrun hje hxb
          go_wp2_with fail
          go_roundg (E - (j + 1))
          case measure => have := HGJ.out; omega
          case rel => exact ⟨j + 1, m' + 1, by omega, rfl, by go_num, by omega, HG3.out, HLD.out⟩
        · have hjE : E = j := by omega
          subst hjE
          have hjd : decide (E < E) = false := decide_eq_false (by omega)
          have HL3 : Hid (LdAt wr lb m' (leadT es (i + 1) 0)) := by
            rw [← leadT_row, ← HE.out]; exact HL2.out
          go_wp2_with fail
          go_roundg (N - (i + 1))
          case measure => have := HGI.out; omega
          case rel => exact ⟨i + 1, m', by omega, rfl, by go_num, by omega, HG2.out, HL3.out⟩
    · have hiN : N = i := by omega
      subst hiN
      have hid : decide (N < N) = false := decide_eq_false (by omega)
      have HLA : Hid (LdAt Z lb m (leadA es)) := by
        have h := HL.out
        rw [HN.out, ← HEL.out] at h
        exact h
      have HBZ : Hid (Z.heap[w.heap.size + 1]? = some (.cells #[.slice none 0 0, .slice none 0 0, .slice none 0 0, .int .i64 0, .slice none 0 0, .slice none 0 0, .map none] 95 (0, 0))) := box_kept HBW.out HG.out
      obtain ⟨k0, k1, k2, k3, k4⟩ := (HXW.out.kept HG.out).cells
      have y0 : Z.cell? ⟨ab, 0, none⟩ = some (.slice sa N sc) := by rw [cell_of_row _ _ _ _ _ _ (box_kept HAW.out HG.out)]; rfl
      have hbd : ∀ u, (Instr.build 95 #[(0, .agg #[.slice ta tn tc, .slice na nn nc, .slice la ln lc, .int .i64 st, .slice pa n pc]), (1, .slice sa N sc), (2, .map (some lb))]).run Tryz.prog u = .ok (.agg #[.slice ta tn tc, .slice na nn nc, .slice la ln lc, .int .i64 st, .slice pa n pc, .slice sa N sc, .map (some lb)]) u := fun u => run_build u _ _ _ (by kernel_rfl)
      obtain ⟨q0, q1, q2, q3, q4, q5, q6⟩ : _ ∧ _ ∧ _ ∧ _ ∧ _ ∧ _ ∧ _ := ⟨cell_of_row _ (w.heap.size + 1) 0 _ _ _ HBZ.out, cell_of_row _ (w.heap.size + 1) 1 _ _ _ HBZ.out, cell_of_row _ (w.heap.size + 1) 2 _ _ _ HBZ.out, cell_of_row _ (w.heap.size + 1) 3 _ _ _ HBZ.out, cell_of_row _ (w.heap.size + 1) 4 _ _ _ HBZ.out, cell_of_row _ (w.heap.size + 1) 5 _ _ _ HBZ.out, cell_of_row _ (w.heap.size + 1) 6 _ _ _ HBZ.out⟩
      have kf := fun j => frozen_of_row _ (w.heap.size + 1) j _ _ HBZ.out
      simp only [List.getElem?_toArray, List.getElem?_cons_zero, List.getElem?_cons_succ] at q0 q1 q2 q3 q4 q5 q6
      go_wp2_with fail
      refine bodyPost_ret (v := .tuple #[.agg #[.slice ta tn tc, .slice na nn nc, .slice la ln lc, .int .i64 st, .slice pa n pc, .slice sa N sc, .map (some lb)], .int .i64 0]) ?_ rfl ?_
      · exact results_of _ _ (w.heap.size + 1) _ _ rfl rfl (set7_heap HBZ.out _ _ _ _ _ _ _) rfl
      · have hgs := set7_grown Z (w.heap.size + 1) (.slice ta tn tc) (.slice na nn nc) (.slice la ln lc) (.int .i64 st) (.slice pa n pc) (.slice sa N sc) (.map (some lb))
        obtain ⟨mes, mcl, hobj⟩ := HLA.out.obj
        have hP9 := HPW.out.kept HG.out
        rw [HN.out] at hP9
        refine ⟨sa, sc, kv, ev, lb, m, by rw [← HN.out], ⟨hP9.row.kept hgs (owns_nebox hP9.row HBZ.out (by decide)), fun i hi => (hP9.ker i hi).kept hgs (owns_nebox (hP9.ker i hi) HBZ.out (by decide)), fun i hi => (hP9.edg i hi).kept hgs (owns_nebox (hP9.edg i hi) HBZ.out (by decide))⟩, HLA.out.kept hgs ?_, grown_new (grown_trans HXW.out.grown HG.out) hgs (by omega)⟩
        intro e
        have e2 : lb = w.heap.size + 1 := by simpa using e
        rw [e2, HBZ.out] at hobj
        cases hobj
end

end Go.Proofs.YthoamlahbnphkaaGreat.J

/-
  trans: walk, isTerm, isNoSymbol.
-/
namespace Go.Proofs.YthoamlahbnphkaaGreat.J
open Go.RowKit Go.Maps Go.Shelf

attribute [local go_sem] Oper.semAt_some

theorem cells7 {X : World} {b : Nat} {v0 v1 v2 v3 v4 v5 v6 : Value} {t : TypeId} (h : X.heap[b]? = some (.cells #[v0, v1, v2, v3, v4, v5, v6] t (0, 0))) : X.cell? ⟨b, 0, none⟩ = some v0 ∧ X.cell? ⟨b, 1, none⟩ = some v1 ∧ X.cell? ⟨b, 2, none⟩ = some v2 ∧ X.cell? ⟨b, 3, none⟩ = some v3 ∧ X.cell? ⟨b, 4, none⟩ = some v4 ∧ X.cell? ⟨b, 5, none⟩ = some v5 ∧ X.cell? ⟨b, 6, none⟩ = some v6 := by
  refine ⟨?_, ?_, ?_, ?_, ?_, ?_, ?_⟩ <;> (rw [cell_of_row _ _ _ _ _ _ h]; rfl)
/-- Where edges lead: to states. -/
def LeadOK (es : List (List (Nat × Nat))) : Prop := ∀ x v, leadA es x = some v → 0 ≤ v ∧ v < 256
theorem wayF_take (es : List (List (Nat × Nat))) {row : List Int} {j : Nat} (hj : j < row.length) (q : Option Int) : wayF es q (row.take (j + 1)) = wayF es (wayF es q (row.take j)) [row.getD j 0] := by
  rw [List.take_succ_eq_append_getElem hj, wayF_append, List.getD_eq_getElem?_getD, List.getElem?_eq_getElem hj]; rfl
theorem wayF_lost (es : List (List (Nat × Nat))) {row : List Int} {j : Nat} (q : Option Int) (h : wayF es q (row.take j) = none) : wayF es q row = none := by
  have h1 : row = row.take j ++ row.drop j := (List.take_append_drop j row).symm
  rw [h1, wayF_append, h, wayF_none]

section
variable (ta na la pa sa : Option Addr) (tc nc lc pc sc : Nat) (n N lb : Nat) (st : Int) (w : World) (tn nn ln : Nat)

theorem isTerm_any (s : Int) (b : Bool) (hb : b = decide (s < (tn : Int))) : Calls Tryz.prog 93 #[.agg #[.slice ta tn tc, .slice na nn nc, .slice la ln lc, .int .i64 st, .slice pa n pc, .slice sa N sc, .map (some lb)], .int .i64 s] w fun e y => e = .returned (.bool b) ∧ w.grownBy y none := by
  have HG0 : Hid (w.grownBy (w.alloc (.cells #[.slice ta tn tc, .slice na nn nc, .slice la ln lc, .int .i64 st, .slice pa n pc, .slice sa N sc, .map (some lb)] 95)) none) := World.grownBy_alloc _ _ none
  subst hb
  go_enter Tryz.func93, Tryz.ntmps93
  go_wp2_with fail
  go_ret
  exact ⟨rfl, HG0.out⟩

theorem isNoSym_any (htn : tn ≤ 65) (hnn : nn ≤ 65) (s : Int) (b : Bool) (hb : b = !(decide (0 ≤ s ∧ s < ((tn + nn : Nat) : Int)))) : Calls Tryz.prog 41 #[.agg #[.slice ta tn tc, .slice na nn nc, .slice la ln lc, .int .i64 st, .slice pa n pc, .slice sa N sc, .map (some lb)], .int .i64 s] w fun e y => e = .returned (.bool b) ∧ w.grownBy y none := by
  have HG0 : Hid (w.grownBy (w.alloc (.cells #[.slice ta tn tc, .slice na nn nc, .slice la ln lc, .int .i64 st, .slice pa n pc, .slice sa N sc, .map (some lb)] 95)) none) := World.grownBy_alloc _ _ none
  have HB : Hid (b = !(decide (0 ≤ s ∧ s < ((tn + nn : Nat) : Int)))) := hb
  clear hb
  by_cases h0 : s < 0
  · have hd : decide (s < 0) = true := decide_eq_true h0
    have HBB : Hid (b = true) := by show b = true; rw [HB.out, decide_eq_false (by omega)]; rfl
    go_enter Tryz.func41, Tryz.ntmps41
    go_wp2_with fail
    go_ret
    exact ⟨by rw [HBB.out]; rfl, HG0.out⟩
  · have hd : decide (s < 0) = false := decide_eq_false h0
    have hw : IntKind.i64.wrap ((tn : Int) + (nn : Int)) = (tn : Int) + (nn : Int) := by rw [IntKind.wrap_i64]; omega
    obtain ⟨k, rfl⟩ : ∃ k : Nat, s = (k : Int) := ⟨s.toNat, by omega⟩
    by_cases h1 : k < tn + nn
    · have hd1 : decide ((tn : Int) + (nn : Int) ≤ (k : Int)) = false := decide_eq_false (by omega)
      have hd2 : decide (tn + nn ≤ k) = false := decide_eq_false (by omega)
      have HBB : Hid (b = false) := by show b = false; rw [HB.out, decide_eq_true (by omega)]; rfl
      go_enter Tryz.func41, Tryz.ntmps41
      go_wp2_with fail
      go_ret
      exact ⟨by rw [HBB.out]; rfl, HG0.out⟩
    · have hd1 : decide ((tn : Int) + (nn : Int) ≤ (k : Int)) = true := decide_eq_true (by omega)
      have hd2 : decide (tn + nn ≤ k) = true := decide_eq_true (by omega)
      have HBB : Hid (b = true) := by show b = true; rw [HB.out, decide_eq_false (by omega)]; rfl
      go_enter Tryz.func41, Tryz.ntmps41
      go_wp2_with fail
      go_ret
      exact ⟨by rw [HBB.out]; rfl, HG0.out⟩

set_option maxRecDepth 100000 in
set_option maxHeartbeats 2000000 in
theorem walk_any (m : Nat) (es : List (List (Nat × Nat))) (hL : LdAt w lb m (leadA es)) (hOK : LeadOK es) (q : Nat) (hq : q ≤ 256) (ra : Option Addr) (rc : Nat) (row : List Int) (hr : IntsAt w ra row) (hrb : row.length ≤ 1099511627776000) (hrw : ∀ x ∈ row, (Lit.int .i64 x).wf = true) :
    Calls Tryz.prog 42 #[.agg #[.slice ta tn tc, .slice na nn nc, .slice la ln lc, .int .i64 st, .slice pa n pc, .slice sa N sc, .map (some lb)], .int .i64 (q : Int), .slice ra row.length rc] w fun e y => e = .returned (.int .i64 (wayV (wayF es (some (q : Int)) row))) ∧ w.grownBy y none := by
  have HL : Hid (∀ Y, w.grownBy Y none → LdAt Y lb m (leadA es)) := fun Y hY => hL.kept hY (by simp)
  have HR : Hid (∀ Y, w.grownBy Y none → IntsAt Y ra row) := fun Y hY => hr.kept hY
  have HRW := show Hid _ from hrw
  have HOK : Hid (LeadOK es) := hOK
  have HB0 : Hid ((w.alloc (.cells #[.slice ta tn tc, .slice na nn nc, .slice la ln lc, .int .i64 st, .slice pa n pc, .slice sa N sc, .map (some lb)] 95)).heap[w.heap.size]? = some (.cells #[.slice ta tn tc, .slice na nn nc, .slice la ln lc, .int .i64 st, .slice pa n pc, .slice sa N sc, .map (some lb)] 95 (0, 0))) := heap_alloc_last w _
  obtain ⟨M, hM⟩ : ∃ m, m = row.length := ⟨_, rfl⟩
  have HM : Hid (M = row.length) := hM
  rw [← hM] at hrb ⊢
  clear hL hr hrw hOK hM
  go_enter Tryz.func42, Tryz.ntmps42
  go_wp2_with fail
  obtain ⟨W, hW⟩ : ∃ W, W = w.alloc (.cells #[.slice ta tn tc, .slice na nn nc, .slice la ln lc, .int .i64 st, .slice pa n pc, .slice sa N sc, .map (some lb)] 95) := ⟨_, rfl⟩
  rw [← hW] at HB0 ⊢
  have HGW : Hid (w.grownBy W none) := by rw [hW]; exact World.grownBy_alloc _ _ none
  clear hW
  go_loopg [7, 15] M (fun gk v7 v15 wr => ∃ (j : Nat) (p : Nat), j ≤ M ∧ gk = M - j ∧ v15 = .int .i64 j ∧ v7 = .int .i64 (p : Int) ∧ p ≤ 256 ∧ wayF es (some (q : Int)) (row.take j) = some (p : Int) ∧ W.grownBy wr none)
  case atStart => exact ⟨0, q, Nat.zero_le _, rfl, rfl, rfl, hq, rfl, grown_refl _ _⟩
  case round =>
    obtain ⟨j, p, hj, hgj, rfl, rfl, hp, hwy, hg⟩ := hrel
    have HGJ : Hid (gk = M - j) := hgj
    have HWY : Hid (wayF es (some (q : Int)) (row.take j) = some (p : Int)) := hwy
    have HG : Hid (W.grownBy wr none) := hg
    clear hgj hwy hg
    by_cases hlt : j < M
    · have hj0 : (0 : Int) ≤ (j : Int) := by omega
      have hj1 : (j : Int) < (M : Int) := by omega
      have hjd : decide (j < M) = true := decide_eq_true hlt
      have hjl : j < row.length := by rw [← HM.out]; exact hlt
      obtain ⟨rb, ro, hra, c0⟩ : ∃ b off, ra = some ⟨b, off, none⟩ ∧ wr.cell? ⟨b, off + j, none⟩ = some (.int .i64 (row.getD j 0)) := by
        rcases HR.out wr (grown_trans HGW.out HG.out) with h | ⟨b, off, e, h⟩
        · rw [h] at hjl; cases hjl
        · exact ⟨b, off, e, h j hjl⟩
      subst hra
      have hws := HRW.out (row.getD j 0) (by rw [List.getD_eq_getElem?_getD, List.getElem?_eq_getElem hjl]; exact List.getElem_mem hjl)
      have hst := wayF_take es hjl (some (q : Int))
      rw [HWY.out] at hst
      obtain ⟨s, hs⟩ : ∃ s, s = row.getD j 0 := ⟨_, rfl⟩
      rw [← hs] at c0 hws hst
      have hst2 : wayF es (some (p : Int)) [s] = leadA es ((p : Int), s) := rfl
      rw [hst2] at hst
      have HST : Hid (wayF es (some (q : Int)) (row.take (j + 1)) = leadA es ((p : Int), s)) := hst
      have hlk : (Instr.lookup 93 (.map (some lb)) (.agg #[.int .i64 (p : Int), .int .i64 s]) true).run Tryz.prog wr = .ok (.tuple #[.int .i64 ((leadA es ((p : Int), s)).getD 0), .bool (leadA es ((p : Int), s)).isSome]) wr := (HL.out wr (grown_trans HGW.out HG.out)).look (x := ((p : Int), s)) ⟨WalkArith.wf_i64 ⟨by omega, by omega⟩, hws⟩
      obtain ⟨_, _, _, _, _, k5, k6⟩ := cells7 (box_kept HB0.out HG.out)
      clear hs hst hst2 hws hjl
      cases hle : leadA es ((p : Int), s) with
      | none =>
        rw [hle] at hlk HST
        simp only [Option.getD_none, Option.isSome_none] at hlk
        have HNO : Hid (wayF es (some (q : Int)) row = none) := wayF_lost es _ HST.out
        clear hle
        go_wp2_with fail
        go_ret
        exact ⟨by rw [HNO.out]; rfl, grown_trans HGW.out HG.out⟩
      | some v =>
        have hv := HOK.out _ _ hle
        rw [hle] at hlk HST
        obtain ⟨t, rfl⟩ : ∃ t : Nat, v = (t : Int) := ⟨v.toNat, by omega⟩
        simp only [Option.getD_some, Option.isSome_some] at hlk
        clear hle
        go_wp2_with fail
        go_roundg (M - (j + 1))
        case measure => have := HGJ.out; omega
        case rel => exact ⟨j + 1, t, by omega, rfl, by go_num, rfl, by omega, HST.out, HG.out⟩
    · have hjM : M = j := by omega
      subst hjM
      have hjd : decide (M < M) = false := decide_eq_false (by omega)
      have HFN : Hid (wayF es (some (q : Int)) row = some (p : Int)) := by
        have h := HWY.out
        rw [HM.out, List.take_length] at h
        exact h
      go_wp2_with fail
      go_ret
      exact ⟨by rw [HFN.out]; rfl, grown_trans HGW.out HG.out⟩
end

end Go.Proofs.YthoamlahbnphkaaGreat.J
