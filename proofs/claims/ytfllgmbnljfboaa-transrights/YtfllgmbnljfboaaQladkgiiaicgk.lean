import Derived.Test.YtfllgmbnljfboaaQjiddaakaoiaf
import Derived.Deep.RegionHeld3

/-
  lr0: an automaton in memory, read.
-/
namespace Go.Proofs.Ytfllgmbnljfboaa.J
open Go.RowKit Go.Maps Go.Shelf

theorem own_nil {X : World} {B e s n c : Nat} {a : Option Addr} {xs : List Value} (h : X.ownsRow B e s (.slice a n c) n xs) : a = none → n = 0 ∧ c = 0 := fun e => by
  rcases h.2 with ⟨h1, h2⟩ | ⟨g, cap, cur, h1, _⟩
  · simp only [Value.slice.injEq] at h1
    exact ⟨h2, h1.2.2⟩
  · simp only [Value.slice.injEq] at h1
    rw [e] at h1
    cases h1.1
theorem ItsAt.cellAt {X : World} {a : Option Addr} {l : List It} (h : ItsAt X a l) {i : Nat} (hi : i < l.length) : ∃ b off, a = some ⟨b, off, none⟩ ∧ X.cell? ⟨b, off + i * 2, none⟩ = some (.int .i64 (l.getD i (0, 0)).1) ∧ X.cell? ⟨b, off + i * 2 + 1, none⟩ = some (.int .i64 (l.getD i (0, 0)).2) := by
  rcases h with h | ⟨b, off, e, h⟩
  · rw [h] at hi; cases hi
  · exact ⟨b, off, e, h i hi⟩
theorem ItsAt.ofT {X : World} {B c e : Nat} {a : Option Addr} {l : List It} (h : X.ownsRow B e 2 (.slice a l.length c) l.length (itsV l)) : ItsAt X a l := by
  rcases h.2 with ⟨h', h2⟩ | ⟨g, cap, cur, hv, hB, hh, _, _, hs, ht⟩
  · left
    exact List.eq_nil_of_length_eq_zero h2
  · right
    simp only [Value.slice.injEq] at hv
    refine ⟨g, 0, hv.1, fun i hi => ?_⟩
    obtain ⟨h3, h4⟩ := itsV_at l i hi
    rw [← ht, List.getElem?_take, if_pos (by omega)] at h3 h4
    rw [Nat.zero_add, cell_of_row _ _ _ _ _ _ hh, cell_of_row _ _ _ _ _ _ hh]
    exact ⟨by simpa using h3, by simpa using h4⟩
/-- The cells of an automaton that is read. -/
theorem AutP.st {B : Nat} {X : World} {v : Value} {ks : List (List It)} {el : Nat → List It} {kv ev : Nat → Value} (h : AutP B X v ks el kv ev) {q : Nat} (hq : q < ks.length) : ∃ g c, v = .slice (some ⟨g, 0, none⟩) ks.length c ∧ X.cell? ⟨g, q * 2, none⟩ = some (kv q) ∧ X.cell? ⟨g, q * 2 + 1, none⟩ = some (ev q) := by
  obtain ⟨g, c, e, h1⟩ := owns_at h.row (by omega)
  exact ⟨g, c, e, h1 _ _ (stV_at kv ev _ q hq).1, h1 _ _ (stV_at kv ev _ q hq).2⟩
theorem AutP.kerAt {B : Nat} {X : World} {v : Value} {ks : List (List It)} {el : Nat → List It} {kv ev : Nat → Value} (h : AutP B X v ks el kv ev) {q : Nat} (hq : q < ks.length) : ∃ a c, kv q = .slice a (ks.getD q []).length c ∧ ItsAt X a (ks.getD q []) ∧ (a = none → (ks.getD q []).length = 0 ∧ c = 0) := by
  have h1 := h.ker q hq
  obtain ⟨a, c, e⟩ := owns_cut h1
  rw [e] at h1
  exact ⟨a, c, e, ItsAt.of h1, own_nil h1⟩
theorem AutP.edgAt {B : Nat} {X : World} {v : Value} {ks : List (List It)} {el : Nat → List It} {kv ev : Nat → Value} (h : AutP B X v ks el kv ev) {q : Nat} (hq : q < ks.length) : ∃ a c, ev q = .slice a (el q).length c ∧ ItsAt X a (el q) := by
  have h1 := h.edg q hq
  obtain ⟨a, c, e⟩ := owns_cut h1
  rw [e] at h1
  exact ⟨a, c, e, ItsAt.ofT h1⟩
theorem elF_at {es : List (List (Nat × Nat))} {q i : Nat} (hi : i < (es.getD q []).length) : (elF es q).length = (es.getD q []).length ∧ (elF es q).getD i (0, 0) = (((((es.getD q []).getD i (0, 0)).1 : Nat) : Int), ((((es.getD q []).getD i (0, 0)).2 : Nat) : Int)) := by
  unfold elF
  generalize es.getD q [] = l at hi ⊢
  refine ⟨edI_len l, ?_⟩
  unfold edI
  rw [List.getD_eq_getElem?_getD, List.getD_eq_getElem?_getD, List.getElem?_map, List.getElem?_eq_getElem hi]; rfl
theorem elF_len (es : List (List (Nat × Nat))) (q : Nat) : (elF es q).length = (es.getD q []).length := edI_len _

theorem AutP.base {B B' : Nat} {X : World} {v : Value} {ks : List (List It)} {el : Nat → List It} {kv ev : Nat → Value} (h : AutP B X v ks el kv ev) (hb : B' ≤ B) : AutP B' X v ks el kv ev :=
  ⟨owns_base h.row hb, fun i hi => owns_base (h.ker i hi) hb, fun i hi => owns_base (h.edg i hi) hb⟩
theorem PJ.len {n : Nat} {R : Nat → List Int} {i : Nat} {k : List It} (h : PJ n R i k) (hi : i ≤ 257) : k.length ≤ 3341001 := by
  have h1 := h.2
  have h2 : 13000 * i ≤ 13000 * 257 := Nat.mul_le_mul_left _ hi
  omega
section
variable (ta na la pa : Option Addr) (tc nc lc pc : Nat) (ts : List (ByteArray × Int)) (ns : List ByteArray) (lv : List Int) (n : Nat) (L : Nat → Int) (R : Nat → List Int) (ra : Nat → Option Addr) (rc : Nat → Nat) (V : Nat → Int) (st : Int) (w : World) (tn nn ln : Nat) (hlen : ts.length = tn ∧ ns.length = nn ∧ lv.length = ln) (hG : GAt w ta na la pa tc nc lc pc ts ns lv n L R ra rc V)
include hlen hG
/-- Build, where there is an automaton: one for all worlds. -/
theorem build_some (hc : closedOK ts ns lv st n L R V) {ks : List (List It)} {es : List (List (Nat × Nat))} (h : autoF (GG tn n L R) (tn + nn) 256 = some (ks, es)) (X : World) (hX : w.grownBy X none) : Calls Try.prog 13 #[.agg #[.slice ta tn tc, .slice na nn nc, .slice la ln lc, .int .i64 st, .slice pa n pc]] X fun e y => ∃ sa sc kv ev, e = .returned (.tuple #[.agg #[.slice sa ks.length sc, .int .i64 (askN es : Int), .int .i64 (ks.length : Int)], .int .i64 0]) ∧ AutP X.heap.size y (.slice sa ks.length sc) ks (elF es) kv ev ∧ X.grownBy y none := by
  refine (buildOk ta na la pa tc nc lc pc ts ns lv n L R ra rc V st X tn nn ln hlen (hG.kept hX) hc).mono ?_
  rintro e y (⟨ks', es', sa, sc, kv, ev, hau, rfl, hA, hg⟩ | ⟨hau, _⟩)
  · have h2 := h.symm.trans hau
    simp only [Option.some.injEq, Prod.mk.injEq] at h2
    obtain ⟨rfl, rfl⟩ := h2
    exact ⟨sa, sc, kv, ev, rfl, hA, hg⟩
  · have h2 := h.symm.trans hau
    cases h2
theorem build_none (hc : closedOK ts ns lv st n L R V) (h : autoF (GG tn n L R) (tn + nn) 256 = none) (X : World) (hX : w.grownBy X none) : Calls Try.prog 13 #[.agg #[.slice ta tn tc, .slice na nn nc, .slice la ln lc, .int .i64 st, .slice pa n pc]] X fun e y => e = .returned (.tuple #[.agg #[.slice none 0 0, .int .i64 0, .int .i64 0], .int .i64 11]) ∧ X.grownBy y none := by
  refine (buildOk ta na la pa tc nc lc pc ts ns lv n L R ra rc V st X tn nn ln hlen (hG.kept hX) hc).mono ?_
  rintro e y (⟨ks', es', sa, sc, kv, ev, hau, rfl, hA, hg⟩ | ⟨hau, rfl, hg⟩)
  · have h2 := h.symm.trans hau
    cases h2
  · exact ⟨rfl, hg⟩
end

end Go.Proofs.Ytfllgmbnljfboaa.J

/-
  trans: automatonOf.
-/
namespace Go.Proofs.Ytfllgmbnljfboaa.J
open Go.RowKit Go.Maps Go.Shelf

attribute [local go_sem] Oper.semAt_some

theorem set7_heap {w : World} {g : Nat} {t : TypeId} {a0 a1 a2 a3 a4 a5 a6 : Value} (h : w.heap[g]? = some (.cells #[a0, a1, a2, a3, a4, a5, a6] t (0, 0))) (v0 v1 v2 v3 v4 v5 v6 : Value) :
    (((((((w.setCell ⟨g, 0, none⟩ v0).setCell ⟨g, 1, none⟩ v1).setCell ⟨g, 2, none⟩ v2).setCell ⟨g, 3, none⟩ v3).setCell ⟨g, 4, none⟩ v4).setCell ⟨g, 5, none⟩ v5).setCell ⟨g, 6, none⟩ v6).heap[g]? = some (.cells #[v0, v1, v2, v3, v4, v5, v6] t (0, 0)) := by
  have h0 : (w.setCell ⟨g, 0, none⟩ v0).heap[g]? = some (.cells #[v0, a1, a2, a3, a4, a5, a6] t (0, 0)) := heap_setCell_same _ g 0 _ _ v0 h
  have h1 : ((w.setCell ⟨g, 0, none⟩ v0).setCell ⟨g, 1, none⟩ v1).heap[g]? = some (.cells #[v0, v1, a2, a3, a4, a5, a6] t (0, 0)) := heap_setCell_same _ g 1 _ _ v1 h0
  have h2 : (((w.setCell ⟨g, 0, none⟩ v0).setCell ⟨g, 1, none⟩ v1).setCell ⟨g, 2, none⟩ v2).heap[g]? = some (.cells #[v0, v1, v2, a3, a4, a5, a6] t (0, 0)) := heap_setCell_same _ g 2 _ _ v2 h1
  have h3 : ((((w.setCell ⟨g, 0, none⟩ v0).setCell ⟨g, 1, none⟩ v1).setCell ⟨g, 2, none⟩ v2).setCell ⟨g, 3, none⟩ v3).heap[g]? = some (.cells #[v0, v1, v2, v3, a4, a5, a6] t (0, 0)) := heap_setCell_same _ g 3 _ _ v3 h2
  have h4 : (((((w.setCell ⟨g, 0, none⟩ v0).setCell ⟨g, 1, none⟩ v1).setCell ⟨g, 2, none⟩ v2).setCell ⟨g, 3, none⟩ v3).setCell ⟨g, 4, none⟩ v4).heap[g]? = some (.cells #[v0, v1, v2, v3, v4, a5, a6] t (0, 0)) := heap_setCell_same _ g 4 _ _ v4 h3
  have h5 : ((((((w.setCell ⟨g, 0, none⟩ v0).setCell ⟨g, 1, none⟩ v1).setCell ⟨g, 2, none⟩ v2).setCell ⟨g, 3, none⟩ v3).setCell ⟨g, 4, none⟩ v4).setCell ⟨g, 5, none⟩ v5).heap[g]? = some (.cells #[v0, v1, v2, v3, v4, v5, a6] t (0, 0)) := heap_setCell_same _ g 5 _ _ v5 h4
  have h6 : (((((((w.setCell ⟨g, 0, none⟩ v0).setCell ⟨g, 1, none⟩ v1).setCell ⟨g, 2, none⟩ v2).setCell ⟨g, 3, none⟩ v3).setCell ⟨g, 4, none⟩ v4).setCell ⟨g, 5, none⟩ v5).setCell ⟨g, 6, none⟩ v6).heap[g]? = some (.cells #[v0, v1, v2, v3, v4, v5, v6] t (0, 0)) := heap_setCell_same _ g 6 _ _ v6 h5
  exact h6
theorem set7_grown (w : World) (g : Nat) (v0 v1 v2 v3 v4 v5 v6 : Value) :
    w.grownBy (((((((w.setCell ⟨g, 0, none⟩ v0).setCell ⟨g, 1, none⟩ v1).setCell ⟨g, 2, none⟩ v2).setCell ⟨g, 3, none⟩ v3).setCell ⟨g, 4, none⟩ v4).setCell ⟨g, 5, none⟩ v5).setCell ⟨g, 6, none⟩ v6) (some g) :=
  grown_trans (grown_trans (grown_trans (grown_trans (grown_trans (grown_trans (grown_setCell _ _ _) (grown_setCell _ _ _)) (grown_setCell _ _ _)) (grown_setCell _ _ _)) (grown_setCell _ _ _)) (grown_setCell _ _ _)) (grown_setCell _ _ _)
theorem results_of (tmps : Array Value) (w : World) (g : Nat) (cs : Array Value) (x : Value) (h2 : tmps.getD 2 undef = .pointer (some ⟨g, 0, none⟩)) (h3 : tmps.getD 3 undef = x) (hg : w.heap[g]? = some (.cells cs 72 (0, 0))) (hs : cs.size = 7) :
    (results Try.f19 tmps).run Try.prog w = .ok (.tuple #[.agg cs, x]) w := by
  have h2' : tmps[2]?.getD undef = .pointer (some ⟨g, 0, none⟩) := by simpa using h2
  have h3' : tmps[3]?.getD undef = x := by simpa using h3
  have hl := run_loadVar_row (P := Try.prog) w g 72 72 cs (0, 0) _ hg Try.underlying72 rfl (by rw [hs]; kernel_rfl)
  simp [results, Try.results19, h2', h3', asAddr, hl]

section
variable (ta na la pa : Option Addr) (tc nc lc pc : Nat) (n : Nat) (st : Int) (w : World) (tn nn ln : Nat)

set_option maxRecDepth 100000 in
set_option maxHeartbeats 2000000 in
theorem of_bad (ec : Int) (hec : ec = 1 ∨ ec = 11)
    (hBU : ∀ X, w.grownBy X none → Calls Try.prog 13 #[.agg #[.slice ta tn tc, .slice na nn nc, .slice la ln lc, .int .i64 st, .slice pa n pc]] X fun e y => e = .returned (.tuple #[.agg #[.slice none 0 0, .int .i64 0, .int .i64 0], .int .i64 ec]) ∧ X.grownBy y none) :
    Calls Try.prog 19 #[.agg #[.slice ta tn tc, .slice na nn nc, .slice la ln lc, .int .i64 st, .slice pa n pc]] w fun e y => e = .returned (.tuple #[.agg #[.slice none 0 0, .slice none 0 0, .slice none 0 0, .int .i64 0, .slice none 0 0, .slice none 0 0, .map none], .int .i64 ec]) ∧ w.grownBy y none := by
  have HBU := show Hid _ from hBU
  have HX0 : Hid (w.grownBy ((w.alloc (.cells #[.slice ta tn tc, .slice na nn nc, .slice la ln lc, .int .i64 st, .slice pa n pc] 27)).alloc (.cells #[.slice none 0 0, .slice none 0 0, .slice none 0 0, .int .i64 0, .slice none 0 0, .slice none 0 0, .map none] 72)) none) := grown_trans (World.grownBy_alloc _ _ none) (World.grownBy_alloc _ _ none)
  have HB0 : Hid (((w.alloc (.cells #[.slice ta tn tc, .slice na nn nc, .slice la ln lc, .int .i64 st, .slice pa n pc] 27)).alloc (.cells #[.slice none 0 0, .slice none 0 0, .slice none 0 0, .int .i64 0, .slice none 0 0, .slice none 0 0, .map none] 72)).heap[w.heap.size + 1]? = some (.cells #[.slice none 0 0, .slice none 0 0, .slice none 0 0, .int .i64 0, .slice none 0 0, .slice none 0 0, .map none] 72 (0, 0))) := by
    have h := heap_alloc_last (w.alloc (.cells #[.slice ta tn tc, .slice na nn nc, .slice la ln lc, .int .i64 st, .slice pa n pc] 27)) (.cells #[.slice none 0 0, .slice none 0 0, .slice none 0 0, .int .i64 0, .slice none 0 0, .slice none 0 0, .map none] 72)
    rw [World.size_alloc] at h; exact h
  have hne : (ec != 0) = true := bne_iff_ne.2 (by omega)
  clear hBU hec
  go_enter Try.func19, Try.ntmps19
  go_wp2_with fail
  refine Calls.mono (HBU.out _ HX0.out) ?_
  rintro e w1 ⟨rfl, hg1⟩
  have HB1 : Hid ((w1.alloc (.cells #[.slice none 0 0, .int .i64 0, .int .i64 0] 42)).heap[w.heap.size + 1]? = some (.cells #[.slice none 0 0, .slice none 0 0, .slice none 0 0, .int .i64 0, .slice none 0 0, .slice none 0 0, .map none] 72 (0, 0))) := box_kept HB0.out (grown_trans hg1 (World.grownBy_alloc _ _ none))
  have HG1 : Hid (w.grownBy (w1.alloc (.cells #[.slice none 0 0, .int .i64 0, .int .i64 0] 42)) none) := grown_trans HX0.out (grown_trans hg1 (World.grownBy_alloc _ _ none))
  clear hg1 HB0 HX0
  obtain ⟨k0, k1, k2, k3, k4, k5, k6⟩ : _ ∧ _ ∧ _ ∧ _ ∧ _ ∧ _ ∧ _ := ⟨cell_of_row _ (w.heap.size + 1) 0 _ _ _ HB1.out, cell_of_row _ (w.heap.size + 1) 1 _ _ _ HB1.out, cell_of_row _ (w.heap.size + 1) 2 _ _ _ HB1.out, cell_of_row _ (w.heap.size + 1) 3 _ _ _ HB1.out, cell_of_row _ (w.heap.size + 1) 4 _ _ _ HB1.out, cell_of_row _ (w.heap.size + 1) 5 _ _ _ HB1.out, cell_of_row _ (w.heap.size + 1) 6 _ _ _ HB1.out⟩
  have kf := fun j => frozen_of_row _ (w.heap.size + 1) j _ _ HB1.out
  simp only [List.getElem?_toArray, List.getElem?_cons_zero, List.getElem?_cons_succ] at k0 k1 k2 k3 k4 k5 k6
  go_wp2_with fail
  refine bodyPost_ret (v := .tuple #[.agg #[.slice none 0 0, .slice none 0 0, .slice none 0 0, .int .i64 0, .slice none 0 0, .slice none 0 0, .map none], .int .i64 ec]) ?_ rfl ?_
  · exact results_of _ _ (w.heap.size + 1) _ _ rfl rfl (set7_heap HB1.out _ _ _ _ _ _ _) rfl
  · exact ⟨rfl, grown_new HG1.out (set7_grown _ _ _ _ _ _ _ _ _) (by omega)⟩
end

end Go.Proofs.Ytfllgmbnljfboaa.J

/-
  trans: automatonOf, where there is an automaton.
-/
namespace Go.Proofs.Ytfllgmbnljfboaa.J
open Go.RowKit Go.Maps Go.Shelf

attribute [local go_sem] Oper.semAt_some

/-- What automatonOf tells. -/
def OfTold (ta na la pa : Option Addr) (tc nc lc pc : Nat) (n : Nat) (st : Int) (tn nn ln : Nat) (ks : List (List It)) (es : List (List (Nat × Nat))) (w : World) (e : Ending) (y : World) : Prop :=
  ∃ (sa : Option Addr) (sc : Nat) (kv ev : Nat → Value) (lb m : Nat), e = .returned (.tuple #[.agg #[.slice ta tn tc, .slice na nn nc, .slice la ln lc, .int .i64 st, .slice pa n pc, .slice sa ks.length sc, .map (some lb)], .int .i64 0]) ∧ AutP w.heap.size y (.slice sa ks.length sc) ks (elF es) kv ev ∧ LdAt y lb m (leadA es) ∧ w.grownBy y none

section
variable (ta na la pa : Option Addr) (tc nc lc pc : Nat) (n : Nat) (st : Int) (w : World) (tn nn ln : Nat)

set_option maxRecDepth 100000 in
set_option maxHeartbeats 4000000 in
theorem of_ok (ask : Nat) (ks : List (List It)) (es : List (List (Nat × Nat))) (hN256 : ks.length ≤ 256) (hel : es.length = ks.length) (hes : ∀ q, q < ks.length → (es.getD q []).length ≤ 130 ∧ ((es.getD q []).map Prod.fst).Nodup ∧ ∀ x ∈ es.getD q [], x.1 < 130 ∧ x.2 < 256)
    (hBU : ∀ X, w.grownBy X none → Calls Try.prog 13 #[.agg #[.slice ta tn tc, .slice na nn nc, .slice la ln lc, .int .i64 st, .slice pa n pc]] X fun e y => ∃ sa sc kv ev, e = .returned (.tuple #[.agg #[.slice sa ks.length sc, .int .i64 (ask : Int), .int .i64 (ks.length : Int)], .int .i64 0]) ∧ AutP w.heap.size y (.slice sa ks.length sc) ks (elF es) kv ev ∧ X.grownBy y none) :
    Calls Try.prog 19 #[.agg #[.slice ta tn tc, .slice na nn nc, .slice la ln lc, .int .i64 st, .slice pa n pc]] w fun e y => OfTold ta na la pa tc nc lc pc n st tn nn ln ks es w e y := by
  have HBU := show Hid _ from hBU
  have HES := show Hid _ from hes
  have HEL : Hid (es.length = ks.length) := hel
  have HX0 : Hid (PhAt w ((w.alloc (.cells #[.slice ta tn tc, .slice na nn nc, .slice la ln lc, .int .i64 st, .slice pa n pc] 27)).alloc (.cells #[.slice none 0 0, .slice none 0 0, .slice none 0 0, .int .i64 0, .slice none 0 0, .slice none 0 0, .map none] 72)) w.heap.size #[.slice ta tn tc, .slice na nn nc, .slice la ln lc, .int .i64 st, .slice pa n pc]) := PhAt.kept ⟨World.grownBy_alloc _ _ none, heap_alloc_last w _⟩ (World.grownBy_alloc _ _ none)
  have HB0 : Hid (((w.alloc (.cells #[.slice ta tn tc, .slice na nn nc, .slice la ln lc, .int .i64 st, .slice pa n pc] 27)).alloc (.cells #[.slice none 0 0, .slice none 0 0, .slice none 0 0, .int .i64 0, .slice none 0 0, .slice none 0 0, .map none] 72)).heap[w.heap.size + 1]? = some (.cells #[.slice none 0 0, .slice none 0 0, .slice none 0 0, .int .i64 0, .slice none 0 0, .slice none 0 0, .map none] 72 (0, 0))) := by
    have h := heap_alloc_last (w.alloc (.cells #[.slice ta tn tc, .slice na nn nc, .slice la ln lc, .int .i64 st, .slice pa n pc] 27)) (.cells #[.slice none 0 0, .slice none 0 0, .slice none 0 0, .int .i64 0, .slice none 0 0, .slice none 0 0, .map none] 72)
    rw [World.size_alloc] at h; exact h
  have hmm := @run_makeMap Try.prog
  obtain ⟨N, hN⟩ : ∃ n, n = ks.length := ⟨_, rfl⟩
  have HN : Hid (N = ks.length) := hN
  rw [← hN] at hN256 HBU
  clear hBU hes hel hN
  go_enter Try.func19, Try.ntmps19
  go_wp2_with fail
  refine Calls.mono (HBU.out _ HX0.out.grown) ?_
  rintro e w1 ⟨sa, sc, kv, ev, rfl, hAP, hg1⟩
  obtain ⟨W, hW⟩ : ∃ W, W = w1.alloc (.cells #[.slice sa N sc, .int .i64 (ask : Int), .int .i64 (N : Int)] 42) := ⟨_, rfl⟩
  obtain ⟨ab, hab⟩ : ∃ b, b = w1.heap.size := ⟨_, rfl⟩
  have hgW : w1.grownBy W none := by rw [hW]; exact World.grownBy_alloc _ _ none
  have HXW : Hid (PhAt w W w.heap.size #[.slice ta tn tc, .slice na nn nc, .slice la ln lc, .int .i64 st, .slice pa n pc]) := HX0.out.kept (grown_trans hg1 hgW)
  have HBW : Hid (W.heap[w.heap.size + 1]? = some (.cells #[.slice none 0 0, .slice none 0 0, .slice none 0 0, .int .i64 0, .slice none 0 0, .slice none 0 0, .map none] 72 (0, 0))) := box_kept HB0.out (grown_trans hg1 hgW)
  have HAW : Hid (W.heap[ab]? = some (.cells #[.slice sa N sc, .int .i64 (ask : Int), .int .i64 (N : Int)] 42 (0, 0))) := by rw [hW, hab]; exact heap_alloc_last w1 _
  have HPW : Hid (AutP w.heap.size W (.slice sa N sc) ks (elF es) kv ev) := hAP.kept hgW
  have HWE := show Hid _ from hW
  have HBE := show Hid _ from hab
  clear hg1 hAP HX0 HB0 hgW hW hab
  have y0 : (w1.alloc (.cells #[.slice sa N sc, .int .i64 (ask : Int), .int .i64 (N : Int)] 42)).cell? ⟨w1.heap.size, 0, none⟩ = some (.slice sa N sc) := by rw [← HWE.out, ← HBE.out, cell_of_row _ _ _ _ _ _ HAW.out]; rfl
  have y1 : ∀ o, ((w1.alloc (.cells #[.slice sa N sc, .int .i64 (ask : Int), .int .i64 (N : Int)] 42)).alloc o).cell? ⟨w1.heap.size, 0, none⟩ = some (.slice sa N sc) := fun o => (World.grownBy_alloc _ o none).cell y0 (by simp)
  go_wp2_with fail
  rw [← HWE.out, ← HBE.out]
  clear y0 y1
  obtain ⟨lb, hlb⟩ : ∃ b, b = W.heap.size := ⟨_, rfl⟩
  have HLB : Hid (W.heap.size ≤ lb) := by show _ ≤ _; omega
  have HLE : Hid (lb = ab + 1) := by show _ = _; rw [hlb, HWE.out, World.size_alloc, HBE.out]
  rw [← HLE.out]
  have HL0 : Hid (LdAt (W.alloc (.map #[] 0)) lb 0 (leadT es 0 0)) := by
    rw [leadT_zero, hlb]; exact LdAt.made W
  clear hlb HWE HBE HLE
  go_loopg [24] N (fun gk v24 wr => ∃ i m : Nat, i ≤ N ∧ gk = N - i ∧ v24 = .int .i64 i ∧ m ≤ i * 130 ∧ W.grownBy wr none ∧ LdAt wr lb m (leadT es i 0))
  case atStart => exact ⟨0, 0, Nat.zero_le _, rfl, rfl, Nat.le_refl _, World.grownBy_alloc _ _ none, HL0.out⟩
  case round =>
    obtain ⟨i, m, hi, hgi, rfl, hm, hg, hL⟩ := hrel
    have HGI : Hid (gk = N - i) := hgi
    have HG : Hid (W.grownBy wr none) := hg
    have HL : Hid (LdAt wr lb m (leadT es i 0)) := hL
    clear hgi hg hL HL0
    generalize wr = Z at *
    by_cases hlt : i < N
    · have hid : decide (i < N) = true := decide_eq_true hlt
      have hi0 : (0 : Int) ≤ (i : Int) := by omega
      have hi1 : (i : Int) < (N : Int) := by omega
      have hik : i < ks.length := by rw [← HN.out]; exact hlt
      have hPZ : AutP w.heap.size Z (.slice sa N sc) ks (elF es) kv ev := HPW.out.kept HG.out
      rw [HN.out] at hPZ
      obtain ⟨sb, sc', hsv, hs0, hs1⟩ := hPZ.st hik
      simp only [Value.slice.injEq] at hsv
      obtain ⟨rfl, _, rfl⟩ := hsv
      obtain ⟨ka, kc, hkv, _, _⟩ := hPZ.kerAt hik
      obtain ⟨ea, ec, hev, _⟩ := hPZ.edgAt hik
      have HEA : Hid (∀ Y, W.grownBy Y none → ItsAt Y ea (elF es i)) := fun Y hY => by
        have h := HPW.out.kept hY
        rw [HN.out] at h
        obtain ⟨ea2, ec2, h1, h2⟩ := h.edgAt hik
        rw [hev] at h1
        simp only [Value.slice.injEq] at h1
        rw [h1.1]; exact h2
      rw [hkv] at hs0
      rw [hev] at hs1
      obtain ⟨kl, hkl⟩ : ∃ k, k = (ks.getD i []).length := ⟨_, rfl⟩
      obtain ⟨E, hE⟩ : ∃ E, E = (elF es i).length := ⟨_, rfl⟩
      rw [← hkl] at hs0
      rw [← hE] at hs1
      have HE : Hid (E = (es.getD i []).length) := by show _ = _; rw [hE]; exact elF_len _ _
      have hEb : E ≤ 130 := by rw [HE.out]; exact (HES.out i hik).1
      clear hkl hE hkv hev hPZ
      go_wp2_with fail
      go_loopg [32] E (fun gk v32 wr => ∃ j m' : Nat, j ≤ E ∧ gk = E - j ∧ v32 = .int .i64 j ∧ m' ≤ i * 130 + j ∧ W.grownBy wr none ∧ LdAt wr lb m' (leadT es i j))
      case atStart => exact ⟨0, m, Nat.zero_le _, rfl, rfl, hm, grown_trans HG.out (World.grownBy_alloc _ _ none), HL.out.kept (World.grownBy_alloc _ _ none) (by simp)⟩
      case round =>
        obtain ⟨j, m', hj, hgj, rfl, hm', hg2, hL2⟩ := hrel
        have HGJ : Hid (gk = E - j) := hgj
        have HG2 : Hid (W.grownBy wr none) := hg2
        have HL2 : Hid (LdAt wr lb m' (leadT es i j)) := hL2
        clear hgj hg2 hL2
        by_cases hlj : j < E
        · have hjd : decide (j < E) = true := decide_eq_true hlj
          have hj0 : (0 : Int) ≤ (j : Int) := by omega
          have hj1 : (j : Int) < (E : Int) := by omega
          have hje : j < (es.getD i []).length := by rw [← HE.out]; exact hlj
          obtain ⟨eb, eo, hea, c0, c1⟩ := (HEA.out wr HG2.out).cellAt (i := j) (by rw [elF_len]; exact hje)
          subst hea
          rw [(elF_at hje).2] at c0 c1
          obtain ⟨x, hx⟩ : ∃ x, x = (es.getD i []).getD j (0, 0) := ⟨_, rfl⟩
          have hxb := (HES.out i hik).2.2 x (by
            rw [hx]
            generalize es.getD i [] = l at hje ⊢
            rw [List.getD_eq_getElem?_getD, List.getElem?_eq_getElem hje]; exact List.getElem_mem hje)
          rw [← hx] at c0 c1
          obtain ⟨s, t⟩ := x
          simp only at c0 c1 hxb
          obtain ⟨W', hrun, hld, hgr⟩ := (HL2.out.kept (World.grownBy_alloc wr (.cells #[.int .i64 (s : Int), .int .i64 (t : Int)] 60) none) (by simp)).update (by unfold maxLen; omega) (x := ((i : Int), (s : Int))) ⟨WalkArith.wf_i64 ⟨by omega, by omega⟩, WalkArith.wf_i64 ⟨by omega, by omega⟩⟩ (t : Int)
          rw [leadT_step hje hx.symm (HES.out i hik).2.1] at hld
          have HLD : Hid (LdAt W' lb (m' + 1) (leadT es i (j + 1))) := hld
          have HG3 : Hid (W.grownBy W' none) := grown_new (grown_trans HG2.out (World.grownBy_alloc _ _ none)) hgr HLB.out
          have hrun' : (Instr.mapUpdate 70 (.map (some lb)) (.agg #[.int .i64 (i : Int), .int .i64 (s : Int)]) (.int .i64 (t : Int))).run Try.prog (wr.alloc (.cells #[.int .i64 (s : Int), .int .i64 (t : Int)] 60)) = .ok () W' := hrun
          clear hx hld hgr hrun hje hxb
          go_wp2_with fail
          go_roundg (E - (j + 1))
          case measure => have := HGJ.out; omega
          case rel => exact ⟨j + 1, m' + 1, by omega, rfl, by go_num, by omega, HG3.out, HLD.out⟩
        · have hjE : E = j := by omega
          subst hjE
          have hjd : decide (E < E) = false := decide_eq_false (by omega)
          have HL3 : Hid (LdAt wr lb m' (leadT es (i + 1) 0)) := by
            rw [← leadT_row, ← HE.out]; exact HL2.out
          go_wp2_with fail
          go_roundg (N - (i + 1))
          case measure => have := HGI.out; omega
          case rel => exact ⟨i + 1, m', by omega, rfl, by go_num, by omega, HG2.out, HL3.out⟩
    · have hiN : N = i := by omega
      subst hiN
      have hid : decide (N < N) = false := decide_eq_false (by omega)
      have HLA : Hid (LdAt Z lb m (leadA es)) := by
        have h := HL.out
        rw [HN.out, ← HEL.out] at h
        exact h
      have HBZ : Hid (Z.heap[w.heap.size + 1]? = some (.cells #[.slice none 0 0, .slice none 0 0, .slice none 0 0, .int .i64 0, .slice none 0 0, .slice none 0 0, .map none] 72 (0, 0))) := box_kept HBW.out HG.out
      obtain ⟨k0, k1, k2, k3, k4⟩ := (HXW.out.kept HG.out).cells
      have y0 : Z.cell? ⟨ab, 0, none⟩ = some (.slice sa N sc) := by rw [cell_of_row _ _ _ _ _ _ (box_kept HAW.out HG.out)]; rfl
      have hbd : ∀ u, (Instr.build 72 #[(0, .agg #[.slice ta tn tc, .slice na nn nc, .slice la ln lc, .int .i64 st, .slice pa n pc]), (1, .slice sa N sc), (2, .map (some lb))]).run Try.prog u = .ok (.agg #[.slice ta tn tc, .slice na nn nc, .slice la ln lc, .int .i64 st, .slice pa n pc, .slice sa N sc, .map (some lb)]) u := fun u => run_build u _ _ _ (by kernel_rfl)
      obtain ⟨q0, q1, q2, q3, q4, q5, q6⟩ : _ ∧ _ ∧ _ ∧ _ ∧ _ ∧ _ ∧ _ := ⟨cell_of_row _ (w.heap.size + 1) 0 _ _ _ HBZ.out, cell_of_row _ (w.heap.size + 1) 1 _ _ _ HBZ.out, cell_of_row _ (w.heap.size + 1) 2 _ _ _ HBZ.out, cell_of_row _ (w.heap.size + 1) 3 _ _ _ HBZ.out, cell_of_row _ (w.heap.size + 1) 4 _ _ _ HBZ.out, cell_of_row _ (w.heap.size + 1) 5 _ _ _ HBZ.out, cell_of_row _ (w.heap.size + 1) 6 _ _ _ HBZ.out⟩
      have kf := fun j => frozen_of_row _ (w.heap.size + 1) j _ _ HBZ.out
      simp only [List.getElem?_toArray, List.getElem?_cons_zero, List.getElem?_cons_succ] at q0 q1 q2 q3 q4 q5 q6
      go_wp2_with fail
      refine bodyPost_ret (v := .tuple #[.agg #[.slice ta tn tc, .slice na nn nc, .slice la ln lc, .int .i64 st, .slice pa n pc, .slice sa N sc, .map (some lb)], .int .i64 0]) ?_ rfl ?_
      · exact results_of _ _ (w.heap.size + 1) _ _ rfl rfl (set7_heap HBZ.out _ _ _ _ _ _ _) rfl
      · have hgs := set7_grown Z (w.heap.size + 1) (.slice ta tn tc) (.slice na nn nc) (.slice la ln lc) (.int .i64 st) (.slice pa n pc) (.slice sa N sc) (.map (some lb))
        obtain ⟨mes, mcl, hobj⟩ := HLA.out.obj
        have hP9 := HPW.out.kept HG.out
        rw [HN.out] at hP9
        refine ⟨sa, sc, kv, ev, lb, m, by rw [← HN.out], ⟨hP9.row.kept hgs (owns_nebox hP9.row HBZ.out (by decide)), fun i hi => (hP9.ker i hi).kept hgs (owns_nebox (hP9.ker i hi) HBZ.out (by decide)), fun i hi => (hP9.edg i hi).kept hgs (owns_nebox (hP9.edg i hi) HBZ.out (by decide))⟩, HLA.out.kept hgs ?_, grown_new (grown_trans HXW.out.grown HG.out) hgs (by omega)⟩
        intro e
        have e2 : lb = w.heap.size + 1 := by simpa using e
        rw [e2, HBZ.out] at hobj
        cases hobj
end

end Go.Proofs.Ytfllgmbnljfboaa.J

/-
  trans: walk, isTerm, isNoSymbol.
-/
namespace Go.Proofs.Ytfllgmbnljfboaa.J
open Go.RowKit Go.Maps Go.Shelf

attribute [local go_sem] Oper.semAt_some

theorem cells7 {X : World} {b : Nat} {v0 v1 v2 v3 v4 v5 v6 : Value} {t : TypeId} (h : X.heap[b]? = some (.cells #[v0, v1, v2, v3, v4, v5, v6] t (0, 0))) : X.cell? ⟨b, 0, none⟩ = some v0 ∧ X.cell? ⟨b, 1, none⟩ = some v1 ∧ X.cell? ⟨b, 2, none⟩ = some v2 ∧ X.cell? ⟨b, 3, none⟩ = some v3 ∧ X.cell? ⟨b, 4, none⟩ = some v4 ∧ X.cell? ⟨b, 5, none⟩ = some v5 ∧ X.cell? ⟨b, 6, none⟩ = some v6 := by
  refine ⟨?_, ?_, ?_, ?_, ?_, ?_, ?_⟩ <;> (rw [cell_of_row _ _ _ _ _ _ h]; rfl)
/-- Where edges lead: to states. -/
def LeadOK (es : List (List (Nat × Nat))) : Prop := ∀ x v, leadA es x = some v → 0 ≤ v ∧ v < 256
theorem wayF_take (es : List (List (Nat × Nat))) {row : List Int} {j : Nat} (hj : j < row.length) (q : Option Int) : wayF es q (row.take (j + 1)) = wayF es (wayF es q (row.take j)) [row.getD j 0] := by
  rw [List.take_succ_eq_append_getElem hj, wayF_append, List.getD_eq_getElem?_getD, List.getElem?_eq_getElem hj]; rfl
theorem wayF_lost (es : List (List (Nat × Nat))) {row : List Int} {j : Nat} (q : Option Int) (h : wayF es q (row.take j) = none) : wayF es q row = none := by
  have h1 : row = row.take j ++ row.drop j := (List.take_append_drop j row).symm
  rw [h1, wayF_append, h, wayF_none]

section
variable (ta na la pa sa : Option Addr) (tc nc lc pc sc : Nat) (n N lb : Nat) (st : Int) (w : World) (tn nn ln : Nat)

theorem isTerm_any (s : Int) (b : Bool) (hb : b = decide (s < (tn : Int))) : Calls Try.prog 42 #[.agg #[.slice ta tn tc, .slice na nn nc, .slice la ln lc, .int .i64 st, .slice pa n pc, .slice sa N sc, .map (some lb)], .int .i64 s] w fun e y => e = .returned (.bool b) ∧ w.grownBy y none := by
  have HG0 : Hid (w.grownBy (w.alloc (.cells #[.slice ta tn tc, .slice na nn nc, .slice la ln lc, .int .i64 st, .slice pa n pc, .slice sa N sc, .map (some lb)] 72)) none) := World.grownBy_alloc _ _ none
  subst hb
  go_enter Try.func42, Try.ntmps42
  go_wp2_with fail
  go_ret
  exact ⟨rfl, HG0.out⟩

theorem isNoSym_any (htn : tn ≤ 65) (hnn : nn ≤ 65) (s : Int) (b : Bool) (hb : b = !(decide (0 ≤ s ∧ s < ((tn + nn : Nat) : Int)))) : Calls Try.prog 21 #[.agg #[.slice ta tn tc, .slice na nn nc, .slice la ln lc, .int .i64 st, .slice pa n pc, .slice sa N sc, .map (some lb)], .int .i64 s] w fun e y => e = .returned (.bool b) ∧ w.grownBy y none := by
  have HG0 : Hid (w.grownBy (w.alloc (.cells #[.slice ta tn tc, .slice na nn nc, .slice la ln lc, .int .i64 st, .slice pa n pc, .slice sa N sc, .map (some lb)] 72)) none) := World.grownBy_alloc _ _ none
  have HB : Hid (b = !(decide (0 ≤ s ∧ s < ((tn + nn : Nat) : Int)))) := hb
  clear hb
  by_cases h0 : s < 0
  · have hd : decide (s < 0) = true := decide_eq_true h0
    have HBB : Hid (b = true) := by show b = true; rw [HB.out, decide_eq_false (by omega)]; rfl
    go_enter Try.func21, Try.ntmps21
    go_wp2_with fail
    go_ret
    exact ⟨by rw [HBB.out]; rfl, HG0.out⟩
  · have hd : decide (s < 0) = false := decide_eq_false h0
    have hw : IntKind.i64.wrap ((tn : Int) + (nn : Int)) = (tn : Int) + (nn : Int) := by rw [IntKind.wrap_i64]; omega
    obtain ⟨k, rfl⟩ : ∃ k : Nat, s = (k : Int) := ⟨s.toNat, by omega⟩
    by_cases h1 : k < tn + nn
    · have hd1 : decide ((tn : Int) + (nn : Int) ≤ (k : Int)) = false := decide_eq_false (by omega)
      have hd2 : decide (tn + nn ≤ k) = false := decide_eq_false (by omega)
      have HBB : Hid (b = false) := by show b = false; rw [HB.out, decide_eq_true (by omega)]; rfl
      go_enter Try.func21, Try.ntmps21
      go_wp2_with fail
      go_ret
      exact ⟨by rw [HBB.out]; rfl, HG0.out⟩
    · have hd1 : decide ((tn : Int) + (nn : Int) ≤ (k : Int)) = true := decide_eq_true (by omega)
      have hd2 : decide (tn + nn ≤ k) = true := decide_eq_true (by omega)
      have HBB : Hid (b = true) := by show b = true; rw [HB.out, decide_eq_false (by omega)]; rfl
      go_enter Try.func21, Try.ntmps21
      go_wp2_with fail
      go_ret
      exact ⟨by rw [HBB.out]; rfl, HG0.out⟩

set_option maxRecDepth 100000 in
set_option maxHeartbeats 2000000 in
theorem walk_any (m : Nat) (es : List (List (Nat × Nat))) (hL : LdAt w lb m (leadA es)) (hOK : LeadOK es) (q : Nat) (hq : q ≤ 256) (ra : Option Addr) (rc : Nat) (row : List Int) (hr : IntsAt w ra row) (hrb : row.length ≤ 1099511627776000) (hrw : ∀ x ∈ row, (Lit.int .i64 x).wf = true) :
    Calls Try.prog 22 #[.agg #[.slice ta tn tc, .slice na nn nc, .slice la ln lc, .int .i64 st, .slice pa n pc, .slice sa N sc, .map (some lb)], .int .i64 (q : Int), .slice ra row.length rc] w fun e y => e = .returned (.int .i64 (wayV (wayF es (some (q : Int)) row))) ∧ w.grownBy y none := by
  have HL : Hid (∀ Y, w.grownBy Y none → LdAt Y lb m (leadA es)) := fun Y hY => hL.kept hY (by simp)
  have HR : Hid (∀ Y, w.grownBy Y none → IntsAt Y ra row) := fun Y hY => hr.kept hY
  have HRW := show Hid _ from hrw
  have HOK : Hid (LeadOK es) := hOK
  have HB0 : Hid ((w.alloc (.cells #[.slice ta tn tc, .slice na nn nc, .slice la ln lc, .int .i64 st, .slice pa n pc, .slice sa N sc, .map (some lb)] 72)).heap[w.heap.size]? = some (.cells #[.slice ta tn tc, .slice na nn nc, .slice la ln lc, .int .i64 st, .slice pa n pc, .slice sa N sc, .map (some lb)] 72 (0, 0))) := heap_alloc_last w _
  obtain ⟨M, hM⟩ : ∃ m, m = row.length := ⟨_, rfl⟩
  have HM : Hid (M = row.length) := hM
  rw [← hM] at hrb ⊢
  clear hL hr hrw hOK hM
  go_enter Try.func22, Try.ntmps22
  go_wp2_with fail
  obtain ⟨W, hW⟩ : ∃ W, W = w.alloc (.cells #[.slice ta tn tc, .slice na nn nc, .slice la ln lc, .int .i64 st, .slice pa n pc, .slice sa N sc, .map (some lb)] 72) := ⟨_, rfl⟩
  rw [← hW] at HB0 ⊢
  have HGW : Hid (w.grownBy W none) := by rw [hW]; exact World.grownBy_alloc _ _ none
  clear hW
  go_loopg [7, 15] M (fun gk v7 v15 wr => ∃ (j : Nat) (p : Nat), j ≤ M ∧ gk = M - j ∧ v15 = .int .i64 j ∧ v7 = .int .i64 (p : Int) ∧ p ≤ 256 ∧ wayF es (some (q : Int)) (row.take j) = some (p : Int) ∧ W.grownBy wr none)
  case atStart => exact ⟨0, q, Nat.zero_le _, rfl, rfl, rfl, hq, rfl, grown_refl _ _⟩
  case round =>
    obtain ⟨j, p, hj, hgj, rfl, rfl, hp, hwy, hg⟩ := hrel
    have HGJ : Hid (gk = M - j) := hgj
    have HWY : Hid (wayF es (some (q : Int)) (row.take j) = some (p : Int)) := hwy
    have HG : Hid (W.grownBy wr none) := hg
    clear hgj hwy hg
    by_cases hlt : j < M
    · have hj0 : (0 : Int) ≤ (j : Int) := by omega
      have hj1 : (j : Int) < (M : Int) := by omega
      have hjd : decide (j < M) = true := decide_eq_true hlt
      have hjl : j < row.length := by rw [← HM.out]; exact hlt
      obtain ⟨rb, ro, hra, c0⟩ : ∃ b off, ra = some ⟨b, off, none⟩ ∧ wr.cell? ⟨b, off + j, none⟩ = some (.int .i64 (row.getD j 0)) := by
        rcases HR.out wr (grown_trans HGW.out HG.out) with h | ⟨b, off, e, h⟩
        · rw [h] at hjl; cases hjl
        · exact ⟨b, off, e, h j hjl⟩
      subst hra
      have hws := HRW.out (row.getD j 0) (by rw [List.getD_eq_getElem?_getD, List.getElem?_eq_getElem hjl]; exact List.getElem_mem hjl)
      have hst := wayF_take es hjl (some (q : Int))
      rw [HWY.out] at hst
      obtain ⟨s, hs⟩ : ∃ s, s = row.getD j 0 := ⟨_, rfl⟩
      rw [← hs] at c0 hws hst
      have hst2 : wayF es (some (p : Int)) [s] = leadA es ((p : Int), s) := rfl
      rw [hst2] at hst
      have HST : Hid (wayF es (some (q : Int)) (row.take (j + 1)) = leadA es ((p : Int), s)) := hst
      have hlk : (Instr.lookup 70 (.map (some lb)) (.agg #[.int .i64 (p : Int), .int .i64 s]) true).run Try.prog wr = .ok (.tuple #[.int .i64 ((leadA es ((p : Int), s)).getD 0), .bool (leadA es ((p : Int), s)).isSome]) wr := (HL.out wr (grown_trans HGW.out HG.out)).look (x := ((p : Int), s)) ⟨WalkArith.wf_i64 ⟨by omega, by omega⟩, hws⟩
      obtain ⟨_, _, _, _, _, k5, k6⟩ := cells7 (box_kept HB0.out HG.out)
      clear hs hst hst2 hws hjl
      cases hle : leadA es ((p : Int), s) with
      | none =>
        rw [hle] at hlk HST
        simp only [Option.getD_none, Option.isSome_none] at hlk
        have HNO : Hid (wayF es (some (q : Int)) row = none) := wayF_lost es _ HST.out
        clear hle
        go_wp2_with fail
        go_ret
        exact ⟨by rw [HNO.out]; rfl, grown_trans HGW.out HG.out⟩
      | some v =>
        have hv := HOK.out _ _ hle
        rw [hle] at hlk HST
        obtain ⟨t, rfl⟩ : ∃ t : Nat, v = (t : Int) := ⟨v.toNat, by omega⟩
        simp only [Option.getD_some, Option.isSome_some] at hlk
        clear hle
        go_wp2_with fail
        go_roundg (M - (j + 1))
        case measure => have := HGJ.out; omega
        case rel => exact ⟨j + 1, t, by omega, rfl, by go_num, rfl, by omega, HST.out, HG.out⟩
    · have hjM : M = j := by omega
      subst hjM
      have hjd : decide (M < M) = false := decide_eq_false (by omega)
      have HFN : Hid (wayF es (some (q : Int)) row = some (p : Int)) := by
        have h := HWY.out
        rw [HM.out, List.take_length] at h
        exact h
      go_wp2_with fail
      go_ret
      exact ⟨by rw [HFN.out]; rfl, grown_trans HGW.out HG.out⟩
end

end Go.Proofs.Ytfllgmbnljfboaa.J

/-
  trans: transitions.
-/
namespace Go.Proofs.Ytfllgmbnljfboaa.J
open Go.RowKit Go.Maps Go.Shelf

attribute [local go_sem] Oper.semAt_some

theorem infoTrans : (Try.prog.info? 62).map (fun i => (i.zero, i.size, i.bytes)) = some (some (.agg #[.int .i64 0, .int .i64 0]), 2, 16) := by kernel_rfl
/-- The transitions among edges of a state. -/
def trI (tn : Nat) (l : List (Nat × Nat)) (i : Nat) : List It := (l.filter fun x => decide (tn ≤ x.1)).map fun x => ((i : Int), (x.1 : Int))
theorem trI_snoc (tn : Nat) (l : List (Nat × Nat)) (i s t : Nat) : trI tn (l ++ [(s, t)]) i = trI tn l i ++ (if tn ≤ s then [((i : Int), (s : Int))] else []) := by
  unfold trI
  rw [List.filter_append, List.map_append]
  by_cases h : tn ≤ s
  · rw [if_pos h]; simp [h]
  · rw [if_neg h]; simp [h]
theorem trI_len (tn : Nat) (l : List (Nat × Nat)) (i : Nat) : (trI tn l i).length ≤ l.length := by
  unfold trI
  rw [List.length_map]
  exact List.length_filter_le _ _
/-- The transitions of the states below i. -/
def trT (tn : Nat) (es : List (List (Nat × Nat))) : Nat → List It
  | 0 => []
  | i + 1 => trT tn es i ++ trI tn (es.getD i []) i
theorem take_snocE {l : List (Nat × Nat)} {j s t : Nat} (hj : j < l.length) (he : l.getD j (0, 0) = (s, t)) : l.take (j + 1) = l.take j ++ [(s, t)] := by
  rw [List.take_succ_eq_append_getElem hj]
  rw [List.getD_eq_getElem?_getD, List.getElem?_eq_getElem hj] at he
  exact congrArg _ (congrArg (fun y => [y]) he)
theorem trT_len {tn c : Nat} {es : List (List (Nat × Nat))} : ∀ (i : Nat), (∀ q, q < i → (es.getD q []).length ≤ c) → (trT tn es i).length ≤ i * c
  | 0, _ => by simp [trT]
  | i + 1, h => by
    unfold trT
    rw [List.length_append, Nat.succ_mul]
    have h1 := trT_len (tn := tn) i fun q hq => h q (by omega)
    have h2 := trI_len tn (es.getD i []) i
    have h3 := h i (by omega)
    omega

section
variable (ta na la pa sa : Option Addr) (tc nc lc pc sc : Nat) (n N lb : Nat) (st : Int) (w : World) (tn nn ln : Nat)

/-- What transitions tells. -/
def TrTold (l : List It) (w : World) (e : Ending) (y : World) : Prop := ∃ (a : Option Addr) (c : Nat), e = .returned (.slice a l.length c) ∧ y.ownsRow w.heap.size 62 2 (.slice a l.length c) l.length (itsV l) ∧ w.grownBy y none

set_option maxRecDepth 100000 in
set_option maxHeartbeats 4000000 in
theorem trans_any (B : Nat) (ks : List (List It)) (es : List (List (Nat × Nat))) (kv ev : Nat → Value) (hN : N = ks.length) (hN256 : N ≤ 256) (hP : AutP B w (.slice sa ks.length sc) ks (elF es) kv ev) (hes : ∀ q, q < ks.length → (es.getD q []).length ≤ 130) :
    Calls Try.prog 29 #[.agg #[.slice ta tn tc, .slice na nn nc, .slice la ln lc, .int .i64 st, .slice pa n pc, .slice sa N sc, .map (some lb)]] w fun e y => TrTold (trT tn es N) w e y := by
  have HN : Hid (N = ks.length) := hN
  have HP : Hid (∀ Y, w.grownBy Y none → AutP B Y (.slice sa ks.length sc) ks (elF es) kv ev) := fun Y hY => hP.kept hY
  have HES := show Hid _ from hes
  have HB0 : Hid ((w.alloc (.cells #[.slice ta tn tc, .slice na nn nc, .slice la ln lc, .int .i64 st, .slice pa n pc, .slice sa N sc, .map (some lb)] 72)).heap[w.heap.size]? = some (.cells #[.slice ta tn tc, .slice na nn nc, .slice la ln lc, .int .i64 st, .slice pa n pc, .slice sa N sc, .map (some lb)] 72 (0, 0))) := heap_alloc_last w _
  obtain ⟨i0, hi0, hz0, hz1, hz2⟩ := info_parts infoTrans
  clear hP hes hN
  go_enter Try.func29, Try.ntmps29
  go_wp2_with fail
  obtain ⟨W, hW⟩ : ∃ W, W = w.alloc (.cells #[.slice ta tn tc, .slice na nn nc, .slice la ln lc, .int .i64 st, .slice pa n pc, .slice sa N sc, .map (some lb)] 72) := ⟨_, rfl⟩
  rw [← hW] at HB0 ⊢
  have HGW : Hid (w.grownBy W none) := by rw [hW]; exact World.grownBy_alloc _ _ none
  clear hW
  go_loopg [3, 11] N (fun gk v3 v11 wr => ∃ (i L : Nat) (a : Option Addr) (c : Nat), i ≤ N ∧ gk = N - i ∧ v11 = .int .i64 i ∧ v3 = .slice a L c ∧ L = (trT tn es i).length ∧ wr.ownsRow W.heap.size 62 2 (.slice a L c) L (itsV (trT tn es i)) ∧ W.grownBy wr none)
  case atStart => exact ⟨0, 0, none, 0, Nat.zero_le _, rfl, rfl, rfl, rfl, World.ownsRow_nil _ _ _ _, grown_refl _ _⟩
  case round =>
    obtain ⟨i, L, a, c, hi, hgi, rfl, rfl, hLl, hown, hg⟩ := hrel
    have HGI : Hid (gk = N - i) := hgi
    have HLL : Hid (L = (trT tn es i).length) := hLl
    have HO : Hid (wr.ownsRow W.heap.size 62 2 (.slice a L c) L (itsV (trT tn es i))) := hown
    have HG : Hid (W.grownBy wr none) := hg
    have hLb : L ≤ i * 130 := by rw [hLl]; exact trT_len i fun q hq => HES.out q (by have := HN.out; omega)
    clear hgi hLl hown hg
    generalize wr = Z at *
    by_cases hlt : i < N
    · have hid : decide (i < N) = true := decide_eq_true hlt
      have hi0' : (0 : Int) ≤ (i : Int) := by omega
      have hi1 : (i : Int) < (N : Int) := by omega
      have hik : i < ks.length := by rw [← HN.out]; exact hlt
      have hPZ := HP.out Z (grown_trans HGW.out HG.out)
      obtain ⟨sb, sc', hsv, hs0, hs1⟩ := hPZ.st hik
      simp only [Value.slice.injEq] at hsv
      obtain ⟨rfl, _, rfl⟩ := hsv
      obtain ⟨ka, kc, hkv, _, _⟩ := hPZ.kerAt hik
      obtain ⟨ea, ec, hev, _⟩ := hPZ.edgAt hik
      have HEA : Hid (∀ Y, W.grownBy Y none → ItsAt Y ea (elF es i)) := fun Y hY => by
        obtain ⟨ea2, ec2, h1, h2⟩ := (HP.out Y (grown_trans HGW.out hY)).edgAt hik
        rw [hev] at h1
        simp only [Value.slice.injEq] at h1
        rw [h1.1]; exact h2
      rw [hkv] at hs0
      rw [hev] at hs1
      obtain ⟨kl, hkl⟩ : ∃ k, k = (ks.getD i []).length := ⟨_, rfl⟩
      obtain ⟨E, hE⟩ : ∃ E, E = (elF es i).length := ⟨_, rfl⟩
      rw [← hkl] at hs0
      rw [← hE] at hs1
      have HE : Hid (E = (es.getD i []).length) := by show _ = _; rw [hE]; exact elF_len _ _
      have hEb : E ≤ 130 := by rw [HE.out]; exact HES.out i hik
      clear hkl hE hkv hev hPZ
      go_wp2_with fail
      go_loopg [3, 19] E (fun gk v3 v19 wr => ∃ (j L : Nat) (a : Option Addr) (c : Nat), j ≤ E ∧ gk = E - j ∧ v19 = .int .i64 j ∧ v3 = .slice a L c ∧ L = (trT tn es i ++ trI tn ((es.getD i []).take j) i).length ∧ wr.ownsRow W.heap.size 62 2 (.slice a L c) L (itsV (trT tn es i ++ trI tn ((es.getD i []).take j) i)) ∧ W.grownBy wr none)
      case atStart => exact ⟨0, L, a, c, Nat.zero_le _, rfl, rfl, rfl, by simpa [trI] using HLL.out, by simpa [trI] using keep0 HO.out (World.grownBy_alloc _ _ none), grown_trans HG.out (World.grownBy_alloc _ _ none)⟩
      case round =>
        obtain ⟨j, L2, a2, c2, hj, hgj, rfl, rfl, hL2, hown2, hg2⟩ := hrel
        have HGJ : Hid (gk = E - j) := hgj
        have HL2 : Hid (L2 = (trT tn es i ++ trI tn ((es.getD i []).take j) i).length) := hL2
        have HO2 : Hid (wr.ownsRow W.heap.size 62 2 (.slice a2 L2 c2) L2 (itsV (trT tn es i ++ trI tn ((es.getD i []).take j) i))) := hown2
        have HG2 : Hid (W.grownBy wr none) := hg2
        have hL2b : L2 ≤ i * 130 + 130 := by
          rw [hL2, List.length_append, ← HLL.out]
          have h1 := trI_len tn ((es.getD i []).take j) i
          have h2 : ((es.getD i []).take j).length ≤ j := by rw [List.length_take]; omega
          omega
        clear hgj hL2 hown2 hg2
        by_cases hlj : j < E
        · have hjd : decide (j < E) = true := decide_eq_true hlj
          have hj0 : (0 : Int) ≤ (j : Int) := by omega
          have hj1 : (j : Int) < (E : Int) := by omega
          have hje : j < (es.getD i []).length := by rw [← HE.out]; exact hlj
          obtain ⟨eb, eo, hea, c0, c1⟩ := (HEA.out wr HG2.out).cellAt (i := j) (by rw [elF_len]; exact hje)
          subst hea
          rw [(elF_at hje).2] at c0 c1
          obtain ⟨x, hx⟩ : ∃ x, x = (es.getD i []).getD j (0, 0) := ⟨_, rfl⟩
          rw [← hx] at c0 c1
          obtain ⟨s, t⟩ := x
          simp only at c0 c1
          have HTK : Hid (trI tn ((es.getD i []).take (j + 1)) i = trI tn ((es.getD i []).take j) i ++ (if tn ≤ s then [((i : Int), (s : Int))] else [])) := by
            show _ = _
            rw [take_snocE hje hx.symm, trI_snoc]
          have HA : Hid (W.grownBy (wr.alloc (.cells #[.int .i64 (s : Int), .int .i64 (t : Int)] 60)) none) := grown_trans HG2.out (World.grownBy_alloc _ _ none)
          obtain ⟨k0, k1, k2, k3, k4, k5, k6⟩ := cells7 (box_kept HB0.out HA.out)
          by_cases hts : tn ≤ s
          · have HIT := show Hid _ from isTerm_any ta na la pa (some ⟨sb, 0, none⟩) tc nc lc pc sc n N lb st (wr.alloc (.cells #[.int .i64 (s : Int), .int .i64 (t : Int)] 60)) tn nn ln (s : Int) false (decide_eq_false (by omega)).symm
            clear hx hje
            go_wp2_with fail
            refine Calls.mono HIT.out ?_
            rintro e w5 ⟨rfl, hg5⟩
            have HG5 : Hid (W.grownBy w5 none) := grown_trans HA.out hg5
            have HO5 : Hid (w5.ownsRow W.heap.size 62 2 (.slice a2 L2 c2) L2 (itsV (trT tn es i ++ trI tn ((es.getD i []).take j) i))) := keep0 HO2.out (grown_trans (World.grownBy_alloc _ _ none) hg5)
            have hbx : w5.heap[wr.heap.size]? = some (.cells #[.int .i64 (s : Int), .int .i64 (t : Int)] 60 (0, 0)) := box_kept (heap_alloc_last wr _) hg5
            have r0 : w5.cell? ⟨wr.heap.size, 0, none⟩ = some (.int .i64 (s : Int)) := by rw [cell_of_row _ _ _ _ _ _ hbx]; rfl
            have hsz := HG5.out.size
            clear hg5 hbx HIT k0 k1 k2 k3 k4 k5 k6 c0 c1
            go_wp2_with (at_builtin; refine wpList_append_lies _ rfl (.tmp 28) (.tmp 33) 45 rfl W.heap.size 62 i0 (.agg #[.int .i64 0, .int .i64 0]) 2 16 Try.underlying45 hi0 hz0 hz1 hz2 rfl (by decide) (.slice a2 L2 c2) L2 (itsV (trT tn es i ++ trI tn ((es.getD i []).take j) i)) rfl (HO5.out.alloc _) ⟨w5.heap.size, 0, none⟩ 1 1 [.int .i64 (i : Int), .int .i64 (s : Int)] rfl rfl (World.news_of_block (heap_alloc_last w5 _)) (by simp [Value.oneCell']) (by decide) (by unfold maxLen; omega) (by omega) (by simp; omega) _ rfl ?_)
            intro g7 c7 V hoV hgV _ _
            have HOV : Hid (V.ownsRow W.heap.size 62 2 (.slice (some ⟨g7, 0, none⟩) (L2 + 1) c7) (L2 + 1) (itsV (trT tn es i ++ trI tn ((es.getD i []).take (j + 1)) i))) := by
              rw [HTK.out, if_pos hts, ← List.append_assoc, itsV_append]; exact hoV
            have HLV : Hid (L2 + 1 = (trT tn es i ++ trI tn ((es.getD i []).take (j + 1)) i).length) := by
              show _ = _
              rw [HTK.out, if_pos hts, ← List.append_assoc, List.length_append, ← HL2.out]; rfl
            have HGV : Hid (W.grownBy V none) := grown_owned (grown_trans HG5.out (World.grownBy_alloc _ _ none)) (HO5.out.alloc _) (Nat.le_refl _) hgV
            clear hoV hgV r0
            go_wp2_with fail
            go_roundg (E - (j + 1))
            case measure => have := HGJ.out; omega
            case rel => exact ⟨j + 1, L2 + 1, some ⟨g7, 0, none⟩, c7, by omega, rfl, by go_num, rfl, HLV.out, HOV.out, HGV.out⟩
          · have HIT := show Hid _ from isTerm_any ta na la pa (some ⟨sb, 0, none⟩) tc nc lc pc sc n N lb st (wr.alloc (.cells #[.int .i64 (s : Int), .int .i64 (t : Int)] 60)) tn nn ln (s : Int) true (decide_eq_true (by omega)).symm
            clear hx hje
            go_wp2_with fail
            refine Calls.mono HIT.out ?_
            rintro e w5 ⟨rfl, hg5⟩
            have HG5 : Hid (W.grownBy w5 none) := grown_trans HA.out hg5
            have HO5 : Hid (w5.ownsRow W.heap.size 62 2 (.slice a2 L2 c2) L2 (itsV (trT tn es i ++ trI tn ((es.getD i []).take (j + 1)) i))) := by
              rw [HTK.out, if_neg hts, List.append_nil]; exact keep0 HO2.out (grown_trans (World.grownBy_alloc _ _ none) hg5)
            have HL5 : Hid (L2 = (trT tn es i ++ trI tn ((es.getD i []).take (j + 1)) i).length) := by
              show _ = _
              rw [HTK.out, if_neg hts, List.append_nil]; exact HL2.out
            clear hg5 HIT k0 k1 k2 k3 k4 k5 k6 c0 c1
            go_wp2_with fail
            go_roundg (E - (j + 1))
            case measure => have := HGJ.out; omega
            case rel => exact ⟨j + 1, L2, a2, c2, by omega, rfl, by go_num, rfl, HL5.out, HO5.out, HG5.out⟩
        · have hjE : E = j := by omega
          subst hjE
          have hjd : decide (E < E) = false := decide_eq_false (by omega)
          have e9 : trT tn es i ++ trI tn ((es.getD i []).take E) i = trT tn es (i + 1) := by
            rw [HE.out, List.take_length]; rfl
          rw [e9] at HO2 HL2
          clear e9
          go_wp2_with fail
          go_roundg (N - (i + 1))
          case measure => have := HGI.out; omega
          case rel => exact ⟨i + 1, L2, a2, c2, by omega, rfl, by go_num, rfl, HL2.out, HO2.out, HG2.out⟩
    · have hiN : N = i := by omega
      subst hiN
      have hid : decide (N < N) = false := decide_eq_false (by omega)
      go_wp2_with fail
      go_ret
      exact ⟨a, c, by rw [← HLL.out]; rfl, by rw [← HLL.out]; exact owns_base HO.out HGW.out.size, grown_trans HGW.out HG.out⟩
end

end Go.Proofs.Ytfllgmbnljfboaa.J

/-
  trans: Walk and List, exported.
-/
namespace Go.Proofs.Ytfllgmbnljfboaa.J
open Go.RowKit Go.Maps Go.Shelf

attribute [local go_sem] Oper.semAt_some

/-- Is it no symbol? -/
def noB (S : Nat) (s : Int) : Bool := !(decide (0 ≤ s ∧ s < (S : Int)))
section
variable (ta na la pa sa : Option Addr) (tc nc lc pc sc : Nat) (n N lb : Nat) (st : Int) (w : World) (tn nn ln : Nat)

set_option maxRecDepth 100000 in
theorem tindex_any (htn : tn ≤ 65) (hnn : nn ≤ 65) (ra : Option Addr) (rc : Nat) (l : List Int) (hl : IntsAt w ra l) (hn : l.length ≤ 1099511627776000) :
    Calls Try.prog 33 #[.slice ra l.length rc, .func (.func 21) #[.agg #[.slice ta tn tc, .slice na nn nc, .slice la ln lc, .int .i64 st, .slice pa n pc, .slice sa N sc, .map (some lb)]] #[]] w fun e w' => (∃ q : Int, e = .returned (.int .i64 q) ∧ -1 ≤ q ∧ (0 ≤ q ↔ ∃ x ∈ l, noB (tn + nn) x = true)) ∧ w.grownBy w' none := by
  have HL : Hid (IntsAt w ra l) := hl
  obtain ⟨m, hln⟩ : ∃ m, m = l.length := ⟨_, rfl⟩
  have HLN : Hid (l.length = m) := hln.symm
  rw [← hln] at hn ⊢
  have HRO : Hid (∀ x X, Calls Try.prog 21 #[.agg #[.slice ta tn tc, .slice na nn nc, .slice la ln lc, .int .i64 st, .slice pa n pc, .slice sa N sc, .map (some lb)], .int .i64 x] X fun e w' => e = .returned (.bool (noB (tn + nn) x)) ∧ X.grownBy w' none) := fun x X => isNoSym_any ta na la pa sa tc nc lc pc sc n N lb st X tn nn ln htn hnn x _ rfl
  clear hl hln htn hnn
  go_enter Try.func33, Try.ntmps33
  go_wp2_with fail
  go_loopg [8] m (fun gk j wr => ∃ k : Nat, k ≤ m ∧ gk = m - k ∧ j = .int .i64 k ∧ w.grownBy wr none ∧ ¬ ∃ x ∈ l.take k, noB (tn + nn) x = true)
  case atStart => exact ⟨0, Nat.zero_le _, rfl, rfl, grown_refl _ _, by simp⟩
  case round =>
    obtain ⟨k, hk, hgk, rfl, hg, hno⟩ := hrel
    have HGK : Hid (gk = m - k) := hgk
    have HG : Hid (w.grownBy wr none) := hg
    have HA : Hid (¬ ∃ x ∈ l.take k, noB (tn + nn) x = true) := hno
    clear hno hg hgk
    by_cases hlt : k < m
    · have hkl : k < l.length := by rw [HLN.out]; exact hlt
      obtain ⟨bl, off, hra, hc0⟩ : ∃ b off, ra = some ⟨b, off, none⟩ ∧ wr.cell? ⟨b, off + k, none⟩ = some (.int .i64 (l.getD k 0)) := by
        rcases HL.out.kept HG.out with h | ⟨b, off, e, h⟩
        · rw [h] at hkl; cases hkl
        · exact ⟨b, off, e, h k hkl⟩
      subst hra
      obtain ⟨x, hx⟩ : ∃ x, x = l.getD k 0 := ⟨_, rfl⟩
      have HMM : Hid (x ∈ l ∧ l.take (k + 1) = l.take k ++ [x]) := by
        have e : l.getD k 0 = l[k] := by rw [List.getD_eq_getElem?_getD, List.getElem?_eq_getElem hkl]; rfl
        refine ⟨by rw [hx, e]; exact List.getElem_mem _, by rw [List.take_succ_eq_append_getElem hkl, hx, e]⟩
      rw [← hx] at hc0
      have hk0 : (0 : Int) ≤ (k : Int) := by omega
      have hk1 : (k : Int) < (m : Int) := by omega
      have hkd : decide (k < m) = true := decide_eq_true hlt
      have HH := show Hid _ from HRO.out x wr
      obtain ⟨b, hb⟩ : ∃ b, b = noB (tn + nn) x := ⟨_, rfl⟩
      have HBE : Hid (b = noB (tn + nn) x) := hb
      rw [← hb] at HH
      clear hx hb
      go_wp2_with fail
      refine Calls.mono HH.out ?_
      rintro e w2 ⟨rfl, hg2⟩
      have HG2 : Hid (w.grownBy w2 none) := grown_trans HG.out hg2
      clear HH hg2 hc0
      cases b with
      | true =>
        go_wp2_with fail
        go_ret
        exact ⟨⟨k, rfl, by omega, ⟨fun _ => ⟨x, HMM.out.1, HBE.out.symm⟩, fun _ => by omega⟩⟩, HG2.out⟩
      | false =>
        go_wp2_with fail
        go_roundg (m - (k + 1))
        case measure => have := HGK.out; omega
        case rel => exact ⟨k + 1, by omega, rfl, by go_num, HG2.out, by
          rintro ⟨y, hy, h3⟩
          rw [HMM.out.2] at hy
          rcases List.mem_append.1 hy with hy | hy
          · exact HA.out ⟨y, hy, h3⟩
          · simp only [List.mem_singleton] at hy
            rw [hy, ← HBE.out] at h3
            cases h3⟩
    · have hkn : m = k := by omega
      subst hkn
      have hkd : decide (m < m) = false := decide_eq_false (by omega)
      have ht : l.take m = l := List.take_of_length_le (Nat.le_of_eq HLN.out)
      rw [ht] at HA
      go_wp2_with fail
      go_ret
      exact ⟨⟨-1, rfl, by omega, ⟨fun h => absurd h (by omega), fun h => absurd h HA.out⟩⟩, HG.out⟩

theorem tcont_any (htn : tn ≤ 65) (hnn : nn ≤ 65) (ra : Option Addr) (rc : Nat) (l : List Int) (hl : IntsAt w ra l) (hn : l.length ≤ 1099511627776000) (r : Bool) (hr : r = true ↔ ∃ x ∈ l, noB (tn + nn) x = true) :
    Calls Try.prog 20 #[.slice ra l.length rc, .func (.func 21) #[.agg #[.slice ta tn tc, .slice na nn nc, .slice la ln lc, .int .i64 st, .slice pa n pc, .slice sa N sc, .map (some lb)]] #[]] w fun e w' => e = .returned (.bool r) ∧ w.grownBy w' none := by
  have hI := tindex_any ta na la pa sa tc nc lc pc sc n N lb st w tn nn ln htn hnn ra rc l hl hn
  have HR : Hid (r = true ↔ ∃ x ∈ l, noB (tn + nn) x = true) := hr
  clear hl hr htn hnn
  go_enter Try.func20, Try.ntmps20
  go_wp2_with fail
  refine hI.mono ?_
  rintro e w2 ⟨⟨q, rfl, h1, h2⟩, hg⟩
  have HQ : Hid (decide (0 ≤ q) = r) := by
    show decide (0 ≤ q) = r
    rw [Bool.eq_iff_iff, decide_eq_true_eq, h2, HR.out]
  clear h2 hI
  go_wp2_with fail
  go_ret
  exact ⟨by rw [← HQ.out]; rfl, hg⟩
end

section
variable (ta na la pa : Option Addr) (tc nc lc pc : Nat) (n : Nat) (st : Int) (w : World) (tn nn ln : Nat)
/-- automatonOf, where it answers an error. -/
def OfBad (ec : Int) : Prop := ∀ X, w.grownBy X none → Calls Try.prog 19 #[.agg #[.slice ta tn tc, .slice na nn nc, .slice la ln lc, .int .i64 st, .slice pa n pc]] X fun e y => e = .returned (.tuple #[.agg #[.slice none 0 0, .slice none 0 0, .slice none 0 0, .int .i64 0, .slice none 0 0, .slice none 0 0, .map none], .int .i64 ec]) ∧ X.grownBy y none
/-- .. and where it tells an automaton. -/
def OfOk (ks : List (List It)) (es : List (List (Nat × Nat))) : Prop := ∀ X, w.grownBy X none → Calls Try.prog 19 #[.agg #[.slice ta tn tc, .slice na nn nc, .slice la ln lc, .int .i64 st, .slice pa n pc]] X fun e y => OfTold ta na la pa tc nc lc pc n st tn nn ln ks es X e y

set_option maxRecDepth 100000 in
theorem listX_bad (ec : Int) (hec : ec = 1 ∨ ec = 11) (hO : OfBad ta na la pa tc nc lc pc n st w tn nn ln ec) : Calls Try.prog 14 #[.agg #[.slice ta tn tc, .slice na nn nc, .slice la ln lc, .int .i64 st, .slice pa n pc]] w fun e y => e = .returned (.tuple #[.slice none 0 0, .int .i64 ec]) ∧ w.grownBy y none := by
  have HO : Hid (OfBad ta na la pa tc nc lc pc n st w tn nn ln ec) := hO
  have HX0 : Hid (w.grownBy (w.alloc (.cells #[.slice ta tn tc, .slice na nn nc, .slice la ln lc, .int .i64 st, .slice pa n pc] 27)) none) := World.grownBy_alloc _ _ none
  have hne : (ec != 0) = true := bne_iff_ne.2 (by omega)
  clear hO hec
  go_enter Try.func14, Try.ntmps14
  go_wp2_with fail
  refine Calls.mono (HO.out _ HX0.out) ?_
  rintro e w1 ⟨rfl, hg1⟩
  have HG1 : Hid (w.grownBy w1 none) := grown_trans HX0.out hg1
  clear hg1
  go_wp2_with fail
  go_ret2
  exact ⟨rfl, grown_trans HG1.out (World.grownBy_alloc _ _ none)⟩

/-- What List tells. -/
def TrErr (l : List It) (w : World) (e : Ending) (y : World) : Prop := ∃ (a : Option Addr) (c : Nat), e = .returned (.tuple #[.slice a l.length c, .int .i64 0]) ∧ y.ownsRow w.heap.size 62 2 (.slice a l.length c) l.length (itsV l) ∧ w.grownBy y none

set_option maxRecDepth 100000 in
theorem listX_ok (ks : List (List It)) (es : List (List (Nat × Nat))) (hN256 : ks.length ≤ 256) (hes : ∀ q, q < ks.length → (es.getD q []).length ≤ 130) (hO : OfOk ta na la pa tc nc lc pc n st w tn nn ln ks es) : Calls Try.prog 14 #[.agg #[.slice ta tn tc, .slice na nn nc, .slice la ln lc, .int .i64 st, .slice pa n pc]] w fun e y => TrErr (trT tn es ks.length) w e y := by
  have HO : Hid (OfOk ta na la pa tc nc lc pc n st w tn nn ln ks es) := hO
  have HX0 : Hid (w.grownBy (w.alloc (.cells #[.slice ta tn tc, .slice na nn nc, .slice la ln lc, .int .i64 st, .slice pa n pc] 27)) none) := World.grownBy_alloc _ _ none
  have HES := show Hid _ from hes
  have HNB : Hid (ks.length ≤ 256) := hN256
  clear hO hes hN256
  go_enter Try.func14, Try.ntmps14
  go_wp2_with fail
  refine Calls.mono (HO.out _ HX0.out) ?_
  rintro e w1 ⟨sa, sc, kv, ev, lb, m, rfl, hAP, hLd, hg1⟩
  have HG1 : Hid (w.grownBy (w1.alloc (.cells #[.slice ta tn tc, .slice na nn nc, .slice la ln lc, .int .i64 st, .slice pa n pc, .slice sa ks.length sc, .map (some lb)] 72)) none) := grown_trans HX0.out (grown_trans hg1 (World.grownBy_alloc _ _ none))
  have HT := show Hid _ from trans_any ta na la pa sa tc nc lc pc sc n ks.length lb st (w1.alloc (.cells #[.slice ta tn tc, .slice na nn nc, .slice la ln lc, .int .i64 st, .slice pa n pc, .slice sa ks.length sc, .map (some lb)] 72)) tn nn ln _ ks es kv ev rfl HNB.out (hAP.kept (World.grownBy_alloc _ _ none)) HES.out
  obtain ⟨N, hN⟩ : ∃ n, n = ks.length := ⟨_, rfl⟩
  have HN : Hid (N = ks.length) := hN
  rw [← hN] at HT HG1 ⊢
  clear hg1 hAP hLd hN
  go_wp2_with fail
  refine Calls.mono HT.out ?_
  rintro e w2 ⟨a2, c2, rfl, ho2, hg2⟩
  have HG2 : Hid (w.grownBy w2 none) := grown_trans HG1.out hg2
  have HO2 : Hid (w2.ownsRow w.heap.size 62 2 (.slice a2 (trT tn es N).length c2) (trT tn es N).length (itsV (trT tn es N))) := owns_base ho2 HG1.out.size
  obtain ⟨K, hK⟩ : ∃ k, k = (trT tn es N).length := ⟨_, rfl⟩
  have HK : Hid (K = (trT tn es N).length) := hK
  rw [← hK]
  clear ho2 hg2 hK HT
  go_wp2_with fail
  go_ret2
  exact ⟨a2, c2, by rw [← HN.out, ← HK.out]; rfl, by rw [← HN.out]; exact HO2.out, HG2.out⟩

set_option maxRecDepth 100000 in
set_option maxHeartbeats 2000000 in
theorem walkX_ok (ks : List (List It)) (es : List (List (Nat × Nat))) (htn : tn ≤ 65) (hnn : nn ≤ 65) (hN256 : ks.length ≤ 256) (hOK : LeadOK es) (hO : OfOk ta na la pa tc nc lc pc n st w tn nn ln ks es) (q : Nat) (hq : q < ks.length) (ra : Option Addr) (rc : Nat) (row : List Int) (hr : IntsAt w ra row) (hrb : row.length ≤ 1099511627776000) (hgood : ∀ x ∈ row, noB (tn + nn) x = false) : Calls Try.prog 10 #[.agg #[.slice ta tn tc, .slice na nn nc, .slice la ln lc, .int .i64 st, .slice pa n pc], .int .i64 (q : Int), .slice ra row.length rc] w fun e y => e = .returned (.tuple #[.int .i64 (wayV (wayF es (some (q : Int)) row)), .int .i64 0]) ∧ w.grownBy y none := by
  have HO : Hid (OfOk ta na la pa tc nc lc pc n st w tn nn ln ks es) := hO
  have HX0 : Hid (w.grownBy (w.alloc (.cells #[.slice ta tn tc, .slice na nn nc, .slice la ln lc, .int .i64 st, .slice pa n pc] 27)) none) := World.grownBy_alloc _ _ none
  have HC : Hid (∀ Y sa sc N lb, w.grownBy Y none → Calls Try.prog 20 #[.slice ra row.length rc, .func (.func 21) #[.agg #[.slice ta tn tc, .slice na nn nc, .slice la ln lc, .int .i64 st, .slice pa n pc, .slice sa N sc, .map (some lb)]] #[]] Y fun e w' => e = .returned (.bool false) ∧ Y.grownBy w' none) := fun Y sa sc N lb hY => tcont_any ta na la pa sa tc nc lc pc sc n N lb st Y tn nn ln htn hnn ra rc row (hr.kept hY) hrb false ⟨(fun h => by cases h), fun ⟨x, h1, h2⟩ => by rw [hgood x h1] at h2; cases h2⟩
  have HW : Hid (∀ Y sa sc N lb m, w.grownBy Y none → LdAt Y lb m (leadA es) → Calls Try.prog 22 #[.agg #[.slice ta tn tc, .slice na nn nc, .slice la ln lc, .int .i64 st, .slice pa n pc, .slice sa N sc, .map (some lb)], .int .i64 (q : Int), .slice ra row.length rc] Y fun e y => e = .returned (.int .i64 (wayV (wayF es (some (q : Int)) row))) ∧ Y.grownBy y none) := fun Y sa sc N lb m hY hLd => walk_any ta na la pa sa tc nc lc pc sc n N lb st Y tn nn ln m es hLd hOK q (by omega) ra rc row (hr.kept hY) hrb (fun x hx => by
    have h := hgood x hx
    unfold noB at h
    have h2 : 0 ≤ x ∧ x < ((tn + nn : Nat) : Int) := by simpa using h
    exact WalkArith.wf_i64 ⟨by omega, by omega⟩)
  obtain ⟨M, hM⟩ : ∃ m, m = row.length := ⟨_, rfl⟩
  rw [← hM] at HC HW ⊢
  obtain ⟨v, hv⟩ : ∃ v, v = wayV (wayF es (some (q : Int)) row) := ⟨_, rfl⟩
  rw [← hv] at HW ⊢
  clear hO hM hr hrb hgood htn hnn hv hOK
  go_enter Try.func10, Try.ntmps10
  go_wp2_with fail
  refine Calls.mono (HO.out _ HX0.out) ?_
  rintro e w1 ⟨sa, sc, kv, ev, lb, m, rfl, hAP, hLd, hg1⟩
  have HG1 : Hid (w.grownBy (w1.alloc (.cells #[.slice ta tn tc, .slice na nn nc, .slice la ln lc, .int .i64 st, .slice pa n pc, .slice sa ks.length sc, .map (some lb)] 72)) none) := grown_trans HX0.out (grown_trans hg1 (World.grownBy_alloc _ _ none))
  have HLD : Hid (LdAt (w1.alloc (.cells #[.slice ta tn tc, .slice na nn nc, .slice la ln lc, .int .i64 st, .slice pa n pc, .slice sa ks.length sc, .map (some lb)] 72)) lb m (leadA es)) := hLd.kept (World.grownBy_alloc _ _ none) (by simp)
  have HBX := show Hid _ from heap_alloc_last w1 (.cells #[.slice ta tn tc, .slice na nn nc, .slice la ln lc, .int .i64 st, .slice pa n pc, .slice sa ks.length sc, .map (some lb)] 72)
  obtain ⟨N, hN⟩ : ∃ n, n = ks.length := ⟨_, rfl⟩
  rw [← hN] at HG1 HLD HBX hq ⊢
  have hd : decide ((q : Int) < 0) = false := decide_eq_false (by omega)
  have hd1 : decide ((N : Int) ≤ (q : Int)) = false := decide_eq_false (by omega)
  have hd2 : decide (N ≤ q) = false := decide_eq_false (by omega)
  have HCC := show Hid _ from HC.out _ sa sc N lb HG1.out
  clear hg1 hAP hLd hN hN256 HC
  go_wp2_with fail
  refine Calls.mono HCC.out ?_
  rintro e w2 ⟨rfl, hg2⟩
  have HG2 : Hid (w.grownBy w2 none) := grown_trans HG1.out hg2
  have HLD2 : Hid (LdAt w2 lb m (leadA es)) := HLD.out.kept hg2 (by simp)
  obtain ⟨k0, k1, k2, k3, k4, k5, k6⟩ := cells7 (box_kept HBX.out hg2)
  have HWC := show Hid _ from HW.out w2 sa sc N lb m HG2.out HLD2.out
  clear hg2 HCC HW
  go_wp2_with fail
  refine Calls.mono HWC.out ?_
  rintro e w3 ⟨rfl, hg3⟩
  have HG3 : Hid (w.grownBy w3 none) := grown_trans HG2.out hg3
  clear hg3 HWC
  go_wp2_with fail
  go_ret2
  exact ⟨rfl, HG3.out⟩
end

end Go.Proofs.Ytfllgmbnljfboaa.J

/-
  trans: direct.
-/
namespace Go.Proofs.Ytfllgmbnljfboaa.J
open Go.RowKit Go.Maps Go.Shelf

attribute [local go_sem] Oper.semAt_some

theorem eq_trans (p d p' d' : Int) (w : World) : (binOp .eql 62 (.agg #[.int .i64 p, .int .i64 d]) (.agg #[.int .i64 p', .int .i64 d'])).run Try.prog w = .ok (.bool (p == p' && d == d')) w := by
  have u3 := Try.underlying3
  have a3 := Try.isAgg3
  have z3 := Try.sizeOf3
  have hS : Try.prog.underlying 62 = some (.struct (Try.prog.fieldsOf 62)) := by kernel_rfl
  have hp : Try.prog.stoodInHeld 62 = false := by kernel_rfl
  rw [run_eql_struct, show (10000 : Nat) = 9999 + 1 from rfl, run_equalIn_agg w 9999 62 _ _ hS hp]
  simp only [Program.fieldsOf, Try.underlying62]
  go_simp
  by_cases h1 : p = p' <;> by_cases h2 : d = d' <;> simp [h1, h2]
def intV (l : List Int) : List Value := l.map (Value.int .i64)
theorem intV_append (l m : List Int) : intV (l ++ m) = intV l ++ intV m := by unfold intV; rw [List.map_append]
/-- The terminals among edges. -/
def dirL (tn : Nat) (l : List (Nat × Nat)) : List Int := (l.filter fun x => decide (x.1 < tn)).map fun x => (x.1 : Int)
theorem dirL_snoc (tn : Nat) (l : List (Nat × Nat)) (s t : Nat) : dirL tn (l ++ [(s, t)]) = dirL tn l ++ (if s < tn then [(s : Int)] else []) := by
  unfold dirL
  rw [List.filter_append, List.map_append]
  by_cases h : s < tn
  · rw [if_pos h]; simp [h]
  · rw [if_neg h]; simp [h]
theorem dirL_len (tn : Nat) (l : List (Nat × Nat)) : (dirL tn l).length ≤ l.length := by
  unfold dirL
  rw [List.length_map]
  exact List.length_filter_le _ _
def preF (b : Bool) : List Int := if b then [0] else []
theorem preF_len (b : Bool) : (preF b).length ≤ 1 := by cases b <;> decide
/-- What direct tells. -/
def NumTold (l : List Int) (w : World) (e : Ending) (y : World) : Prop := ∃ (a : Option Addr) (c : Nat), e = .returned (.slice a l.length c) ∧ y.ownsRow w.heap.size 3 1 (.slice a l.length c) l.length (intV l) ∧ w.grownBy y none

section
variable (ta na la pa sa : Option Addr) (tc nc lc pc sc : Nat) (n N lb : Nat) (st : Int) (w : World) (tn nn ln : Nat)

set_option maxRecDepth 100000 in
set_option maxHeartbeats 4000000 in
theorem direct_other (B m : Nat) (ks : List (List It)) (es : List (List (Nat × Nat))) (kv ev : Nat → Value) (hN : N = ks.length) (hN256 : N ≤ 256) (hP : AutP B w (.slice sa ks.length sc) ks (elF es) kv ev) (hes : ∀ q, q < ks.length → (es.getD q []).length ≤ 130) (hL : LdAt w lb m (leadA es)) (hOK : LeadOK es) (q tq : Nat) (s : Int) (hq : q < N) (hsw : (Lit.int .i64 s).wf = true) (hto : leadA es ((q : Int), s) = some (tq : Int)) (htN : tq < N) (hst : ¬ ((q : Int) = 0 ∧ s = st)) :
    Calls Try.prog 32 #[.agg #[.slice ta tn tc, .slice na nn nc, .slice la ln lc, .int .i64 st, .slice pa n pc, .slice sa N sc, .map (some lb)], .agg #[.int .i64 (q : Int), .int .i64 s]] w fun e y => NumTold (preF false ++ dirL tn (es.getD tq [])) w e y := by
  have HN : Hid (N = ks.length) := hN
  have HP : Hid (∀ Y, w.grownBy Y none → AutP B Y (.slice sa ks.length sc) ks (elF es) kv ev) := fun Y hY => hP.kept hY
  have HES := show Hid _ from hes
  have htk : tq < ks.length := by rw [← hN]; exact htN
  obtain ⟨sb, sc', hsv, _, _⟩ := hP.st htk
  simp only [Value.slice.injEq] at hsv
  obtain ⟨rfl, _, rfl⟩ := hsv
  obtain ⟨ea, ec, hev, _⟩ := hP.edgAt htk
  obtain ⟨E, hE⟩ : ∃ E, E = (elF es tq).length := ⟨_, rfl⟩
  have HE : Hid (E = (es.getD tq []).length) := by show _ = _; rw [hE]; exact elF_len _ _
  have hEb : E ≤ 130 := by rw [HE.out]; exact hes tq htk
  have HEC : Hid (∀ Y, w.grownBy Y none → Y.cell? ⟨sb, tq * 2 + 1, none⟩ = some (.slice ea E ec) ∧ ItsAt Y ea (elF es tq)) := fun Y hY => by
    have h := HP.out Y hY
    obtain ⟨sb2, sc2, h1, _, h3⟩ := h.st htk
    simp only [Value.slice.injEq, Option.some.injEq, Addr.mk.injEq] at h1
    obtain ⟨⟨rfl, _⟩, _⟩ := h1
    obtain ⟨ea2, ec2, h4, h5⟩ := h.edgAt htk
    rw [hev] at h3 h4
    simp only [Value.slice.injEq] at h4
    rw [← hE] at h3
    exact ⟨h3, by rw [h4.1]; exact h5⟩
  have HWK : Hid (∀ Y b, w.grownBy Y none → IntsAt Y (some ⟨b, 0, none⟩) [s] → Calls Try.prog 22 #[.agg #[.slice ta tn tc, .slice na nn nc, .slice la ln lc, .int .i64 st, .slice pa n pc, .slice (some ⟨sb, 0, none⟩) N sc, .map (some lb)], .int .i64 (q : Int), .slice (some ⟨b, 0, none⟩) 1 1] Y fun e y => e = .returned (.int .i64 (tq : Int)) ∧ Y.grownBy y none) := fun Y b hY hI => by
    have h := walk_any ta na la pa (some ⟨sb, 0, none⟩) tc nc lc pc sc n N lb st Y tn nn ln m es (hL.kept hY (by simp)) hOK q (by omega) (some ⟨b, 0, none⟩) 1 [s] hI (by simp) (fun x hx => by rw [List.mem_singleton.1 hx]; exact hsw)
    have e1 : wayF es (some ((q : Nat) : Int)) [s] = some (tq : Int) := hto
    rw [e1] at h
    exact h
  obtain ⟨i0, hi0, hz0, hz1, hz2⟩ := info_parts infoInt
  obtain ⟨W, hW⟩ : ∃ W, W = (w.alloc (.cells #[.slice ta tn tc, .slice na nn nc, .slice la ln lc, .int .i64 st, .slice pa n pc, .slice (some ⟨sb, 0, none⟩) N sc, .map (some lb)] 72)).alloc (.cells #[.int .i64 (q : Int), .int .i64 s] 62) := ⟨_, rfl⟩
  have HGW : Hid (w.grownBy W none) := by rw [hW]; exact grown_trans (World.grownBy_alloc _ _ none) (World.grownBy_alloc _ _ none)
  have HB7 : Hid (W.heap[w.heap.size]? = some (.cells #[.slice ta tn tc, .slice na nn nc, .slice la ln lc, .int .i64 st, .slice pa n pc, .slice (some ⟨sb, 0, none⟩) N sc, .map (some lb)] 72 (0, 0))) := by rw [hW]; exact box_kept (heap_alloc_last w _) (World.grownBy_alloc _ _ none)
  have HB2 : Hid (W.heap[w.heap.size + 1]? = some (.cells #[.int .i64 (q : Int), .int .i64 s] 62 (0, 0))) := by
    rw [hW]
    have h := heap_alloc_last (w.alloc (.cells #[.slice ta tn tc, .slice na nn nc, .slice la ln lc, .int .i64 st, .slice pa n pc, .slice (some ⟨sb, 0, none⟩) N sc, .map (some lb)] 72)) (.cells #[.int .i64 (q : Int), .int .i64 s] 62)
    rw [World.size_alloc] at h; exact h
  have HWE := show Hid _ from hW
  have HCS : Hid (∀ Y, W.grownBy Y none → (Y.cell? ⟨w.heap.size, 0, none⟩ = some (.slice ta tn tc) ∧ Y.cell? ⟨w.heap.size, 1, none⟩ = some (.slice na nn nc) ∧ Y.cell? ⟨w.heap.size, 2, none⟩ = some (.slice la ln lc) ∧ Y.cell? ⟨w.heap.size, 3, none⟩ = some (.int .i64 st) ∧ Y.cell? ⟨w.heap.size, 4, none⟩ = some (.slice pa n pc) ∧ Y.cell? ⟨w.heap.size, 5, none⟩ = some (.slice (some ⟨sb, 0, none⟩) N sc) ∧ Y.cell? ⟨w.heap.size, 6, none⟩ = some (.map (some lb))) ∧ Y.cell? ⟨w.heap.size + 1, 0, none⟩ = some (.int .i64 (q : Int)) ∧ Y.cell? ⟨w.heap.size + 1, 1, none⟩ = some (.int .i64 s) ∧ Y.cell? ⟨sb, tq * 2 + 1, none⟩ = some (.slice ea E ec)) := fun Y hY => ⟨cells7 (box_kept HB7.out hY), by rw [cell_of_row _ _ _ _ _ _ (box_kept HB2.out hY)]; rfl, by rw [cell_of_row _ _ _ _ _ _ (box_kept HB2.out hY)]; rfl, (HEC.out Y (grown_trans HGW.out hY)).1⟩
  obtain ⟨bb, hbb⟩ : ∃ b, b = ((q : Int) == 0 && s == st) := ⟨_, rfl⟩
  have hbf : bb = false := by
    rw [hbb, Bool.and_eq_false_iff, beq_eq_false_iff_ne, beq_eq_false_iff_ne]
    by_cases h : (q : Int) = 0
    · exact .inr fun h2 => hst ⟨h, h2⟩
    · exact .inl h
  have hEQ : ∀ X : World, (binOp .eql 62 (.agg #[.int .i64 (q : Int), .int .i64 s]) (.agg #[.int .i64 0, .int .i64 st])).run Try.prog X = .ok (.bool false) X := fun X => by
    rw [← hbf, hbb]; exact eq_trans (q : Int) s 0 st X
  clear hbb hbf hst
  have ht0 : (0 : Int) ≤ (tq : Int) := by omega
  have ht1 : (tq : Int) < (N : Int) := by omega
  clear hP hes hN hL hOK hto htk hev hE hW HP HB7 HB2
  go_enter Try.func32, Try.ntmps32
  go_wp2_with fail
  rw [← HWE.out]
  obtain ⟨Z, hZ⟩ : ∃ Z, Z = W := ⟨_, rfl⟩
  rw [← hZ]
  have HGZ : Hid (W.grownBy Z none) := by rw [hZ]; exact grown_refl _ _
  have HO0 : Hid (Z.ownsRow W.heap.size 3 1 (.slice none 0 0) 0 (intV (preF false))) := World.ownsRow_nil _ _ _ _
  have HL0 : Hid (0 = (preF false).length) := rfl
  clear hZ HWE
  have HGZ2 : Hid (W.grownBy (Z.alloc (.cells #[.int .i64 s] 3)).drew none) := grown_trans HGZ.out (grown_trans (World.grownBy_alloc _ _ none) (grown_drewN _ 1))
  have HGZ1 : Hid (W.grownBy Z.drew none) := grown_trans HGZ.out (grown_drewN _ 1)
  have HGZ3 : Hid (W.grownBy (Z.drew.alloc (.cells #[.int .i64 s] 3)) none) := grown_trans HGZ1.out (World.grownBy_alloc _ _ none)
  have HIA : Hid (IntsAt (Z.alloc (.cells #[.int .i64 s] 3)).drew (some ⟨Z.heap.size, 0, none⟩) [s]) := .inr ⟨Z.heap.size, 0, rfl, fun i hi => by
    have h2 : i = 0 := by simp at hi; omega
    subst h2
    have h3 : (Z.alloc (.cells #[.int .i64 s] 3)).drew.heap[Z.heap.size]? = some (.cells #[.int .i64 s] 3 (0, 0)) := heap_alloc_last Z _
    rw [cell_of_row _ _ _ _ _ _ h3]; rfl⟩
  go_region_held3 (fun Y => (Y.cell? ⟨w.heap.size, 0, none⟩ = some (.slice ta tn tc) ∧ Y.cell? ⟨w.heap.size, 1, none⟩ = some (.slice na nn nc) ∧ Y.cell? ⟨w.heap.size, 2, none⟩ = some (.slice la ln lc) ∧ Y.cell? ⟨w.heap.size, 3, none⟩ = some (.int .i64 st) ∧ Y.cell? ⟨w.heap.size, 4, none⟩ = some (.slice pa n pc) ∧ Y.cell? ⟨w.heap.size, 5, none⟩ = some (.slice (some ⟨sb, 0, none⟩) N sc) ∧ Y.cell? ⟨w.heap.size, 6, none⟩ = some (.map (some lb))) ∧ Y.cell? ⟨w.heap.size + 1, 0, none⟩ = some (.int .i64 (q : Int)) ∧ Y.cell? ⟨w.heap.size + 1, 1, none⟩ = some (.int .i64 s) ∧ Y.cell? ⟨sb, tq * 2 + 1, none⟩ = some (.slice ea E ec)) (first | exact HCS.out _ HGZ1.out | exact HCS.out _ HGZ2.out | exact HCS.out _ HGZ3.out | exact HCS.out _ HG4.out | go_keep)
    ((first
      | (go_at_call 22; refine Calls.mono (HWK.out _ _ (grown_trans HGW.out HGZ2.out) HIA.out) ?_; rintro e w4 ⟨rfl, hg4⟩; have HG4 : Hid (W.grownBy w4 none) := grown_trans HGZ2.out hg4; have HO4 : Hid (w4.ownsRow W.heap.size 3 1 (.slice none 0 0) 0 (intV (preF false))) := keep0 HO0.out (grown_trans (World.grownBy_alloc _ _ none) (grown_trans (grown_drewN _ 1) hg4)); clear hg4)
      | fail))
  clear HGZ1 HGZ2 HGZ3 HIA HO0 HGZ HWK
  go_wp2_with fail
  go_loopg [5, 30] E (fun gk v5 v30 wr => ∃ (j L : Nat) (a : Option Addr) (c : Nat), j ≤ E ∧ gk = E - j ∧ v30 = .int .i64 j ∧ v5 = .slice a L c ∧ L = (preF false ++ dirL tn ((es.getD tq []).take j)).length ∧ wr.ownsRow W.heap.size 3 1 (.slice a L c) L (intV (preF false ++ dirL tn ((es.getD tq []).take j))) ∧ W.grownBy wr none)
  case atStart => exact ⟨0, 0, none, 0, Nat.zero_le _, rfl, rfl, rfl, by simpa [dirL] using HL0.out, by simpa [dirL] using HO4.out, HG4.out⟩
  case round =>
    obtain ⟨j, L2, a2, c2, hj, hgj, rfl, rfl, hL2, hown2, hg2⟩ := hrel
    have HGJ : Hid (gk = E - j) := hgj
    have HL2 : Hid (L2 = (preF false ++ dirL tn ((es.getD tq []).take j)).length) := hL2
    have HO2 : Hid (wr.ownsRow W.heap.size 3 1 (.slice a2 L2 c2) L2 (intV (preF false ++ dirL tn ((es.getD tq []).take j)))) := hown2
    have HG2 : Hid (W.grownBy wr none) := hg2
    have hL2b : L2 ≤ 131 := by
      rw [hL2, List.length_append]
      have h1 := dirL_len tn ((es.getD tq []).take j)
      have h2 : ((es.getD tq []).take j).length ≤ j := by rw [List.length_take]; omega
      have h3 := preF_len (false)
      omega
    clear hgj hL2 hown2 hg2 HO4
    by_cases hlj : j < E
    · have hjd : decide (j < E) = true := decide_eq_true hlj
      have hj0 : (0 : Int) ≤ (j : Int) := by omega
      have hj1 : (j : Int) < (E : Int) := by omega
      have hje : j < (es.getD tq []).length := by rw [← HE.out]; exact hlj
      obtain ⟨eb, eo, hea, d0, d1⟩ := (HEC.out wr (grown_trans HGW.out HG2.out)).2.cellAt (i := j) (by rw [elF_len]; exact hje)
      subst hea
      rw [(elF_at hje).2] at d0 d1
      obtain ⟨x, hx⟩ : ∃ x, x = (es.getD tq []).getD j (0, 0) := ⟨_, rfl⟩
      rw [← hx] at d0 d1
      obtain ⟨u, t⟩ := x
      simp only at d0 d1
      have HTK : Hid (dirL tn ((es.getD tq []).take (j + 1)) = dirL tn ((es.getD tq []).take j) ++ (if u < tn then [(u : Int)] else [])) := by
        show _ = _
        rw [take_snocE hje hx.symm, dirL_snoc]
      have HA : Hid (W.grownBy (wr.alloc (.cells #[.int .i64 (u : Int), .int .i64 (t : Int)] 60)) none) := grown_trans HG2.out (World.grownBy_alloc _ _ none)
      obtain ⟨⟨k0, k1, k2, k3, k4, k5, k6⟩, _⟩ := HCS.out _ HA.out
      by_cases hts : u < tn
      · have HIT := show Hid _ from isTerm_any ta na la pa (some ⟨sb, 0, none⟩) tc nc lc pc sc n N lb st (wr.alloc (.cells #[.int .i64 (u : Int), .int .i64 (t : Int)] 60)) tn nn ln (u : Int) true (decide_eq_true (by omega)).symm
        clear hx hje
        go_wp2_with fail
        refine Calls.mono HIT.out ?_
        rintro e w5 ⟨rfl, hg5⟩
        have HG5 : Hid (W.grownBy w5 none) := grown_trans HA.out hg5
        have HO5 : Hid (w5.ownsRow W.heap.size 3 1 (.slice a2 L2 c2) L2 (intV (preF false ++ dirL tn ((es.getD tq []).take j)))) := keep0 HO2.out (grown_trans (World.grownBy_alloc _ _ none) hg5)
        have hbx : w5.heap[wr.heap.size]? = some (.cells #[.int .i64 (u : Int), .int .i64 (t : Int)] 60 (0, 0)) := box_kept (heap_alloc_last wr _) hg5
        have r0 : w5.cell? ⟨wr.heap.size, 0, none⟩ = some (.int .i64 (u : Int)) := by rw [cell_of_row _ _ _ _ _ _ hbx]; rfl
        have hsz := HG5.out.size
        clear hg5 hbx HIT k0 k1 k2 k3 k4 k5 k6 d0 d1
        go_wp2_with (at_builtin; refine wpList_append_lies _ rfl (.tmp 38) (.tmp 41) 24 rfl W.heap.size 3 i0 (.int .i64 0) 1 8 Try.underlying24 hi0 hz0 hz1 hz2 rfl (by decide) (.slice a2 L2 c2) L2 (intV (preF false ++ dirL tn ((es.getD tq []).take j))) rfl (HO5.out.alloc _) ⟨w5.heap.size, 0, none⟩ 1 1 [.int .i64 (u : Int)] rfl rfl (World.news_of_block (heap_alloc_last w5 _)) (by simp [Value.oneCell']) (by decide) (by unfold maxLen; omega) (by omega) (by simp; omega) _ rfl ?_)
        intro g7 c7 V hoV hgV _ _
        have HOV : Hid (V.ownsRow W.heap.size 3 1 (.slice (some ⟨g7, 0, none⟩) (L2 + 1) c7) (L2 + 1) (intV (preF false ++ dirL tn ((es.getD tq []).take (j + 1))))) := by
          rw [HTK.out, if_pos hts, ← List.append_assoc, intV_append]; exact hoV
        have HLV : Hid (L2 + 1 = (preF false ++ dirL tn ((es.getD tq []).take (j + 1))).length) := by
          show _ = _
          rw [HTK.out, if_pos hts, ← List.append_assoc, List.length_append, ← HL2.out]; rfl
        have HGV : Hid (W.grownBy V none) := grown_owned (grown_trans HG5.out (World.grownBy_alloc _ _ none)) (HO5.out.alloc _) (Nat.le_refl _) hgV
        clear hoV hgV r0
        go_wp2_with fail
        go_roundg (E - (j + 1))
        case measure => have := HGJ.out; omega
        case rel => exact ⟨j + 1, L2 + 1, some ⟨g7, 0, none⟩, c7, by omega, rfl, by go_num, rfl, HLV.out, HOV.out, HGV.out⟩
      · have HIT := show Hid _ from isTerm_any ta na la pa (some ⟨sb, 0, none⟩) tc nc lc pc sc n N lb st (wr.alloc (.cells #[.int .i64 (u : Int), .int .i64 (t : Int)] 60)) tn nn ln (u : Int) false (decide_eq_false (by omega)).symm
        clear hx hje
        go_wp2_with fail
        refine Calls.mono HIT.out ?_
        rintro e w5 ⟨rfl, hg5⟩
        have HG5 : Hid (W.grownBy w5 none) := grown_trans HA.out hg5
        have HO5 : Hid (w5.ownsRow W.heap.size 3 1 (.slice a2 L2 c2) L2 (intV (preF false ++ dirL tn ((es.getD tq []).take (j + 1))))) := by
          rw [HTK.out, if_neg hts, List.append_nil]; exact keep0 HO2.out (grown_trans (World.grownBy_alloc _ _ none) hg5)
        have HL5 : Hid (L2 = (preF false ++ dirL tn ((es.getD tq []).take (j + 1))).length) := by
          show _ = _
          rw [HTK.out, if_neg hts, List.append_nil]; exact HL2.out
        clear hg5 HIT k0 k1 k2 k3 k4 k5 k6 d0 d1
        go_wp2_with fail
        go_roundg (E - (j + 1))
        case measure => have := HGJ.out; omega
        case rel => exact ⟨j + 1, L2, a2, c2, by omega, rfl, by go_num, rfl, HL5.out, HO5.out, HG5.out⟩
    · have hjE : E = j := by omega
      subst hjE
      have hjd : decide (E < E) = false := decide_eq_false (by omega)
      have e9 : (es.getD tq []).take E = es.getD tq [] := by rw [HE.out, List.take_length]
      rw [e9] at HO2 HL2
      clear e9
      go_wp2_with fail
      go_ret
      exact ⟨a2, c2, by rw [← HL2.out]; rfl, by rw [← HL2.out]; exact owns_base HO2.out HGW.out.size, grown_trans HGW.out HG2.out⟩
set_option maxRecDepth 100000 in
set_option maxHeartbeats 4000000 in
theorem direct_start (B m : Nat) (ks : List (List It)) (es : List (List (Nat × Nat))) (kv ev : Nat → Value) (hN : N = ks.length) (hP : AutP B w (.slice sa ks.length sc) ks (elF es) kv ev) (hes : ∀ q, q < ks.length → (es.getD q []).length ≤ 130) (hL : LdAt w lb m (leadA es)) (hOK : LeadOK es) (tq : Nat) (hsw : (Lit.int .i64 st).wf = true) (hto : leadA es (0, st) = some (tq : Int)) (htN : tq < N) :
    Calls Try.prog 32 #[.agg #[.slice ta tn tc, .slice na nn nc, .slice la ln lc, .int .i64 st, .slice pa n pc, .slice sa N sc, .map (some lb)], .agg #[.int .i64 0, .int .i64 st]] w fun e y => NumTold (preF true ++ dirL tn (es.getD tq [])) w e y := by
  have HN : Hid (N = ks.length) := hN
  have HP : Hid (∀ Y, w.grownBy Y none → AutP B Y (.slice sa ks.length sc) ks (elF es) kv ev) := fun Y hY => hP.kept hY
  have HES := show Hid _ from hes
  have htk : tq < ks.length := by rw [← hN]; exact htN
  obtain ⟨sb, sc', hsv, _, _⟩ := hP.st htk
  simp only [Value.slice.injEq] at hsv
  obtain ⟨rfl, _, rfl⟩ := hsv
  obtain ⟨ea, ec, hev, _⟩ := hP.edgAt htk
  obtain ⟨E, hE⟩ : ∃ E, E = (elF es tq).length := ⟨_, rfl⟩
  have HE : Hid (E = (es.getD tq []).length) := by show _ = _; rw [hE]; exact elF_len _ _
  have hEb : E ≤ 130 := by rw [HE.out]; exact hes tq htk
  have HEC : Hid (∀ Y, w.grownBy Y none → Y.cell? ⟨sb, tq * 2 + 1, none⟩ = some (.slice ea E ec) ∧ ItsAt Y ea (elF es tq)) := fun Y hY => by
    have h := HP.out Y hY
    obtain ⟨sb2, sc2, h1, _, h3⟩ := h.st htk
    simp only [Value.slice.injEq, Option.some.injEq, Addr.mk.injEq] at h1
    obtain ⟨⟨rfl, _⟩, _⟩ := h1
    obtain ⟨ea2, ec2, h4, h5⟩ := h.edgAt htk
    rw [hev] at h3 h4
    simp only [Value.slice.injEq] at h4
    rw [← hE] at h3
    exact ⟨h3, by rw [h4.1]; exact h5⟩
  have HWK : Hid (∀ Y b, w.grownBy Y none → IntsAt Y (some ⟨b, 0, none⟩) [st] → Calls Try.prog 22 #[.agg #[.slice ta tn tc, .slice na nn nc, .slice la ln lc, .int .i64 st, .slice pa n pc, .slice (some ⟨sb, 0, none⟩) N sc, .map (some lb)], .int .i64 0, .slice (some ⟨b, 0, none⟩) 1 1] Y fun e y => e = .returned (.int .i64 (tq : Int)) ∧ Y.grownBy y none) := fun Y b hY hI => by
    have h := walk_any ta na la pa (some ⟨sb, 0, none⟩) tc nc lc pc sc n N lb st Y tn nn ln m es (hL.kept hY (by simp)) hOK 0 (by omega) (some ⟨b, 0, none⟩) 1 [st] hI (by simp) (fun x hx => by rw [List.mem_singleton.1 hx]; exact hsw)
    have e1 : wayF es (some ((0 : Nat) : Int)) [st] = some (tq : Int) := hto
    rw [e1] at h
    exact h
  obtain ⟨i0, hi0, hz0, hz1, hz2⟩ := info_parts infoInt
  obtain ⟨W, hW⟩ : ∃ W, W = (w.alloc (.cells #[.slice ta tn tc, .slice na nn nc, .slice la ln lc, .int .i64 st, .slice pa n pc, .slice (some ⟨sb, 0, none⟩) N sc, .map (some lb)] 72)).alloc (.cells #[.int .i64 0, .int .i64 st] 62) := ⟨_, rfl⟩
  have HGW : Hid (w.grownBy W none) := by rw [hW]; exact grown_trans (World.grownBy_alloc _ _ none) (World.grownBy_alloc _ _ none)
  have HB7 : Hid (W.heap[w.heap.size]? = some (.cells #[.slice ta tn tc, .slice na nn nc, .slice la ln lc, .int .i64 st, .slice pa n pc, .slice (some ⟨sb, 0, none⟩) N sc, .map (some lb)] 72 (0, 0))) := by rw [hW]; exact box_kept (heap_alloc_last w _) (World.grownBy_alloc _ _ none)
  have HB2 : Hid (W.heap[w.heap.size + 1]? = some (.cells #[.int .i64 0, .int .i64 st] 62 (0, 0))) := by
    rw [hW]
    have h := heap_alloc_last (w.alloc (.cells #[.slice ta tn tc, .slice na nn nc, .slice la ln lc, .int .i64 st, .slice pa n pc, .slice (some ⟨sb, 0, none⟩) N sc, .map (some lb)] 72)) (.cells #[.int .i64 0, .int .i64 st] 62)
    rw [World.size_alloc] at h; exact h
  have HWE := show Hid _ from hW
  have HCS : Hid (∀ Y, W.grownBy Y none → (Y.cell? ⟨w.heap.size, 0, none⟩ = some (.slice ta tn tc) ∧ Y.cell? ⟨w.heap.size, 1, none⟩ = some (.slice na nn nc) ∧ Y.cell? ⟨w.heap.size, 2, none⟩ = some (.slice la ln lc) ∧ Y.cell? ⟨w.heap.size, 3, none⟩ = some (.int .i64 st) ∧ Y.cell? ⟨w.heap.size, 4, none⟩ = some (.slice pa n pc) ∧ Y.cell? ⟨w.heap.size, 5, none⟩ = some (.slice (some ⟨sb, 0, none⟩) N sc) ∧ Y.cell? ⟨w.heap.size, 6, none⟩ = some (.map (some lb))) ∧ Y.cell? ⟨w.heap.size + 1, 0, none⟩ = some (.int .i64 0) ∧ Y.cell? ⟨w.heap.size + 1, 1, none⟩ = some (.int .i64 st) ∧ Y.cell? ⟨sb, tq * 2 + 1, none⟩ = some (.slice ea E ec)) := fun Y hY => ⟨cells7 (box_kept HB7.out hY), by rw [cell_of_row _ _ _ _ _ _ (box_kept HB2.out hY)]; rfl, by rw [cell_of_row _ _ _ _ _ _ (box_kept HB2.out hY)]; rfl, (HEC.out Y (grown_trans HGW.out hY)).1⟩
  have hEQ : ∀ X : World, (binOp .eql 62 (.agg #[.int .i64 0, .int .i64 st]) (.agg #[.int .i64 0, .int .i64 st])).run Try.prog X = .ok (.bool true) X := fun X => by
    have h := eq_trans 0 st 0 st X
    simpa using h
  have hWs : W.heap.size = w.heap.size + 1 + 1 := by rw [HWE.out, World.size_alloc, World.size_alloc]
  have HWS : Hid (W.heap.size = w.heap.size + 1 + 1) := hWs
  have HNB : Hid ((((w.alloc (.cells #[.slice ta tn tc, .slice na nn nc, .slice la ln lc, .int .i64 st, .slice pa n pc, .slice (some ⟨sb, 0, none⟩) N sc, .map (some lb)] 72)).alloc (.cells #[.int .i64 0, .int .i64 st] 62)).alloc (.cells #[.int .i64 0] 3)).heap[w.heap.size + 1 + 1]? = some (.cells #[.int .i64 0] 3 (0, 0))) := by
    have h := heap_alloc_last ((w.alloc (.cells #[.slice ta tn tc, .slice na nn nc, .slice la ln lc, .int .i64 st, .slice pa n pc, .slice (some ⟨sb, 0, none⟩) N sc, .map (some lb)] 72)).alloc (.cells #[.int .i64 0, .int .i64 st] 62)) (.cells #[.int .i64 0] 3)
    rw [World.size_alloc, World.size_alloc] at h; exact h
  clear hWs
  have ht0 : (0 : Int) ≤ (tq : Int) := by omega
  have ht1 : (tq : Int) < (N : Int) := by omega
  clear hP hes hN hL hOK hto htk hev hE hW HP HB7 HB2
  go_enter Try.func32, Try.ntmps32
  go_wp2_with (at_builtin; refine wpList_append_lies _ rfl (.tmp 14) (.tmp 15) 24 rfl (w.heap.size + 1 + 1) 3 i0 (.int .i64 0) 1 8 Try.underlying24 hi0 hz0 hz1 hz2 rfl (by decide) (.slice none 0 0) 0 [] rfl (World.ownsRow_nil _ _ _ _) ⟨w.heap.size + 1 + 1, 0, none⟩ 1 1 [.int .i64 0] rfl rfl (World.news_of_block HNB.out) (by simp [Value.oneCell']) (by decide) (by unfold maxLen; omega) (by omega) (by simp) _ rfl ?_)
  intro g0 c0 Z hoZ hgZ _ _
  have HGZ : Hid (W.grownBy Z none) := by rw [HWE.out]; exact grown_trans (World.grownBy_alloc _ _ none) hgZ
  have HO0 : Hid (Z.ownsRow W.heap.size 3 1 (.slice (some ⟨g0, 0, none⟩) 1 c0) 1 (intV (preF true))) := by rw [HWS.out]; exact hoZ
  have HL0 : Hid (1 = (preF true).length) := rfl
  clear hoZ hgZ HWE HWS HNB
  go_wp2_with fail
  have HGZ2 : Hid (W.grownBy (Z.alloc (.cells #[.int .i64 st] 3)).drew none) := grown_trans HGZ.out (grown_trans (World.grownBy_alloc _ _ none) (grown_drewN _ 1))
  have HGZ1 : Hid (W.grownBy Z.drew none) := grown_trans HGZ.out (grown_drewN _ 1)
  have HGZ3 : Hid (W.grownBy (Z.drew.alloc (.cells #[.int .i64 st] 3)) none) := grown_trans HGZ1.out (World.grownBy_alloc _ _ none)
  have HIA : Hid (IntsAt (Z.alloc (.cells #[.int .i64 st] 3)).drew (some ⟨Z.heap.size, 0, none⟩) [st]) := .inr ⟨Z.heap.size, 0, rfl, fun i hi => by
    have h2 : i = 0 := by simp at hi; omega
    subst h2
    have h3 : (Z.alloc (.cells #[.int .i64 st] 3)).drew.heap[Z.heap.size]? = some (.cells #[.int .i64 st] 3 (0, 0)) := heap_alloc_last Z _
    rw [cell_of_row _ _ _ _ _ _ h3]; rfl⟩
  go_region_held3 (fun Y => (Y.cell? ⟨w.heap.size, 0, none⟩ = some (.slice ta tn tc) ∧ Y.cell? ⟨w.heap.size, 1, none⟩ = some (.slice na nn nc) ∧ Y.cell? ⟨w.heap.size, 2, none⟩ = some (.slice la ln lc) ∧ Y.cell? ⟨w.heap.size, 3, none⟩ = some (.int .i64 st) ∧ Y.cell? ⟨w.heap.size, 4, none⟩ = some (.slice pa n pc) ∧ Y.cell? ⟨w.heap.size, 5, none⟩ = some (.slice (some ⟨sb, 0, none⟩) N sc) ∧ Y.cell? ⟨w.heap.size, 6, none⟩ = some (.map (some lb))) ∧ Y.cell? ⟨w.heap.size + 1, 0, none⟩ = some (.int .i64 0) ∧ Y.cell? ⟨w.heap.size + 1, 1, none⟩ = some (.int .i64 st) ∧ Y.cell? ⟨sb, tq * 2 + 1, none⟩ = some (.slice ea E ec)) (first | exact HCS.out _ HGZ1.out | exact HCS.out _ HGZ2.out | exact HCS.out _ HGZ3.out | exact HCS.out _ HG4.out | go_keep)
    ((first
      | (go_at_call 22; refine Calls.mono (HWK.out _ _ (grown_trans HGW.out HGZ2.out) HIA.out) ?_; rintro e w4 ⟨rfl, hg4⟩; have HG4 : Hid (W.grownBy w4 none) := grown_trans HGZ2.out hg4; have HO4 : Hid (w4.ownsRow W.heap.size 3 1 (.slice (some ⟨g0, 0, none⟩) 1 c0) 1 (intV (preF true))) := keep0 HO0.out (grown_trans (World.grownBy_alloc _ _ none) (grown_trans (grown_drewN _ 1) hg4)); clear hg4)
      | fail))
  clear HGZ1 HGZ2 HGZ3 HIA HO0 HGZ HWK
  go_wp2_with fail
  go_loopg [5, 30] E (fun gk v5 v30 wr => ∃ (j L : Nat) (a : Option Addr) (c : Nat), j ≤ E ∧ gk = E - j ∧ v30 = .int .i64 j ∧ v5 = .slice a L c ∧ L = (preF true ++ dirL tn ((es.getD tq []).take j)).length ∧ wr.ownsRow W.heap.size 3 1 (.slice a L c) L (intV (preF true ++ dirL tn ((es.getD tq []).take j))) ∧ W.grownBy wr none)
  case atStart => exact ⟨0, 1, some ⟨g0, 0, none⟩, c0, Nat.zero_le _, rfl, rfl, rfl, by simpa [dirL] using HL0.out, by simpa [dirL] using HO4.out, HG4.out⟩
  case round =>
    obtain ⟨j, L2, a2, c2, hj, hgj, rfl, rfl, hL2, hown2, hg2⟩ := hrel
    have HGJ : Hid (gk = E - j) := hgj
    have HL2 : Hid (L2 = (preF true ++ dirL tn ((es.getD tq []).take j)).length) := hL2
    have HO2 : Hid (wr.ownsRow W.heap.size 3 1 (.slice a2 L2 c2) L2 (intV (preF true ++ dirL tn ((es.getD tq []).take j)))) := hown2
    have HG2 : Hid (W.grownBy wr none) := hg2
    have hL2b : L2 ≤ 131 := by
      rw [hL2, List.length_append]
      have h1 := dirL_len tn ((es.getD tq []).take j)
      have h2 : ((es.getD tq []).take j).length ≤ j := by rw [List.length_take]; omega
      have h3 := preF_len (true)
      omega
    clear hgj hL2 hown2 hg2 HO4
    by_cases hlj : j < E
    · have hjd : decide (j < E) = true := decide_eq_true hlj
      have hj0 : (0 : Int) ≤ (j : Int) := by omega
      have hj1 : (j : Int) < (E : Int) := by omega
      have hje : j < (es.getD tq []).length := by rw [← HE.out]; exact hlj
      obtain ⟨eb, eo, hea, d0, d1⟩ := (HEC.out wr (grown_trans HGW.out HG2.out)).2.cellAt (i := j) (by rw [elF_len]; exact hje)
      subst hea
      rw [(elF_at hje).2] at d0 d1
      obtain ⟨x, hx⟩ : ∃ x, x = (es.getD tq []).getD j (0, 0) := ⟨_, rfl⟩
      rw [← hx] at d0 d1
      obtain ⟨u, t⟩ := x
      simp only at d0 d1
      have HTK : Hid (dirL tn ((es.getD tq []).take (j + 1)) = dirL tn ((es.getD tq []).take j) ++ (if u < tn then [(u : Int)] else [])) := by
        show _ = _
        rw [take_snocE hje hx.symm, dirL_snoc]
      have HA : Hid (W.grownBy (wr.alloc (.cells #[.int .i64 (u : Int), .int .i64 (t : Int)] 60)) none) := grown_trans HG2.out (World.grownBy_alloc _ _ none)
      obtain ⟨⟨k0, k1, k2, k3, k4, k5, k6⟩, _⟩ := HCS.out _ HA.out
      by_cases hts : u < tn
      · have HIT := show Hid _ from isTerm_any ta na la pa (some ⟨sb, 0, none⟩) tc nc lc pc sc n N lb st (wr.alloc (.cells #[.int .i64 (u : Int), .int .i64 (t : Int)] 60)) tn nn ln (u : Int) true (decide_eq_true (by omega)).symm
        clear hx hje
        go_wp2_with fail
        refine Calls.mono HIT.out ?_
        rintro e w5 ⟨rfl, hg5⟩
        have HG5 : Hid (W.grownBy w5 none) := grown_trans HA.out hg5
        have HO5 : Hid (w5.ownsRow W.heap.size 3 1 (.slice a2 L2 c2) L2 (intV (preF true ++ dirL tn ((es.getD tq []).take j)))) := keep0 HO2.out (grown_trans (World.grownBy_alloc _ _ none) hg5)
        have hbx : w5.heap[wr.heap.size]? = some (.cells #[.int .i64 (u : Int), .int .i64 (t : Int)] 60 (0, 0)) := box_kept (heap_alloc_last wr _) hg5
        have r0 : w5.cell? ⟨wr.heap.size, 0, none⟩ = some (.int .i64 (u : Int)) := by rw [cell_of_row _ _ _ _ _ _ hbx]; rfl
        have hsz := HG5.out.size
        clear hg5 hbx HIT k0 k1 k2 k3 k4 k5 k6 d0 d1
        go_wp2_with (at_builtin; refine wpList_append_lies _ rfl (.tmp 38) (.tmp 41) 24 rfl W.heap.size 3 i0 (.int .i64 0) 1 8 Try.underlying24 hi0 hz0 hz1 hz2 rfl (by decide) (.slice a2 L2 c2) L2 (intV (preF true ++ dirL tn ((es.getD tq []).take j))) rfl (HO5.out.alloc _) ⟨w5.heap.size, 0, none⟩ 1 1 [.int .i64 (u : Int)] rfl rfl (World.news_of_block (heap_alloc_last w5 _)) (by simp [Value.oneCell']) (by decide) (by unfold maxLen; omega) (by omega) (by simp; omega) _ rfl ?_)
        intro g7 c7 V hoV hgV _ _
        have HOV : Hid (V.ownsRow W.heap.size 3 1 (.slice (some ⟨g7, 0, none⟩) (L2 + 1) c7) (L2 + 1) (intV (preF true ++ dirL tn ((es.getD tq []).take (j + 1))))) := by
          rw [HTK.out, if_pos hts, ← List.append_assoc, intV_append]; exact hoV
        have HLV : Hid (L2 + 1 = (preF true ++ dirL tn ((es.getD tq []).take (j + 1))).length) := by
          show _ = _
          rw [HTK.out, if_pos hts, ← List.append_assoc, List.length_append, ← HL2.out]; rfl
        have HGV : Hid (W.grownBy V none) := grown_owned (grown_trans HG5.out (World.grownBy_alloc _ _ none)) (HO5.out.alloc _) (Nat.le_refl _) hgV
        clear hoV hgV r0
        go_wp2_with fail
        go_roundg (E - (j + 1))
        case measure => have := HGJ.out; omega
        case rel => exact ⟨j + 1, L2 + 1, some ⟨g7, 0, none⟩, c7, by omega, rfl, by go_num, rfl, HLV.out, HOV.out, HGV.out⟩
      · have HIT := show Hid _ from isTerm_any ta na la pa (some ⟨sb, 0, none⟩) tc nc lc pc sc n N lb st (wr.alloc (.cells #[.int .i64 (u : Int), .int .i64 (t : Int)] 60)) tn nn ln (u : Int) false (decide_eq_false (by omega)).symm
        clear hx hje
        go_wp2_with fail
        refine Calls.mono HIT.out ?_
        rintro e w5 ⟨rfl, hg5⟩
        have HG5 : Hid (W.grownBy w5 none) := grown_trans HA.out hg5
        have HO5 : Hid (w5.ownsRow W.heap.size 3 1 (.slice a2 L2 c2) L2 (intV (preF true ++ dirL tn ((es.getD tq []).take (j + 1))))) := by
          rw [HTK.out, if_neg hts, List.append_nil]; exact keep0 HO2.out (grown_trans (World.grownBy_alloc _ _ none) hg5)
        have HL5 : Hid (L2 = (preF true ++ dirL tn ((es.getD tq []).take (j + 1))).length) := by
          show _ = _
          rw [HTK.out, if_neg hts, List.append_nil]; exact HL2.out
        clear hg5 HIT k0 k1 k2 k3 k4 k5 k6 d0 d1
        go_wp2_with fail
        go_roundg (E - (j + 1))
        case measure => have := HGJ.out; omega
        case rel => exact ⟨j + 1, L2, a2, c2, by omega, rfl, by go_num, rfl, HL5.out, HO5.out, HG5.out⟩
    · have hjE : E = j := by omega
      subst hjE
      have hjd : decide (E < E) = false := decide_eq_false (by omega)
      have e9 : (es.getD tq []).take E = es.getD tq [] := by rw [HE.out, List.take_length]
      rw [e9] at HO2 HL2
      clear e9
      go_wp2_with fail
      go_ret
      exact ⟨a2, c2, by rw [← HL2.out]; rfl, by rw [← HL2.out]; exact owns_base HO2.out HGW.out.size, grown_trans HGW.out HG2.out⟩
end

end Go.Proofs.Ytfllgmbnljfboaa.J

/-
  trans: Direct, exported.
-/
namespace Go.Proofs.Ytfllgmbnljfboaa.J
open Go.RowKit Go.Maps Go.Shelf

attribute [local go_sem] Oper.semAt_some

theorem trI_mem {tn : Nat} {l : List (Nat × Nat)} {i : Nat} {x : It} (h : x ∈ trI tn l i) : ∃ e ∈ l, tn ≤ e.1 ∧ x = ((i : Int), (e.1 : Int)) := by
  unfold trI at h
  obtain ⟨e, he, rfl⟩ := List.mem_map.1 h
  obtain ⟨h1, h2⟩ := List.mem_filter.1 he
  exact ⟨e, h1, by simpa using h2, rfl⟩
theorem trT_mem {tn : Nat} {es : List (List (Nat × Nat))} : ∀ {i : Nat} {x : It}, x ∈ trT tn es i → ∃ q, q < i ∧ ∃ e ∈ es.getD q [], tn ≤ e.1 ∧ x = ((q : Int), (e.1 : Int))
  | 0, x, h => by cases h
  | i + 1, x, h => by
    rcases List.mem_append.1 h with h | h
    · obtain ⟨q, h1, h2⟩ := trT_mem h
      exact ⟨q, by omega, h2⟩
    · exact ⟨i, Nat.lt_succ_self _, trI_mem h⟩
theorem nextL_some {l : List (Nat × Nat)} {e : Nat × Nat} (h : e ∈ l) : ∃ t : Nat, nextL l (e.1 : Int) = some (t : Int) ∧ ∃ e' ∈ l, e'.1 = e.1 ∧ e'.2 = t := by
  unfold nextL
  cases h1 : l.find? (fun x => decide ((x.1 : Int) = (e.1 : Int))) with
  | none =>
    have := List.find?_eq_none.1 h1 e h
    simp at this
  | some x =>
    have h2 := List.find?_some h1
    refine ⟨x.2, rfl, x, List.mem_of_find?_eq_some h1, ?_, rfl⟩
    have : (x.1 : Int) = (e.1 : Int) := by simpa using h2
    omega
/-- What stands right behind a transition. -/
def dirOf (tn : Nat) (st : Int) (es : List (List (Nat × Nat))) (x : It) : List Int := preF (x.1 == 0 && x.2 == st) ++ dirL tn (es.getD ((leadA es x).getD 0).toNat [])
/-- What always holds of the edges that are walked. -/
structure EsOK (ks : List (List It)) (es : List (List (Nat × Nat))) : Prop where
  le : ks.length ≤ 256
  len : es.length = ks.length
  each : ∀ q, q < ks.length → (es.getD q []).length ≤ 130 ∧ ((es.getD q []).map Prod.fst).Nodup ∧ ∀ x ∈ es.getD q [], x.1 < 130 ∧ x.2 < ks.length
theorem EsOK.lead {ks : List (List It)} {es : List (List (Nat × Nat))} (h : EsOK ks es) {x : It} {v : Int} (hx : leadA es x = some v) : 0 ≤ v ∧ v < (ks.length : Int) := by
  unfold leadA leadT at hx
  split at hx
  · rename_i hc
    obtain ⟨e, he, _, h2⟩ := nextL_mem hx
    have := ((h.each x.1.toNat (by rw [← h.len]; omega)).2.2 e he).2
    omega
  · split at hx
    · simp [nextL] at hx
    · cases hx
theorem EsOK.ok {ks : List (List It)} {es : List (List (Nat × Nat))} (h : EsOK ks es) : LeadOK es := fun x v hx => by
  have := h.lead hx
  have := h.le
  omega
theorem EsOK.trans {ks : List (List It)} {es : List (List (Nat × Nat))} (h : EsOK ks es) {tn : Nat} {x : It} (hx : x ∈ trT tn es ks.length) : ∃ q s tq : Nat, x = ((q : Int), (s : Int)) ∧ q < ks.length ∧ tn ≤ s ∧ s < 130 ∧ leadA es ((q : Int), (s : Int)) = some (tq : Int) ∧ tq < ks.length := by
  obtain ⟨q, hq, e, he, h1, rfl⟩ := trT_mem hx
  obtain ⟨t, h2, e', he', _, h4⟩ := nextL_some he
  have h5 := (h.each q hq).2.2 e' he'
  have h6 := (h.each q hq).2.2 e he
  exact ⟨q, e.1, t, rfl, hq, h1, h6.1, by rw [leadA_at es (by rw [h.len]; exact hq)]; exact h2, by rw [← h4]; exact h5.2⟩

/-- What Direct tells. -/
def DirErr (l : List It) (D : It → List Int) (w : World) (e : Ending) (y : World) : Prop := ∃ (rb : Nat) (ua : Nat → Option Addr) (uc : Nat → Nat), e = .returned (.tuple #[.slice (some ⟨rb, 0, none⟩) l.length l.length, .int .i64 0]) ∧ ValAt y rb l.length 24 (fun k => .slice (ua k) (D (l.getD k (0, 0))).length (uc k)) ∧ (∀ k, k < l.length → y.ownsRow w.heap.size 3 1 (.slice (ua k) (D (l.getD k (0, 0))).length (uc k)) (D (l.getD k (0, 0))).length (intV (D (l.getD k (0, 0))))) ∧ w.grownBy y none

/-- Direct's row is new. -/
def DirLo (w : World) (e : Ending) : Prop := ∀ (a : Option Addr) (k c : Nat) (x : Value), e = .returned (.tuple #[.slice a k c, x]) → ∀ rb, a = some ⟨rb, 0, none⟩ → w.heap.size ≤ rb

section
variable (ta na la pa : Option Addr) (tc nc lc pc : Nat) (n : Nat) (st : Int) (w : World) (tn nn ln : Nat)
/-- direct, of any transition. -/
theorem direct_any (sa : Option Addr) (sc lb B m : Nat) (ks : List (List It)) (es : List (List (Nat × Nat))) (kv ev : Nat → Value) (h : EsOK ks es) (hP : AutP B w (.slice sa ks.length sc) ks (elF es) kv ev) (hL : LdAt w lb m (leadA es)) (x : It) (hx : x ∈ trT tn es ks.length) :
    Calls Try.prog 32 #[.agg #[.slice ta tn tc, .slice na nn nc, .slice la ln lc, .int .i64 st, .slice pa n pc, .slice sa ks.length sc, .map (some lb)], .agg #[.int .i64 x.1, .int .i64 x.2]] w fun e y => NumTold (dirOf tn st es x) w e y := by
  obtain ⟨q, s, tq, rfl, hq, h1, h2, h3, h4⟩ := h.trans hx
  have e1 : dirOf tn st es ((q : Int), (s : Int)) = preF ((q : Int) == 0 && (s : Int) == st) ++ dirL tn (es.getD tq []) := by
    unfold dirOf
    rw [h3]; rfl
  rw [e1]
  by_cases hst : (q : Int) = 0 ∧ (s : Int) = st
  · obtain ⟨hq0, hs⟩ := hst
    obtain rfl : q = 0 := by omega
    subst hs
    have e2 : ((((0 : Nat) : Int) == 0 && (s : Int) == (s : Int))) = true := by simp
    rw [e2]
    exact direct_start ta na la pa sa tc nc lc pc sc n ks.length lb (s : Int) w tn nn ln B m ks es kv ev rfl hP (fun q hq => (h.each q hq).1) hL h.ok tq (WalkArith.wf_i64 ⟨by omega, by omega⟩) h3 h4
  · have e2 : ((q : Int) == 0 && (s : Int) == st) = false := by
      rw [Bool.and_eq_false_iff, beq_eq_false_iff_ne, beq_eq_false_iff_ne]
      by_cases h5 : (q : Int) = 0
      · exact .inr fun h6 => hst ⟨h5, h6⟩
      · exact .inl h5
    rw [e2]
    exact direct_other ta na la pa sa tc nc lc pc sc n ks.length lb st w tn nn ln B m ks es kv ev rfl h.le hP (fun q hq => (h.each q hq).1) hL h.ok q tq (s : Int) hq (WalkArith.wf_i64 ⟨by omega, by omega⟩) h3 h4 hst

set_option maxRecDepth 100000 in
set_option maxHeartbeats 4000000 in
theorem directX_lo (ks : List (List It)) (es : List (List (Nat × Nat))) (h : EsOK ks es) (hO : OfOk ta na la pa tc nc lc pc n st w tn nn ln ks es) : Calls Try.prog 18 #[.agg #[.slice ta tn tc, .slice na nn nc, .slice la ln lc, .int .i64 st, .slice pa n pc]] w fun e y => DirErr (trT tn es ks.length) (dirOf tn st es) w e y ∧ DirLo w e := by
  have HO : Hid (OfOk ta na la pa tc nc lc pc n st w tn nn ln ks es) := hO
  have HE : Hid (EsOK ks es) := h
  have HX0 : Hid (w.grownBy (w.alloc (.cells #[.slice ta tn tc, .slice na nn nc, .slice la ln lc, .int .i64 st, .slice pa n pc] 27)) none) := World.grownBy_alloc _ _ none
  have infoInts : (Try.prog.info? 24).map (fun i => (i.zero, i.size, i.bytes)) = some (some (.slice none 0 0), 1, 24) := by kernel_rfl
  obtain ⟨i1, hi1, hy0, hy1, hy2⟩ := info_parts infoInts
  obtain ⟨l, hl⟩ : ∃ l, l = trT tn es ks.length := ⟨_, rfl⟩
  have HLE : Hid (l = trT tn es ks.length) := hl
  rw [← hl]
  clear hO h infoInts hl
  go_enter Try.func18, Try.ntmps18
  go_wp2_with fail
  refine Calls.mono (HO.out _ HX0.out) ?_
  rintro e w1 ⟨sa, sc, kv, ev, lb, m, rfl, hAP, hLd, hg1⟩
  obtain ⟨W, hW⟩ : ∃ W, W = w1.alloc (.cells #[.slice ta tn tc, .slice na nn nc, .slice la ln lc, .int .i64 st, .slice pa n pc, .slice sa ks.length sc, .map (some lb)] 72) := ⟨_, rfl⟩
  obtain ⟨bx, hbx⟩ : ∃ b, b = w1.heap.size := ⟨_, rfl⟩
  have HGW : Hid (w.grownBy W none) := by rw [hW]; exact grown_trans HX0.out (grown_trans hg1 (World.grownBy_alloc _ _ none))
  have HAP : Hid (∀ Y, W.grownBy Y none → ∃ B, AutP B Y (.slice sa ks.length sc) ks (elF es) kv ev) := fun Y hY => ⟨_, hAP.kept (grown_trans (by rw [hW]; exact World.grownBy_alloc _ _ none) hY)⟩
  have HLD : Hid (∀ Y, W.grownBy Y none → LdAt Y lb m (leadA es)) := fun Y hY => hLd.kept (grown_trans (by rw [hW]; exact World.grownBy_alloc _ _ none) hY) (by simp)
  have HBX : Hid (W.heap[bx]? = some (.cells #[.slice ta tn tc, .slice na nn nc, .slice la ln lc, .int .i64 st, .slice pa n pc, .slice sa ks.length sc, .map (some lb)] 72 (0, 0))) := by rw [hW, hbx]; exact heap_alloc_last w1 _
  have HTR : Hid (Calls Try.prog 29 #[.agg #[.slice ta tn tc, .slice na nn nc, .slice la ln lc, .int .i64 st, .slice pa n pc, .slice sa ks.length sc, .map (some lb)]] W fun e y => TrTold (trT tn es ks.length) W e y) := by
    obtain ⟨B, hB⟩ := HAP.out W (grown_refl _ _)
    exact trans_any ta na la pa sa tc nc lc pc sc n ks.length lb st W tn nn ln B ks es kv ev rfl HE.out.le hB (fun q hq => (HE.out.each q hq).1)
  have HDI : Hid (∀ Y x, W.grownBy Y none → x ∈ trT tn es ks.length → Calls Try.prog 32 #[.agg #[.slice ta tn tc, .slice na nn nc, .slice la ln lc, .int .i64 st, .slice pa n pc, .slice sa ks.length sc, .map (some lb)], .agg #[.int .i64 x.1, .int .i64 x.2]] Y fun e y => NumTold (dirOf tn st es x) Y e y) := fun Y x hY hx => by
    obtain ⟨B, hB⟩ := HAP.out Y hY
    exact direct_any ta na la pa tc nc lc pc n st Y tn nn ln sa sc lb B m ks es kv ev HE.out hB (HLD.out Y hY) x hx
  have HWE := show Hid _ from hW
  have HBE := show Hid _ from hbx
  have hlb : l.length ≤ 33280 := by
    rw [HLE.out]
    have h1 := trT_len (tn := tn) (c := 130) ks.length (fun q hq => (HE.out.each q hq).1)
    have h2 : ks.length * 130 ≤ 256 * 130 := Nat.mul_le_mul_right _ HE.out.le
    omega
  rw [← HLE.out] at HTR HDI
  obtain ⟨N, hN⟩ : ∃ n, n = ks.length := ⟨_, rfl⟩
  rw [← hN] at HBX HTR HDI HWE ⊢
  clear hg1 hAP hLd hW hbx hN HAP HLD HE HLE
  go_wp2_with fail
  rw [← HWE.out, ← HBE.out]
  refine Calls.mono HTR.out ?_
  rintro e w2 ⟨a2, c2, rfl, ho2, hg2⟩
  have HG2 : Hid (W.grownBy w2 none) := hg2
  have HI2 : Hid (∀ Y, w2.grownBy Y none → ItsAt Y a2 l) := fun Y hY => (ItsAt.ofT ho2).kept hY
  obtain ⟨K, hK⟩ : ∃ k, k = l.length := ⟨_, rfl⟩
  have HK : Hid (K = l.length) := hK
  rw [← hK] at hlb ⊢
  clear hg2 ho2 HTR HWE HBE hK
  go_wp2_with (at_make; refine wpList_make_full _ rfl _ _ 65 rfl w2.heap.size 24 i1 (.slice none 0 0) 1 Try.underlying65 hi1 hy0 hy1 .i64 .i64 _ _ K rfl rfl (by simp) (by simp) (by rw [hy2]; omega) (by unfold maxLen; omega) (by simp) ?_)
  intro P hown hgrow
  have hval : ValAt P w2.heap.size K 24 (fun _ => .slice none 0 0) := made_rowK (B := w2.heap.size) rfl (by simpa [Value.cells] using hown)
  obtain ⟨rb, hrb⟩ : ∃ rb, rb = w2.heap.size := ⟨_, rfl⟩
  rw [← hrb] at hval
  rw [← hrb]
  have HGP : Hid (W.grownBy P none) := grown_trans HG2.out hgrow
  have HIP : Hid (∀ Y, P.grownBy Y none → ItsAt Y a2 l) := fun Y hY => HI2.out Y (grown_trans hgrow hY)
  have HVP : Hid (ValAt P rb K 24 (fun _ => .slice none 0 0)) := hval
  have HRL : Hid (W.heap.size ≤ rb) := by show _ ≤ _; rw [hrb]; exact HG2.out.size
  have HRI : Hid (∀ Y, w2.grownBy Y none → ItsAt Y a2 l) := HI2.out
  have HW2 : Hid (w2.heap.size ≤ rb) := by show _ ≤ _; omega
  have HWP : Hid (w2.grownBy P none) := hgrow
  clear hown hgrow hval hrb HI2
  go_wp2_with fail
  go_loopg [25] K (fun gk v25 wr => ∃ (k : Nat) (ua : Nat → Option Addr) (uc : Nat → Nat), k ≤ K ∧ gk = K - k ∧ v25 = .int .i64 k ∧ w2.grownBy wr none ∧ ValAt wr rb K 24 (fun i => if i < k then .slice (ua i) (dirOf tn st es (l.getD i (0, 0))).length (uc i) else .slice none 0 0) ∧ ∀ i, i < k → wr.ownsRow w.heap.size 3 1 (.slice (ua i) (dirOf tn st es (l.getD i (0, 0))).length (uc i)) (dirOf tn st es (l.getD i (0, 0))).length (intV (dirOf tn st es (l.getD i (0, 0)))))
  case atStart => exact ⟨0, fun _ => none, fun _ => 0, Nat.zero_le _, rfl, rfl, HWP.out, HVP.out.ext (fun i _ => by rw [if_neg (by omega)]), fun i hi => absurd hi (Nat.not_lt_zero _)⟩
  case round =>
    obtain ⟨k, ua, uc, hk, hgk, rfl, hg, hv, hr⟩ := hrel
    have HGK : Hid (gk = K - k) := hgk
    have HG : Hid (w2.grownBy wr none) := hg
    have HV : Hid (ValAt wr rb K 24 (fun i => if i < k then .slice (ua i) (dirOf tn st es (l.getD i (0, 0))).length (uc i) else .slice none 0 0)) := hv
    have HR := show Hid _ from hr
    clear hgk hg hv hr
    by_cases hlt : k < K
    · have hkd : decide (k < K) = true := decide_eq_true hlt
      have hk0 : (0 : Int) ≤ (k : Int) := by omega
      have hk1 : (k : Int) < (K : Int) := by omega
      have hkl : k < l.length := by rw [← HK.out]; exact hlt
      obtain ⟨tb, to_, hta, c0, c1⟩ := (HRI.out wr HG.out).cellAt hkl
      subst hta
      have hmem : l.getD k (0, 0) ∈ l := by rw [List.getD_eq_getElem?_getD, List.getElem?_eq_getElem hkl]; exact List.getElem_mem hkl
      obtain ⟨x, hx⟩ : ∃ x, x = l.getD k (0, 0) := ⟨_, rfl⟩
      have HX : Hid (x = l.getD k (0, 0)) := hx
      rw [← hx] at c0 c1 hmem
      have HD := show Hid _ from HDI.out (wr.alloc (.cells #[.int .i64 x.1, .int .i64 x.2] 62)) x (grown_trans HG2.out (grown_trans HG.out (World.grownBy_alloc _ _ none))) hmem
      obtain ⟨k0, k1, k2, k3, k4, k5, k6⟩ := cells7 (box_kept HBX.out (grown_trans HG2.out (grown_trans HG.out (World.grownBy_alloc wr (.cells #[.int .i64 x.1, .int .i64 x.2] 62) none))))
      clear hx hmem hkl
      obtain ⟨p, d⟩ := x
      simp only at c0 c1 HD k0 k1 k2 k3 k4 k5 k6
      go_wp2_with fail
      refine Calls.mono HD.out ?_
      rintro e w5 ⟨a5, c5, rfl, ho5, hg5⟩
      have HG5 : Hid (w2.grownBy w5 none) := grown_trans HG.out (grown_trans (World.grownBy_alloc _ _ none) hg5)
      have HV5 : Hid (ValAt w5 rb K 24 (fun i => if i < k then .slice (ua i) (dirOf tn st es (l.getD i (0, 0))).length (uc i) else .slice none 0 0)) := HV.out.kept (grown_trans (World.grownBy_alloc _ _ none) hg5)
      have y0 := HV5.out.cell k hlt
      rw [if_neg (by omega)] at y0
      have f0 := HV5.out.free k
      obtain ⟨dl, hdl⟩ : ∃ m, m = (dirOf tn st es (p, d)).length := ⟨_, rfl⟩
      have HNX : Hid (∃ (ua' : Nat → Option Addr) (uc' : Nat → Nat), w2.grownBy (w5.setCell ⟨rb, k, none⟩ (.slice a5 dl c5)) none ∧ ValAt (w5.setCell ⟨rb, k, none⟩ (.slice a5 dl c5)) rb K 24 (fun i => if i < k + 1 then .slice (ua' i) (dirOf tn st es (l.getD i (0, 0))).length (uc' i) else .slice none 0 0) ∧ ∀ i, i < k + 1 → (w5.setCell ⟨rb, k, none⟩ (.slice a5 dl c5)).ownsRow w.heap.size 3 1 (.slice (ua' i) (dirOf tn st es (l.getD i (0, 0))).length (uc' i)) (dirOf tn st es (l.getD i (0, 0))).length (intV (dirOf tn st es (l.getD i (0, 0))))) := by
        have hgs : w5.grownBy (w5.setCell ⟨rb, k, none⟩ (.slice a5 dl c5)) (some rb) := grown_setCell _ _ _
        refine ⟨updL ua k a5, updL uc k c5, grown_new HG5.out hgs HW2.out, (HV5.out.set k _).ext (fun i _ => ?_), fun i hi => ?_⟩
        · unfold put
          by_cases e : i = k
          · subst e
            rw [if_pos rfl, if_pos (by omega), updL_same, updL_same, hdl, HX.out]
          · rw [if_neg e, updL_other _ _ e, updL_other _ _ e]
            simp only
            by_cases e2 : i < k
            · rw [if_pos e2, if_pos (by omega)]
            · rw [if_neg e2, if_neg (by omega)]
        · by_cases e : i = k
          · subst e
            rw [updL_same, updL_same, ← HX.out]
            have h9 := owns_base ho5 (B' := w.heap.size) (Nat.le_trans HGW.out.size (grown_trans HG2.out (grown_trans HG.out (World.grownBy_alloc _ _ none))).size)
            exact h9.kept hgs (owns_nebox h9 HV5.out (by decide))
          · rw [updL_other _ _ e, updL_other _ _ e]
            have h9 := keep0 (HR.out i (by omega)) (grown_trans (World.grownBy_alloc wr (.cells #[.int .i64 p, .int .i64 d] 62) none) hg5)
            exact h9.kept hgs (owns_nebox h9 HV5.out (by decide))
      rw [← hdl]
      clear ho5 hg5 hdl k0 k1 k2 k3 k4 k5 k6 c0 c1 HD
      go_wp2_with fail
      go_roundg (K - (k + 1))
      case measure => have := HGK.out; omega
      case rel =>
        obtain ⟨ua', uc', h1, h2, h3⟩ := HNX.out
        exact ⟨k + 1, ua', uc', by omega, rfl, by go_num, h1, h2, h3⟩
    · have hkK : K = k := by omega
      subst hkK
      have hkd : decide (K < K) = false := decide_eq_false (by omega)
      go_wp2_with fail
      go_ret2
      refine ⟨⟨rb, ua, uc, by rw [← HK.out]; rfl, by rw [← HK.out]; exact HV.out.ext (fun i hi => by rw [if_pos hi]), fun i hi => HR.out i (by rw [HK.out]; exact hi), grown_trans HGW.out (grown_trans HG2.out HG.out)⟩, fun a k c x e rb' ha => ?_⟩
      simp at e
      obtain ⟨⟨e1, _⟩, _⟩ := e
      rw [← e1] at ha
      simp only [Option.some.injEq, Addr.mk.injEq] at ha
      have h1 := HRL.out
      have h2 := HGW.out.size
      omega
theorem directX_ok (ks : List (List It)) (es : List (List (Nat × Nat))) (h : EsOK ks es) (hO : OfOk ta na la pa tc nc lc pc n st w tn nn ln ks es) : Calls Try.prog 18 #[.agg #[.slice ta tn tc, .slice na nn nc, .slice la ln lc, .int .i64 st, .slice pa n pc]] w fun e y => DirErr (trT tn es ks.length) (dirOf tn st es) w e y :=
  (directX_lo ta na la pa tc nc lc pc n st w tn nn ln ks es h hO).mono fun _ _ h => h.1
end

end Go.Proofs.Ytfllgmbnljfboaa.J
