import Derived.Test.YtapahpljmcaahaaQfnaeblgimkbp
import Derived.Test.YtapahpljmcaahaaQgadmkcmebdgl

/-
  lr0: Build.
-/
namespace Go.Proofs.Ytapahpljmcaahaa.J
open Go.RowKit Go.Maps Go.Shelf

attribute [local go_sem] Oper.semAt_some

theorem results_build (tmps : Array Value) (w : World) (g : Nat) (cs : Array Value) (x : Value) (h2 : tmps.getD 2 undef = .pointer (some ⟨g, 0, none⟩)) (h3 : tmps.getD 3 undef = x) (hg : w.heap[g]? = some (.cells cs 32 (0, 0))) (hs : cs.size = 3) :
    (results Try.f8 tmps).run Try.prog w = .ok (.tuple #[.agg cs, x]) w := by
  have h2' : tmps[2]?.getD undef = .pointer (some ⟨g, 0, none⟩) := by simpa using h2
  have h3' : tmps[3]?.getD undef = x := by simpa using h3
  have hl := run_loadVar_row (P := Try.prog) w g 32 32 cs (0, 0) _ hg Try.underlying32 rfl (by rw [hs]; kernel_rfl)
  simp [results, Try.results8, h2', h3', asAddr, hl]

/-- The maker as newMaker leaves it. -/
theorem mk_new {w X : World} {mb bm : Nat} {c0 c1 c2 c3 c4 : Value} (hg : w.grownBy X none) (hb : X.heap[mb]? = some (.cells #[c0, c1, c2, c3, c4, .slice none 0 0, .int .i64 0, .int .i64 0, .map (some bm)] 78 (0, 0))) (hm : MpAt X bm 0 (fun _ => .slice none 0 0)) (h1 : w.heap.size ≤ bm) (h2 : bm < mb) : MkAt w X mb bm c0 c1 c2 c3 c4 [] 0 (fun _ => []) 0 :=
  ⟨none, 0, fun _ => undef, fun _ => undef, 0, fun _ => .slice none 0 0, ⟨hg, hb, World.ownsRow_nil _ _ _ _, fun i hi => absurd hi (Nat.not_lt_zero _), fun i hi => absurd hi (Nat.not_lt_zero _), hm, fun x => by rw [begI_nil]; exact World.ownsRow_nil _ _ _ _, fun x y _ => .inl rfl, ⟨h1, by omega⟩, fun i hi => absurd hi (Nat.not_lt_zero _)⟩, Nat.le_refl _⟩

section
variable (ta na la pa : Option Addr) (tc nc lc pc : Nat) (ts : List (ByteArray × Int)) (ns : List ByteArray) (lv : List Int) (n : Nat) (L : Nat → Int) (R : Nat → List Int) (ra : Nat → Option Addr) (rc : Nat → Nat) (V : Nat → Int) (st : Int) (w : World) (tn nn ln : Nat) (hlen : ts.length = tn ∧ ns.length = nn ∧ lv.length = ln) (hG : GAt w ta na la pa tc nc lc pc ts ns lv n L R ra rc V)
include hlen hG
set_option maxRecDepth 100000 in
theorem buildBad (hb : ¬ closedOK ts ns lv st n L R V) : Calls Try.prog 8 #[.agg #[.slice ta tn tc, .slice na nn nc, .slice la ln lc, .int .i64 st, .slice pa n pc]] w fun e y => e = .returned (.tuple #[.agg #[.slice none 0 0, .int .i64 0, .int .i64 0], .int .i64 1]) ∧ w.grownBy y none := by
  have HCL : Hid (∀ X, w.grownBy X none → Calls Try.prog 22 #[.agg #[.slice ta tn tc, .slice na nn nc, .slice la ln lc, .int .i64 st, .slice pa n pc]] X fun e w' => e = .returned (.bool false) ∧ X.grownBy w' none) := fun X hX => by
    have := closed_any ta na la pa tc nc lc pc ts ns lv n L R ra rc V st X (hG.kept hX) false ⟨(fun h => by cases h), fun h => absurd h hb⟩
    rwa [hlen.1, hlen.2.1, hlen.2.2] at this
  have HX0 : Hid (w.grownBy ((w.alloc (.cells #[.slice ta tn tc, .slice na nn nc, .slice la ln lc, .int .i64 st, .slice pa n pc] 27)).alloc (.cells #[.slice none 0 0, .int .i64 0, .int .i64 0] 32)) none) := grown_trans (World.grownBy_alloc _ _ none) (World.grownBy_alloc _ _ none)
  have HB0 : Hid (((w.alloc (.cells #[.slice ta tn tc, .slice na nn nc, .slice la ln lc, .int .i64 st, .slice pa n pc] 27)).alloc (.cells #[.slice none 0 0, .int .i64 0, .int .i64 0] 32)).heap[w.heap.size + 1]? = some (.cells #[.slice none 0 0, .int .i64 0, .int .i64 0] 32 (0, 0))) := by
    have h := heap_alloc_last (w.alloc (.cells #[.slice ta tn tc, .slice na nn nc, .slice la ln lc, .int .i64 st, .slice pa n pc] 27)) (.cells #[.slice none 0 0, .int .i64 0, .int .i64 0] 32)
    rw [World.size_alloc] at h; exact h
  clear hlen hG hb
  go_enter Try.func8, Try.ntmps8
  go_wp2_with fail
  refine Calls.mono (HCL.out _ HX0.out) ?_
  rintro e w1 ⟨rfl, hg1⟩
  have HB1 : Hid (w1.heap[w.heap.size + 1]? = some (.cells #[.slice none 0 0, .int .i64 0, .int .i64 0] 32 (0, 0))) := box_kept HB0.out hg1
  have HG1 : Hid (w.grownBy w1 none) := grown_trans HX0.out hg1
  clear hg1 HB0 HX0
  have k0 := cell_of_row w1 (w.heap.size + 1) 0 _ _ _ HB1.out
  have k1 := cell_of_row w1 (w.heap.size + 1) 1 _ _ _ HB1.out
  have k2 := cell_of_row w1 (w.heap.size + 1) 2 _ _ _ HB1.out
  have kf := fun j => frozen_of_row w1 (w.heap.size + 1) j _ _ HB1.out
  simp only [List.getElem?_toArray, List.getElem?_cons_zero, List.getElem?_cons_succ] at k0 k1 k2
  go_wp2_with fail
  refine bodyPost_ret (v := .tuple #[.agg #[.slice none 0 0, .int .i64 0, .int .i64 0], .int .i64 1]) ?_ rfl ?_
  · exact results_build _ _ (w.heap.size + 1) _ _ rfl rfl (set3_heap HB1.out _ _ _) rfl
  · exact ⟨rfl, grown_new HG1.out (set3_grown _ _ _ _ _) (by omega)⟩

set_option maxRecDepth 100000 in
theorem buildOk (hc : closedOK ts ns lv st n L R V) : Calls Try.prog 8 #[.agg #[.slice ta tn tc, .slice na nn nc, .slice la ln lc, .int .i64 st, .slice pa n pc]] w fun e y => AutTold w tn n (tn + nn) L R e y := by
  have hM : MayOK tn nn n st L R true := by obtain ⟨rfl, rfl, rfl⟩ := hlen; exact mayOK_closed hc
  have HCL : Hid (∀ X, w.grownBy X none → Calls Try.prog 22 #[.agg #[.slice ta tn tc, .slice na nn nc, .slice la ln lc, .int .i64 st, .slice pa n pc]] X fun e w' => e = .returned (.bool true) ∧ X.grownBy w' none) := fun X hX => by
    have := closed_any ta na la pa tc nc lc pc ts ns lv n L R ra rc V st X (hG.kept hX) true ⟨fun _ => hc, fun _ => rfl⟩
    rwa [hlen.1, hlen.2.1, hlen.2.2] at this
  have HAU : Hid (∀ X Y mb bm E, w.grownBy X none → MkAt X Y mb bm (.slice ta tn tc) (.slice na nn nc) (.slice la ln lc) (.int .i64 st) (.slice pa n pc) [] 0 (fun _ => []) E → Calls Try.prog 24 #[.pointer (some ⟨mb, 0, none⟩)] Y fun e y => AutTold X tn n (tn + nn) L R e y) := fun X Y mb bm E hX hmk => automaton_any ta na la pa tc nc lc pc n L R ra rc V st X Y tn nn ln (prods_kept hG.prods hX) hM.pmax hM.p0 hM.tmax hM.nmax (fun k hk x hx => ⟨by have := hM.right k hk x hx; omega, (hM.right k hk x hx).2⟩) (gright hG.prods) mb bm E hmk
  have HX0 : Hid (w.grownBy ((w.alloc (.cells #[.slice ta tn tc, .slice na nn nc, .slice la ln lc, .int .i64 st, .slice pa n pc] 27)).alloc (.cells #[.slice none 0 0, .int .i64 0, .int .i64 0] 32)) none) := grown_trans (World.grownBy_alloc _ _ none) (World.grownBy_alloc _ _ none)
  have HP0 : Hid (PhAt w ((w.alloc (.cells #[.slice ta tn tc, .slice na nn nc, .slice la ln lc, .int .i64 st, .slice pa n pc] 27)).alloc (.cells #[.slice none 0 0, .int .i64 0, .int .i64 0] 32)) w.heap.size #[.slice ta tn tc, .slice na nn nc, .slice la ln lc, .int .i64 st, .slice pa n pc]) := PhAt.kept ⟨World.grownBy_alloc _ _ none, heap_alloc_last w _⟩ (World.grownBy_alloc _ _ none)
  have HB0 : Hid (((w.alloc (.cells #[.slice ta tn tc, .slice na nn nc, .slice la ln lc, .int .i64 st, .slice pa n pc] 27)).alloc (.cells #[.slice none 0 0, .int .i64 0, .int .i64 0] 32)).heap[w.heap.size + 1]? = some (.cells #[.slice none 0 0, .int .i64 0, .int .i64 0] 32 (0, 0))) := by
    have h := heap_alloc_last (w.alloc (.cells #[.slice ta tn tc, .slice na nn nc, .slice la ln lc, .int .i64 st, .slice pa n pc] 27)) (.cells #[.slice none 0 0, .int .i64 0, .int .i64 0] 32)
    rw [World.size_alloc] at h; exact h
  clear hlen hG hc hM
  obtain ⟨S, hS⟩ : ∃ S, S = tn + nn := ⟨_, rfl⟩
  rw [← hS] at HAU
  rw [← hS]
  clear hS
  go_enter Try.func8, Try.ntmps8
  go_wp2_with fail
  refine Calls.mono (HCL.out _ HX0.out) ?_
  rintro e w1 ⟨rfl, hg1⟩
  have HB1 : Hid (w1.heap[w.heap.size + 1]? = some (.cells #[.slice none 0 0, .int .i64 0, .int .i64 0] 32 (0, 0))) := box_kept HB0.out hg1
  have HP1 : Hid (PhAt w w1 w.heap.size #[.slice ta tn tc, .slice na nn nc, .slice la ln lc, .int .i64 st, .slice pa n pc]) := HP0.out.kept hg1
  clear hg1 HB0 HX0 HP0
  obtain ⟨k0, k1, k2, k3, k4⟩ := HP1.out.cells
  go_wp2_with fail
  refine Calls.mono (newMaker_any ta na la pa tc nc lc pc n st w1 tn nn ln) ?_
  rintro e w2 ⟨mb, bm, rfl, hbx, hmp, h1, h2, hg2⟩
  have HMK : Hid (MkAt w1 w2 mb bm (.slice ta tn tc) (.slice na nn nc) (.slice la ln lc) (.int .i64 st) (.slice pa n pc) [] 0 (fun _ => []) 0) := mk_new hg2 hbx hmp h1 h2
  clear hbx hmp h1 h2 hg2 k0 k1 k2 k3 k4
  go_wp2_with fail
  refine Calls.mono (HAU.out w1 w2 mb bm 0 HP1.out.grown HMK.out) ?_
  rintro e w3 (⟨ks, es, sa, sc, kv, ev, hau, rfl, hAP, hg3⟩ | ⟨hau, rfl, hg3⟩)
  · have HB3 : Hid (w3.heap[w.heap.size + 1]? = some (.cells #[.slice none 0 0, .int .i64 0, .int .i64 0] 32 (0, 0))) := box_kept HB1.out hg3
    have HG3 : Hid (w.grownBy w3 none) := grown_trans HP1.out.grown hg3
    have HAP : Hid (AutP w.heap.size w3 (.slice sa ks.length sc) ks (elF es) kv ev) := ⟨owns_base hAP.row HP1.out.grown.size, fun i hi => owns_base (hAP.ker i hi) HP1.out.grown.size, fun i hi => owns_base (hAP.edg i hi) HP1.out.grown.size⟩
    have HA : Hid (autoF (GG tn n L R) S 256 = some (ks, es)) := hau
    have k0 := cell_of_row w3 (w.heap.size + 1) 0 _ _ _ HB3.out
    have k1 := cell_of_row w3 (w.heap.size + 1) 1 _ _ _ HB3.out
    have k2 := cell_of_row w3 (w.heap.size + 1) 2 _ _ _ HB3.out
    have kf := fun j => frozen_of_row w3 (w.heap.size + 1) j _ _ HB3.out
    simp only [List.getElem?_toArray, List.getElem?_cons_zero, List.getElem?_cons_succ] at k0 k1 k2
    obtain ⟨ask, hask⟩ : ∃ a, a = (askN es : Int) := ⟨_, rfl⟩
    have HASK : Hid (ask = (askN es : Int)) := hask
    obtain ⟨N, hN⟩ : ∃ a, a = ks.length := ⟨_, rfl⟩
    have HN : Hid (N = ks.length) := hN
    rw [← hask, ← hN]
    clear hask hN hau hAP hg3
    go_wp2_with fail
    refine bodyPost_ret (v := .tuple #[.agg #[.slice sa N sc, .int .i64 ask, .int .i64 (N : Int)], .int .i64 0]) ?_ rfl ?_
    · exact results_build _ _ (w.heap.size + 1) _ _ rfl rfl (set3_heap HB3.out _ _ _) rfl
    · refine .inl ⟨ks, es, sa, sc, kv, ev, HA.out, ?_, ?_, grown_new HG3.out (set3_grown _ _ _ _ _) (by omega)⟩
      · rw [HASK.out, ← HN.out]
      · exact HAP.out.box HB3.out (by decide) (by decide) (by decide) (set3_grown _ _ _ _ _)
  · have HB3 : Hid (w3.heap[w.heap.size + 1]? = some (.cells #[.slice none 0 0, .int .i64 0, .int .i64 0] 32 (0, 0))) := box_kept HB1.out hg3
    have HG3 : Hid (w.grownBy w3 none) := grown_trans HP1.out.grown hg3
    have HA : Hid (autoF (GG tn n L R) S 256 = none) := hau
    have k0 := cell_of_row w3 (w.heap.size + 1) 0 _ _ _ HB3.out
    have k1 := cell_of_row w3 (w.heap.size + 1) 1 _ _ _ HB3.out
    have k2 := cell_of_row w3 (w.heap.size + 1) 2 _ _ _ HB3.out
    have kf := fun j => frozen_of_row w3 (w.heap.size + 1) j _ _ HB3.out
    simp only [List.getElem?_toArray, List.getElem?_cons_zero, List.getElem?_cons_succ] at k0 k1 k2
    clear hau hg3
    go_wp2_with fail
    refine bodyPost_ret (v := .tuple #[.agg #[.slice none 0 0, .int .i64 0, .int .i64 0], .int .i64 11]) ?_ rfl ?_
    · exact results_build _ _ (w.heap.size + 1) _ _ rfl rfl (set3_heap HB3.out _ _ _) rfl
    · exact .inr ⟨HA.out, rfl, grown_new HG3.out (set3_grown _ _ _ _ _) (by omega)⟩
end

end Go.Proofs.Ytapahpljmcaahaa.J

/-
  lr0: an automaton in memory, read.
-/
namespace Go.Proofs.Ytapahpljmcaahaa.J
open Go.RowKit Go.Maps Go.Shelf

theorem own_nil {X : World} {B e s n c : Nat} {a : Option Addr} {xs : List Value} (h : X.ownsRow B e s (.slice a n c) n xs) : a = none → n = 0 ∧ c = 0 := fun e => by
  rcases h.2 with ⟨h1, h2⟩ | ⟨g, cap, cur, h1, _⟩
  · simp only [Value.slice.injEq] at h1
    exact ⟨h2, h1.2.2⟩
  · simp only [Value.slice.injEq] at h1
    rw [e] at h1
    cases h1.1
theorem ItsAt.cellAt {X : World} {a : Option Addr} {l : List It} (h : ItsAt X a l) {i : Nat} (hi : i < l.length) : ∃ b off, a = some ⟨b, off, none⟩ ∧ X.cell? ⟨b, off + i * 2, none⟩ = some (.int .i64 (l.getD i (0, 0)).1) ∧ X.cell? ⟨b, off + i * 2 + 1, none⟩ = some (.int .i64 (l.getD i (0, 0)).2) := by
  rcases h with h | ⟨b, off, e, h⟩
  · rw [h] at hi; cases hi
  · exact ⟨b, off, e, h i hi⟩
theorem ItsAt.ofT {X : World} {B c e : Nat} {a : Option Addr} {l : List It} (h : X.ownsRow B e 2 (.slice a l.length c) l.length (itsV l)) : ItsAt X a l := by
  rcases h.2 with ⟨h', h2⟩ | ⟨g, cap, cur, hv, hB, hh, _, _, hs, ht⟩
  · left
    exact List.eq_nil_of_length_eq_zero h2
  · right
    simp only [Value.slice.injEq] at hv
    refine ⟨g, 0, hv.1, fun i hi => ?_⟩
    obtain ⟨h3, h4⟩ := itsV_at l i hi
    rw [← ht, List.getElem?_take, if_pos (by omega)] at h3 h4
    rw [Nat.zero_add, cell_of_row _ _ _ _ _ _ hh, cell_of_row _ _ _ _ _ _ hh]
    exact ⟨by simpa using h3, by simpa using h4⟩
/-- The cells of an automaton that is read. -/
theorem AutP.st {B : Nat} {X : World} {v : Value} {ks : List (List It)} {el : Nat → List It} {kv ev : Nat → Value} (h : AutP B X v ks el kv ev) {q : Nat} (hq : q < ks.length) : ∃ g c, v = .slice (some ⟨g, 0, none⟩) ks.length c ∧ X.cell? ⟨g, q * 2, none⟩ = some (kv q) ∧ X.cell? ⟨g, q * 2 + 1, none⟩ = some (ev q) := by
  obtain ⟨g, c, e, h1⟩ := owns_at h.row (by omega)
  exact ⟨g, c, e, h1 _ _ (stV_at kv ev _ q hq).1, h1 _ _ (stV_at kv ev _ q hq).2⟩
theorem AutP.kerAt {B : Nat} {X : World} {v : Value} {ks : List (List It)} {el : Nat → List It} {kv ev : Nat → Value} (h : AutP B X v ks el kv ev) {q : Nat} (hq : q < ks.length) : ∃ a c, kv q = .slice a (ks.getD q []).length c ∧ ItsAt X a (ks.getD q []) ∧ (a = none → (ks.getD q []).length = 0 ∧ c = 0) := by
  have h1 := h.ker q hq
  obtain ⟨a, c, e⟩ := owns_cut h1
  rw [e] at h1
  exact ⟨a, c, e, ItsAt.of h1, own_nil h1⟩
theorem AutP.edgAt {B : Nat} {X : World} {v : Value} {ks : List (List It)} {el : Nat → List It} {kv ev : Nat → Value} (h : AutP B X v ks el kv ev) {q : Nat} (hq : q < ks.length) : ∃ a c, ev q = .slice a (el q).length c ∧ ItsAt X a (el q) := by
  have h1 := h.edg q hq
  obtain ⟨a, c, e⟩ := owns_cut h1
  rw [e] at h1
  exact ⟨a, c, e, ItsAt.ofT h1⟩
theorem elF_at {es : List (List (Nat × Nat))} {q i : Nat} (hi : i < (es.getD q []).length) : (elF es q).length = (es.getD q []).length ∧ (elF es q).getD i (0, 0) = (((((es.getD q []).getD i (0, 0)).1 : Nat) : Int), ((((es.getD q []).getD i (0, 0)).2 : Nat) : Int)) := by
  unfold elF
  generalize es.getD q [] = l at hi ⊢
  refine ⟨edI_len l, ?_⟩
  unfold edI
  rw [List.getD_eq_getElem?_getD, List.getD_eq_getElem?_getD, List.getElem?_map, List.getElem?_eq_getElem hi]; rfl
theorem elF_len (es : List (List (Nat × Nat))) (q : Nat) : (elF es q).length = (es.getD q []).length := edI_len _

theorem AutP.base {B B' : Nat} {X : World} {v : Value} {ks : List (List It)} {el : Nat → List It} {kv ev : Nat → Value} (h : AutP B X v ks el kv ev) (hb : B' ≤ B) : AutP B' X v ks el kv ev :=
  ⟨owns_base h.row hb, fun i hi => owns_base (h.ker i hi) hb, fun i hi => owns_base (h.edg i hi) hb⟩
theorem PJ.len {n : Nat} {R : Nat → List Int} {i : Nat} {k : List It} (h : PJ n R i k) (hi : i ≤ 257) : k.length ≤ 3341001 := by
  have h1 := h.2
  have h2 : 13000 * i ≤ 13000 * 257 := Nat.mul_le_mul_left _ hi
  omega
section
variable (ta na la pa : Option Addr) (tc nc lc pc : Nat) (ts : List (ByteArray × Int)) (ns : List ByteArray) (lv : List Int) (n : Nat) (L : Nat → Int) (R : Nat → List Int) (ra : Nat → Option Addr) (rc : Nat → Nat) (V : Nat → Int) (st : Int) (w : World) (tn nn ln : Nat) (hlen : ts.length = tn ∧ ns.length = nn ∧ lv.length = ln) (hG : GAt w ta na la pa tc nc lc pc ts ns lv n L R ra rc V)
include hlen hG
/-- Build, where there is an automaton: one for all worlds. -/
theorem build_some (hc : closedOK ts ns lv st n L R V) {ks : List (List It)} {es : List (List (Nat × Nat))} (h : autoF (GG tn n L R) (tn + nn) 256 = some (ks, es)) (X : World) (hX : w.grownBy X none) : Calls Try.prog 8 #[.agg #[.slice ta tn tc, .slice na nn nc, .slice la ln lc, .int .i64 st, .slice pa n pc]] X fun e y => ∃ sa sc kv ev, e = .returned (.tuple #[.agg #[.slice sa ks.length sc, .int .i64 (askN es : Int), .int .i64 (ks.length : Int)], .int .i64 0]) ∧ AutP X.heap.size y (.slice sa ks.length sc) ks (elF es) kv ev ∧ X.grownBy y none := by
  refine (buildOk ta na la pa tc nc lc pc ts ns lv n L R ra rc V st X tn nn ln hlen (hG.kept hX) hc).mono ?_
  rintro e y (⟨ks', es', sa, sc, kv, ev, hau, rfl, hA, hg⟩ | ⟨hau, _⟩)
  · have h2 := h.symm.trans hau
    simp only [Option.some.injEq, Prod.mk.injEq] at h2
    obtain ⟨rfl, rfl⟩ := h2
    exact ⟨sa, sc, kv, ev, rfl, hA, hg⟩
  · have h2 := h.symm.trans hau
    cases h2
theorem build_none (hc : closedOK ts ns lv st n L R V) (h : autoF (GG tn n L R) (tn + nn) 256 = none) (X : World) (hX : w.grownBy X none) : Calls Try.prog 8 #[.agg #[.slice ta tn tc, .slice na nn nc, .slice la ln lc, .int .i64 st, .slice pa n pc]] X fun e y => e = .returned (.tuple #[.agg #[.slice none 0 0, .int .i64 0, .int .i64 0], .int .i64 11]) ∧ X.grownBy y none := by
  refine (buildOk ta na la pa tc nc lc pc ts ns lv n L R ra rc V st X tn nn ln hlen (hG.kept hX) hc).mono ?_
  rintro e y (⟨ks', es', sa, sc, kv, ev, hau, rfl, hA, hg⟩ | ⟨hau, rfl, hg⟩)
  · have h2 := h.symm.trans hau
    cases h2
  · exact ⟨rfl, hg⟩
end

end Go.Proofs.Ytapahpljmcaahaa.J

/-
  lr0: the search of the law Lr0Interns, in memory.
-/
namespace Go.Proofs.Ytapahpljmcaahaa.J
open Go.RowKit Go.Maps Go.Shelf

def natJ (l : List Nat) : List Int := l.map fun (i : Nat) => (i : Int)
theorem natJ_len (l : List Nat) : (natJ l).length = l.length := by unfold natJ; rw [List.length_map]
theorem natJ_snoc (l : List Nat) (t : Nat) : natJ (l ++ [t]) = natJ l ++ [(t : Int)] := by unfold natJ; rw [List.map_append]; rfl

theorem QueAt.apart {X Y : World} {B cap b : Nat} {a : Option Addr} {xs : List Int} (h : QueAt X B a cap xs) (hg : X.grownBy Y (some b)) (hne : cap ≠ 0 → ∀ g off, a = some ⟨g, off, none⟩ → g ≠ b) : QueAt Y B a cap xs := by
  refine ⟨h.1, fun hc => ?_⟩
  obtain ⟨g, off, cur, h1, h2, h3, h4⟩ := h.2 hc
  exact ⟨g, off, cur, h1, h2, (hg.block g (Array.getElem?_eq_some_iff.1 h3).1 (by simpa using hne hc g off h1)).trans h3, h4⟩

/-- The search under way, in memory. -/
structure RbAt (P X : World) (ib bb N : Nat) (inn : Nat → Bool) (by_ : Nat → Int) (a : Option Addr) (cap : Nat) (todo : List Int) : Prop where
  grown : P.grownBy X none
  iv : ValAt X ib N 4 (fun k => .bool (inn k))
  bv : ValAt X bb N 3 (fun k => .int .i64 (by_ k))
  que : QueAt X P.heap.size a cap todo
  sep : cap ≠ 0 → ∀ g off, a = some ⟨g, off, none⟩ → g ≠ bb
  lo : P.heap.size ≤ ib ∧ P.heap.size ≤ bb
section
variable {P X Y : World} {ib bb N : Nat} {inn : Nat → Bool} {by_ : Nat → Int} {a : Option Addr} {cap : Nat} {todo : List Int}
theorem RbAt.kept (h : RbAt P X ib bb N inn by_ a cap todo) (hg : X.grownBy Y none) : RbAt P Y ib bb N inn by_ a cap todo :=
  ⟨grown_trans h.grown hg, h.iv.kept hg, h.bv.kept hg, h.que.kept hg, h.sep, h.lo⟩
theorem RbAt.ne (h : RbAt P X ib bb N inn by_ a cap todo) : ib ≠ bb := fun e => by
  have h1 := h.iv
  have h2 := h.bv
  unfold ValAt at h1 h2
  rw [e, h2] at h1
  simp only [Option.some.injEq, Obj.cells.injEq] at h1
  exact absurd h1.2.1 (by decide)
theorem RbAt.mark (h : RbAt P X ib bb N inn by_ a cap todo) (t : Nat) : RbAt P (X.setCell ⟨ib, t, none⟩ (.bool true)) ib bb N (markJ inn t) by_ a cap todo := by
  have hg : X.grownBy (X.setCell ⟨ib, t, none⟩ (.bool true)) (some ib) := grown_setCell _ _ _
  refine ⟨grown_new h.grown hg h.lo.1, ?_, h.bv.at hg (fun e => h.ne e.symm), h.que.other hg h.iv (by decide), h.sep, h.lo⟩
  refine (h.iv.set t (.bool true)).ext fun i _ => ?_
  unfold put markJ
  by_cases e : i = t
  · rw [if_pos e, if_pos e]
  · rw [if_neg e, if_neg e]
theorem RbAt.setBy (h : RbAt P X ib bb N inn by_ a cap todo) (t : Nat) (v : Int) : RbAt P (X.setCell ⟨bb, t, none⟩ (.int .i64 v)) ib bb N inn (fun u => if u = t then v else by_ u) a cap todo := by
  have hg : X.grownBy (X.setCell ⟨bb, t, none⟩ (.int .i64 v)) (some bb) := grown_setCell _ _ _
  refine ⟨grown_new h.grown hg h.lo.2, h.iv.at hg h.ne, ?_, h.que.apart hg h.sep, h.sep, h.lo⟩
  refine (h.bv.set t (.int .i64 v)).ext fun i _ => ?_
  unfold put
  by_cases e : i = t
  · rw [if_pos e, if_pos e]
  · rw [if_neg e, if_neg e]
theorem RbAt.pop {x : Int} {ys : List Int} {g off : Nat} (h : RbAt P X ib bb N inn by_ (some ⟨g, off, none⟩) cap (x :: ys)) (a' : Option Addr) (ha : 1 < cap → a' = some ⟨g, off + 1, none⟩) : RbAt P X ib bb N inn by_ a' (cap - 1) ys :=
  ⟨h.grown, h.iv, h.bv, h.que.tail a' ha, fun hc g' off' e => by
    rw [ha (by omega)] at e
    simp only [Option.some.injEq, Addr.mk.injEq] at e
    obtain ⟨rfl, _⟩ := e
    exact h.sep (by omega) g off rfl, h.lo⟩
theorem RbAt.push (h : RbAt P X ib bb N inn by_ a cap todo) {a' : Option Addr} {cap' : Nat} {x : Int} (hq : QueAt Y P.heap.size a' cap' (todo ++ [x])) (hg : QueTo X a cap a' Y) : RbAt P Y ib bb N inn by_ a' cap' (todo ++ [x]) := by
  rcases hg with ⟨hg, e⟩ | ⟨g, off, hc, e, e', hg⟩
  · have h2 := h.kept hg
    refine ⟨h2.grown, h2.iv, h2.bv, hq, fun _ g off e2 => ?_, h.lo⟩
    rw [e] at e2
    simp only [Option.some.injEq, Addr.mk.injEq] at e2
    have := h.bv.lt
    omega
  · obtain ⟨g2, off2, cur, h6, hlo, h7, _⟩ := h.que.2 hc
    rw [e] at h6
    simp only [Option.some.injEq, Addr.mk.injEq] at h6
    obtain ⟨rfl, _⟩ := h6
    have n1 : bb ≠ g := fun e9 => h.sep hc g off e e9.symm
    have n2 : ib ≠ g := fun e9 => by
      have h9 := h.iv
      unfold ValAt at h9
      rw [e9, h7] at h9
      simp only [Option.some.injEq, Obj.cells.injEq] at h9
      exact absurd h9.2.1 (by decide)
    refine ⟨grown_new h.grown hg hlo, h.iv.at hg n2, h.bv.at hg n1, hq, fun _ g' off' e2 => ?_, h.lo⟩
    rw [e'] at e2
    simp only [Option.some.injEq, Addr.mk.injEq] at e2
    obtain ⟨rfl, _⟩ := e2
    exact fun e9 => n1 e9.symm
end

end Go.Proofs.Ytapahpljmcaahaa.J
