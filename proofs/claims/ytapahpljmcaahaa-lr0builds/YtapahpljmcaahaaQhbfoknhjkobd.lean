import Derived.Test.YtapahpljmcaahaaQfnaeblgimkbp
import Derived.Test.YtapahpljmcaahaaQkhiamfjfaknb
import Derived.Deep.RegionLaw

/-
  lr0: Build.
-/
namespace Go.Proofs.Ytapahpljmcaahaa.J
open Go.RowKit Go.Maps Go.Shelf

attribute [local go_sem] Oper.semAt_some

theorem results_build (tmps : Array Value) (w : World) (g : Nat) (cs : Array Value) (x : Value) (h2 : tmps.getD 2 undef = .pointer (some ⟨g, 0, none⟩)) (h3 : tmps.getD 3 undef = x) (hg : w.heap[g]? = some (.cells cs 32 (0, 0))) (hs : cs.size = 3) :
    (results Try.f8 tmps).run Try.prog w = .ok (.tuple #[.agg cs, x]) w := by
  have h2' : tmps[2]?.getD undef = .pointer (some ⟨g, 0, none⟩) := by simpa using h2
  have h3' : tmps[3]?.getD undef = x := by simpa using h3
  have hl := run_loadVar_row (P := Try.prog) w g 32 32 cs (0, 0) _ hg Try.underlying32 rfl (by rw [hs]; kernel_rfl)
  simp [results, Try.results8, h2', h3', asAddr, hl]

/-- The maker as newMaker leaves it. -/
theorem mk_new {w X : World} {mb bm : Nat} {c0 c1 c2 c3 c4 : Value} (hg : w.grownBy X none) (hb : X.heap[mb]? = some (.cells #[c0, c1, c2, c3, c4, .slice none 0 0, .int .i64 0, .int .i64 0, .map (some bm)] 78 (0, 0))) (hm : MpAt X bm 0 (fun _ => .slice none 0 0)) (h1 : w.heap.size ≤ bm) (h2 : bm < mb) : MkAt w X mb bm c0 c1 c2 c3 c4 [] 0 (fun _ => []) 0 :=
  ⟨none, 0, fun _ => undef, fun _ => undef, 0, fun _ => .slice none 0 0, ⟨hg, hb, World.ownsRow_nil _ _ _ _, fun i hi => absurd hi (Nat.not_lt_zero _), fun i hi => absurd hi (Nat.not_lt_zero _), hm, fun x => by rw [begI_nil]; exact World.ownsRow_nil _ _ _ _, fun x y _ => .inl rfl, ⟨h1, by omega⟩, fun i hi => absurd hi (Nat.not_lt_zero _)⟩, Nat.le_refl _⟩

section
variable (ta na la pa : Option Addr) (tc nc lc pc : Nat) (ts : List (ByteArray × Int)) (ns : List ByteArray) (lv : List Int) (n : Nat) (L : Nat → Int) (R : Nat → List Int) (ra : Nat → Option Addr) (rc : Nat → Nat) (V : Nat → Int) (st : Int) (w : World) (tn nn ln : Nat) (hlen : ts.length = tn ∧ ns.length = nn ∧ lv.length = ln) (hG : GAt w ta na la pa tc nc lc pc ts ns lv n L R ra rc V)
include hlen hG
set_option maxRecDepth 100000 in
theorem buildBad (hb : ¬ closedOK ts ns lv st n L R V) : Calls Try.prog 8 #[.agg #[.slice ta tn tc, .slice na nn nc, .slice la ln lc, .int .i64 st, .slice pa n pc]] w fun e y => e = .returned (.tuple #[.agg #[.slice none 0 0, .int .i64 0, .int .i64 0], .int .i64 1]) ∧ w.grownBy y none := by
  have HCL : Hid (∀ X, w.grownBy X none → Calls Try.prog 22 #[.agg #[.slice ta tn tc, .slice na nn nc, .slice la ln lc, .int .i64 st, .slice pa n pc]] X fun e w' => e = .returned (.bool false) ∧ X.grownBy w' none) := fun X hX => by
    have := closed_any ta na la pa tc nc lc pc ts ns lv n L R ra rc V st X (hG.kept hX) false ⟨(fun h => by cases h), fun h => absurd h hb⟩
    rwa [hlen.1, hlen.2.1, hlen.2.2] at this
  have HX0 : Hid (w.grownBy ((w.alloc (.cells #[.slice ta tn tc, .slice na nn nc, .slice la ln lc, .int .i64 st, .slice pa n pc] 27)).alloc (.cells #[.slice none 0 0, .int .i64 0, .int .i64 0] 32)) none) := grown_trans (World.grownBy_alloc _ _ none) (World.grownBy_alloc _ _ none)
  have HB0 : Hid (((w.alloc (.cells #[.slice ta tn tc, .slice na nn nc, .slice la ln lc, .int .i64 st, .slice pa n pc] 27)).alloc (.cells #[.slice none 0 0, .int .i64 0, .int .i64 0] 32)).heap[w.heap.size + 1]? = some (.cells #[.slice none 0 0, .int .i64 0, .int .i64 0] 32 (0, 0))) := by
    have h := heap_alloc_last (w.alloc (.cells #[.slice ta tn tc, .slice na nn nc, .slice la ln lc, .int .i64 st, .slice pa n pc] 27)) (.cells #[.slice none 0 0, .int .i64 0, .int .i64 0] 32)
    rw [World.size_alloc] at h; exact h
  clear hlen hG hb
  go_enter Try.func8, Try.ntmps8
  go_wp2_with fail
  refine Calls.mono (HCL.out _ HX0.out) ?_
  rintro e w1 ⟨rfl, hg1⟩
  have HB1 : Hid (w1.heap[w.heap.size + 1]? = some (.cells #[.slice none 0 0, .int .i64 0, .int .i64 0] 32 (0, 0))) := box_kept HB0.out hg1
  have HG1 : Hid (w.grownBy w1 none) := grown_trans HX0.out hg1
  clear hg1 HB0 HX0
  have k0 := cell_of_row w1 (w.heap.size + 1) 0 _ _ _ HB1.out
  have k1 := cell_of_row w1 (w.heap.size + 1) 1 _ _ _ HB1.out
  have k2 := cell_of_row w1 (w.heap.size + 1) 2 _ _ _ HB1.out
  have kf := fun j => frozen_of_row w1 (w.heap.size + 1) j _ _ HB1.out
  simp only [List.getElem?_toArray, List.getElem?_cons_zero, List.getElem?_cons_succ] at k0 k1 k2
  go_wp2_with fail
  refine bodyPost_ret (v := .tuple #[.agg #[.slice none 0 0, .int .i64 0, .int .i64 0], .int .i64 1]) ?_ rfl ?_
  · exact results_build _ _ (w.heap.size + 1) _ _ rfl rfl (set3_heap HB1.out _ _ _) rfl
  · exact ⟨rfl, grown_new HG1.out (set3_grown _ _ _ _ _) (by omega)⟩

set_option maxRecDepth 100000 in
theorem buildOk (hc : closedOK ts ns lv st n L R V) : Calls Try.prog 8 #[.agg #[.slice ta tn tc, .slice na nn nc, .slice la ln lc, .int .i64 st, .slice pa n pc]] w fun e y => AutTold w tn n (tn + nn) L R e y := by
  have hM : MayOK tn nn n st L R true := by obtain ⟨rfl, rfl, rfl⟩ := hlen; exact mayOK_closed hc
  have HCL : Hid (∀ X, w.grownBy X none → Calls Try.prog 22 #[.agg #[.slice ta tn tc, .slice na nn nc, .slice la ln lc, .int .i64 st, .slice pa n pc]] X fun e w' => e = .returned (.bool true) ∧ X.grownBy w' none) := fun X hX => by
    have := closed_any ta na la pa tc nc lc pc ts ns lv n L R ra rc V st X (hG.kept hX) true ⟨fun _ => hc, fun _ => rfl⟩
    rwa [hlen.1, hlen.2.1, hlen.2.2] at this
  have HAU : Hid (∀ X Y mb bm E, w.grownBy X none → MkAt X Y mb bm (.slice ta tn tc) (.slice na nn nc) (.slice la ln lc) (.int .i64 st) (.slice pa n pc) [] 0 (fun _ => []) E → Calls Try.prog 24 #[.pointer (some ⟨mb, 0, none⟩)] Y fun e y => AutTold X tn n (tn + nn) L R e y) := fun X Y mb bm E hX hmk => automaton_any ta na la pa tc nc lc pc n L R ra rc V st X Y tn nn ln (prods_kept hG.prods hX) hM.pmax hM.p0 hM.tmax hM.nmax (fun k hk x hx => ⟨by have := hM.right k hk x hx; omega, (hM.right k hk x hx).2⟩) (gright hG.prods) mb bm E hmk
  have HX0 : Hid (w.grownBy ((w.alloc (.cells #[.slice ta tn tc, .slice na nn nc, .slice la ln lc, .int .i64 st, .slice pa n pc] 27)).alloc (.cells #[.slice none 0 0, .int .i64 0, .int .i64 0] 32)) none) := grown_trans (World.grownBy_alloc _ _ none) (World.grownBy_alloc _ _ none)
  have HP0 : Hid (PhAt w ((w.alloc (.cells #[.slice ta tn tc, .slice na nn nc, .slice la ln lc, .int .i64 st, .slice pa n pc] 27)).alloc (.cells #[.slice none 0 0, .int .i64 0, .int .i64 0] 32)) w.heap.size #[.slice ta tn tc, .slice na nn nc, .slice la ln lc, .int .i64 st, .slice pa n pc]) := PhAt.kept ⟨World.grownBy_alloc _ _ none, heap_alloc_last w _⟩ (World.grownBy_alloc _ _ none)
  have HB0 : Hid (((w.alloc (.cells #[.slice ta tn tc, .slice na nn nc, .slice la ln lc, .int .i64 st, .slice pa n pc] 27)).alloc (.cells #[.slice none 0 0, .int .i64 0, .int .i64 0] 32)).heap[w.heap.size + 1]? = some (.cells #[.slice none 0 0, .int .i64 0, .int .i64 0] 32 (0, 0))) := by
    have h := heap_alloc_last (w.alloc (.cells #[.slice ta tn tc, .slice na nn nc, .slice la ln lc, .int .i64 st, .slice pa n pc] 27)) (.cells #[.slice none 0 0, .int .i64 0, .int .i64 0] 32)
    rw [World.size_alloc] at h; exact h
  clear hlen hG hc hM
  obtain ⟨S, hS⟩ : ∃ S, S = tn + nn := ⟨_, rfl⟩
  rw [← hS] at HAU
  rw [← hS]
  clear hS
  go_enter Try.func8, Try.ntmps8
  go_wp2_with fail
  refine Calls.mono (HCL.out _ HX0.out) ?_
  rintro e w1 ⟨rfl, hg1⟩
  have HB1 : Hid (w1.heap[w.heap.size + 1]? = some (.cells #[.slice none 0 0, .int .i64 0, .int .i64 0] 32 (0, 0))) := box_kept HB0.out hg1
  have HP1 : Hid (PhAt w w1 w.heap.size #[.slice ta tn tc, .slice na nn nc, .slice la ln lc, .int .i64 st, .slice pa n pc]) := HP0.out.kept hg1
  clear hg1 HB0 HX0 HP0
  obtain ⟨k0, k1, k2, k3, k4⟩ := HP1.out.cells
  go_wp2_with fail
  refine Calls.mono (newMaker_any ta na la pa tc nc lc pc n st w1 tn nn ln) ?_
  rintro e w2 ⟨mb, bm, rfl, hbx, hmp, h1, h2, hg2⟩
  have HMK : Hid (MkAt w1 w2 mb bm (.slice ta tn tc) (.slice na nn nc) (.slice la ln lc) (.int .i64 st) (.slice pa n pc) [] 0 (fun _ => []) 0) := mk_new hg2 hbx hmp h1 h2
  clear hbx hmp h1 h2 hg2 k0 k1 k2 k3 k4
  go_wp2_with fail
  refine Calls.mono (HAU.out w1 w2 mb bm 0 HP1.out.grown HMK.out) ?_
  rintro e w3 (⟨ks, es, sa, sc, kv, ev, hau, rfl, hAP, hg3⟩ | ⟨hau, rfl, hg3⟩)
  · have HB3 : Hid (w3.heap[w.heap.size + 1]? = some (.cells #[.slice none 0 0, .int .i64 0, .int .i64 0] 32 (0, 0))) := box_kept HB1.out hg3
    have HG3 : Hid (w.grownBy w3 none) := grown_trans HP1.out.grown hg3
    have HAP : Hid (AutP w.heap.size w3 (.slice sa ks.length sc) ks (elF es) kv ev) := ⟨owns_base hAP.row HP1.out.grown.size, fun i hi => owns_base (hAP.ker i hi) HP1.out.grown.size, fun i hi => owns_base (hAP.edg i hi) HP1.out.grown.size⟩
    have HA : Hid (autoF (GG tn n L R) S 256 = some (ks, es)) := hau
    have k0 := cell_of_row w3 (w.heap.size + 1) 0 _ _ _ HB3.out
    have k1 := cell_of_row w3 (w.heap.size + 1) 1 _ _ _ HB3.out
    have k2 := cell_of_row w3 (w.heap.size + 1) 2 _ _ _ HB3.out
    have kf := fun j => frozen_of_row w3 (w.heap.size + 1) j _ _ HB3.out
    simp only [List.getElem?_toArray, List.getElem?_cons_zero, List.getElem?_cons_succ] at k0 k1 k2
    obtain ⟨ask, hask⟩ : ∃ a, a = (askN es : Int) := ⟨_, rfl⟩
    have HASK : Hid (ask = (askN es : Int)) := hask
    obtain ⟨N, hN⟩ : ∃ a, a = ks.length := ⟨_, rfl⟩
    have HN : Hid (N = ks.length) := hN
    rw [← hask, ← hN]
    clear hask hN hau hAP hg3
    go_wp2_with fail
    refine bodyPost_ret (v := .tuple #[.agg #[.slice sa N sc, .int .i64 ask, .int .i64 (N : Int)], .int .i64 0]) ?_ rfl ?_
    · exact results_build _ _ (w.heap.size + 1) _ _ rfl rfl (set3_heap HB3.out _ _ _) rfl
    · refine .inl ⟨ks, es, sa, sc, kv, ev, HA.out, ?_, ?_, grown_new HG3.out (set3_grown _ _ _ _ _) (by omega)⟩
      · rw [HASK.out, ← HN.out]
      · exact HAP.out.box HB3.out (by decide) (by decide) (by decide) (set3_grown _ _ _ _ _)
  · have HB3 : Hid (w3.heap[w.heap.size + 1]? = some (.cells #[.slice none 0 0, .int .i64 0, .int .i64 0] 32 (0, 0))) := box_kept HB1.out hg3
    have HG3 : Hid (w.grownBy w3 none) := grown_trans HP1.out.grown hg3
    have HA : Hid (autoF (GG tn n L R) S 256 = none) := hau
    have k0 := cell_of_row w3 (w.heap.size + 1) 0 _ _ _ HB3.out
    have k1 := cell_of_row w3 (w.heap.size + 1) 1 _ _ _ HB3.out
    have k2 := cell_of_row w3 (w.heap.size + 1) 2 _ _ _ HB3.out
    have kf := fun j => frozen_of_row w3 (w.heap.size + 1) j _ _ HB3.out
    simp only [List.getElem?_toArray, List.getElem?_cons_zero, List.getElem?_cons_succ] at k0 k1 k2
    clear hau hg3
    go_wp2_with fail
    refine bodyPost_ret (v := .tuple #[.agg #[.slice none 0 0, .int .i64 0, .int .i64 0], .int .i64 11]) ?_ rfl ?_
    · exact results_build _ _ (w.heap.size + 1) _ _ rfl rfl (set3_heap HB3.out _ _ _) rfl
    · exact .inr ⟨HA.out, rfl, grown_new HG3.out (set3_grown _ _ _ _ _) (by omega)⟩
end

end Go.Proofs.Ytapahpljmcaahaa.J

/-
  lr0: the edges of an automaton, pure.
-/
namespace Go.Proofs.Ytapahpljmcaahaa.J
open Go.RowKit Go.Maps Go.Shelf

/-- Has it items? -/
def someB (k : List It) : Bool := decide (k ≠ [])
theorem someB_true {k : List It} : someB k = true ↔ k ≠ [] := by unfold someB; exact decide_eq_true_iff
/-- The symbols below s whose kernels have items. -/
def symsT (G : Nat → List It) (s : Nat) : List Nat := (List.range s).filter fun t => someB (G t)
theorem symsT_succ (G : Nat → List It) (s : Nat) : symsT G (s + 1) = symsT G s ++ (if G s = [] then [] else [s]) := by
  unfold symsT
  rw [List.range_succ, List.filter_append]
  congr 1
  by_cases h : G s = []
  · rw [if_pos h]; simp [someB, h]
  · rw [if_neg h]; simp [someB, h]
theorem symsT_len (G : Nat → List It) : ∀ s, (symsT G s).length ≤ s
  | 0 => by simp [symsT]
  | s + 1 => by
    rw [symsT_succ, List.length_append]
    have := symsT_len G s
    split <;> simp <;> omega
theorem symsT_prefix (G : Nat → List It) {s S : Nat} (h : s ≤ S) : symsT G s <+: symsT G S := by
  obtain ⟨d, rfl⟩ : ∃ d, S = s + d := ⟨S - s, by omega⟩
  clear h
  induction d with
  | zero => exact List.prefix_refl _
  | succ d ih => exact ih.trans (by rw [show s + (d + 1) = (s + d) + 1 by omega, symsT_succ]; exact List.prefix_append _ _)
theorem symsT_at (G : Nat → List It) {s S : Nat} (h : s < S) (hs : G s ≠ []) : (symsT G s).length < (symsT G S).length ∧ (symsT G S).getD (symsT G s).length 0 = s := by
  have h1 : symsT G (s + 1) = symsT G s ++ [s] := by rw [symsT_succ, if_neg hs]
  have h2 := symsT_prefix G (s := s + 1) (S := S) h
  rw [h1] at h2
  have h3 := h2.length_le
  rw [List.length_append, List.length_singleton] at h3
  refine ⟨by omega, ?_⟩
  rw [getD_prefix h2 (by rw [List.length_append, List.length_singleton]; omega), getD_snoc_new]
theorem mem_symsT {G : Nat → List It} {S s : Nat} : s ∈ symsT G S ↔ s < S ∧ G s ≠ [] := by
  unfold symsT
  rw [List.mem_filter, List.mem_range, someB_true]
theorem symsT_nodup (G : Nat → List It) (S : Nat) : (symsT G S).Nodup := List.Nodup.sublist List.filter_sublist List.nodup_range

theorem leaveF_fst {G : Nat → List It} {ks : List (List It)} : ∀ (s : Nat) {ks' : List (List It)} {ed : List (Nat × Nat)}, leaveF G ks s = some (ks', ed) → ed.map Prod.fst = symsT G s
  | 0, ks', ed, e => by
    unfold leaveF at e
    cases e
    rfl
  | s + 1, ks', ed, e => by
    unfold leaveF at e
    cases h1 : leaveF G ks s with
    | none => rw [h1] at e; cases e
    | some q =>
      obtain ⟨k1, e1⟩ := q
      have ih := leaveF_fst s h1
      rw [h1] at e
      simp only at e
      by_cases hg : G s = []
      · rw [if_pos hg] at e
        cases e
        rw [ih, symsT_succ, if_pos hg, List.append_nil]
      · rw [if_neg hg] at e
        cases h2 : askF k1 (G s) with
        | none => rw [h2] at e; cases e
        | some q2 =>
          obtain ⟨t, k2⟩ := q2
          rw [h2] at e
          cases e
          rw [List.map_append, ih, symsT_succ, if_neg hg]; rfl

/-- The edges by their symbols. -/
theorem autoF_fst {P : Nat → List It → Prop} {G : List It → Nat → List It} {S : Nat} (h0 : P 0 [(0, 0)]) (hG : ∀ i m k s, P i k → i < m → P m (G k s)) : ∀ (i : Nat) {ks : List (List It)} {es : List (List (Nat × Nat))}, autoF G S i = some (ks, es) → ∀ q, q < es.length → (es.getD q []).map Prod.fst = symsT (G (ks.getD q [])) S
  | 0, ks, es, e => by
    unfold autoF at e
    cases e
    intro q hq
    exact absurd hq (Nat.not_lt_zero _)
  | i + 1, ks', es', e => by
    cases h1 : autoF G S i with
    | none =>
      have := autoF_none h1 1
      rw [this] at e; cases e
    | some p =>
      obtain ⟨ks, es⟩ := p
      have ih := autoF_fst h0 hG i h1
      have ha := autoOK h0 hG i h1
      by_cases hi : i < ks.length
      · have e' := e
        rw [autoF_step h1 hi] at e
        cases h2 : leaveF (G (ks.getD i [])) ks S with
        | none => rw [h2] at e; cases e
        | some q2 =>
          obtain ⟨k2, ed⟩ := q2
          rw [h2] at e
          cases e
          obtain ⟨_, j2, _, _⟩ := ha.kok.leave (fun m s hm => hG i m _ s (ha.kok.each i hi) (by omega)) S h2
          have hes : es.length = i := by rw [ha.len]; omega
          intro q hq
          rw [List.length_append, List.length_singleton] at hq
          by_cases e2 : q < es.length
          · rw [getD_snoc_old e2, getD_prefix j2 (by omega)]
            exact ih q e2
          · have : q = es.length := by omega
            subst this
            rw [getD_snoc_new, hes, getD_prefix j2 hi]
            exact leaveF_fst S h2
      · have := autoF_stay h1 (Nat.le_of_not_lt hi) 1
        rw [this] at e
        cases e
        exact ih

/-- An automaton, all of it. -/
structure AutF (G : List It → Nat → List It) (n : Nat) (R : Nat → List Int) (S : Nat) (ks : List (List It)) (es : List (List (Nat × Nat))) : Prop where
  kok : KsOK (PJ n R) ks
  pos : 0 < ks.length
  head : ks.getD 0 [] = [(0, 0)]
  len : es.length = ks.length
  fst : ∀ q, q < ks.length → (es.getD q []).map Prod.fst = symsT (G (ks.getD q [])) S
  snd : ∀ q, q < ks.length → ∀ x ∈ es.getD q [], x.1 < S ∧ x.2 < ks.length ∧ ks.getD x.2 [] = G (ks.getD q []) x.1
theorem autF {tn nn n : Nat} {L : Nat → Int} {R : Nat → List Int} (hn0 : 0 < n) {ks : List (List It)} {es : List (List (Nat × Nat))} (h : autoF (GG tn n L R) (tn + nn) 256 = some (ks, es)) : AutF (GG tn n L R) n R (tn + nn) ks es := by
  have ha := auOK hn0 h
  have hl : es.length = ks.length := by rw [ha.len]; have := ha.kok.le; omega
  have hp : PJ n R 0 [(0, 0)] := ⟨fun x hx => by
    rw [List.mem_singleton.1 hx]
    unfold itB
    simp only [Bool.and_eq_true, decide_eq_true_eq]
    exact ⟨⟨⟨by omega, by omega⟩, by omega⟩, by omega⟩, by simp⟩
  exact ⟨ha.kok, ha.pos, ha.head, hl, fun q hq => autoF_fst hp (fun i m k s hp hm => hp.GG s hm) 256 h q (by omega), fun q hq x hx => (ha.edges q (by omega)).2 x hx⟩
section
variable {G : List It → Nat → List It} {n : Nat} {R : Nat → List Int} {S : Nat} {ks : List (List It)} {es : List (List (Nat × Nat))}
theorem AutF.elen (h : AutF G n R S ks es) {q : Nat} (hq : q < ks.length) : (es.getD q []).length = (symsT (G (ks.getD q [])) S).length := by rw [← h.fst q hq, List.length_map]
theorem AutF.esym (h : AutF G n R S ks es) {q i : Nat} (hq : q < ks.length) (hi : i < (es.getD q []).length) : ((es.getD q []).getD i (0, 0)).1 = (symsT (G (ks.getD q [])) S).getD i 0 := by
  rw [← h.fst q hq]
  generalize es.getD q [] = l at hi ⊢
  rw [List.getD_eq_getElem?_getD, List.getD_eq_getElem?_getD, List.getElem?_map, List.getElem?_eq_getElem hi]; rfl
/-- The edge by a symbol that has a kernel. -/
theorem AutF.edge (h : AutF G n R S ks es) {q s : Nat} (hq : q < ks.length) (hs : s < S) (hk : G (ks.getD q []) s ≠ []) : (symsT (G (ks.getD q [])) s).length < (es.getD q []).length ∧ ∃ t, (es.getD q []).getD (symsT (G (ks.getD q [])) s).length (0, 0) = (s, t) ∧ t < ks.length ∧ ks.getD t [] = G (ks.getD q []) s := by
  obtain ⟨h1, h2⟩ := symsT_at (G (ks.getD q [])) hs hk
  rw [← h.elen hq] at h1
  refine ⟨h1, ?_⟩
  have h3 := h.esym hq h1
  rw [h2] at h3
  have hm : (es.getD q []).getD (symsT (G (ks.getD q [])) s).length (0, 0) ∈ es.getD q [] := by
    generalize es.getD q [] = l at h1 ⊢
    rw [List.getD_eq_getElem?_getD, List.getElem?_eq_getElem h1]; exact List.getElem_mem h1
  obtain ⟨_, h5, h6⟩ := h.snd q hq _ hm
  rw [h3] at h6
  exact ⟨_, Prod.ext h3 rfl, h5, h6⟩
end

end Go.Proofs.Ytapahpljmcaahaa.J

/-
  lr0: an automaton in memory, read.
-/
namespace Go.Proofs.Ytapahpljmcaahaa.J
open Go.RowKit Go.Maps Go.Shelf

theorem own_nil {X : World} {B e s n c : Nat} {a : Option Addr} {xs : List Value} (h : X.ownsRow B e s (.slice a n c) n xs) : a = none → n = 0 ∧ c = 0 := fun e => by
  rcases h.2 with ⟨h1, h2⟩ | ⟨g, cap, cur, h1, _⟩
  · simp only [Value.slice.injEq] at h1
    exact ⟨h2, h1.2.2⟩
  · simp only [Value.slice.injEq] at h1
    rw [e] at h1
    cases h1.1
theorem ItsAt.cellAt {X : World} {a : Option Addr} {l : List It} (h : ItsAt X a l) {i : Nat} (hi : i < l.length) : ∃ b off, a = some ⟨b, off, none⟩ ∧ X.cell? ⟨b, off + i * 2, none⟩ = some (.int .i64 (l.getD i (0, 0)).1) ∧ X.cell? ⟨b, off + i * 2 + 1, none⟩ = some (.int .i64 (l.getD i (0, 0)).2) := by
  rcases h with h | ⟨b, off, e, h⟩
  · rw [h] at hi; cases hi
  · exact ⟨b, off, e, h i hi⟩
theorem ItsAt.ofT {X : World} {B c e : Nat} {a : Option Addr} {l : List It} (h : X.ownsRow B e 2 (.slice a l.length c) l.length (itsV l)) : ItsAt X a l := by
  rcases h.2 with ⟨h', h2⟩ | ⟨g, cap, cur, hv, hB, hh, _, _, hs, ht⟩
  · left
    exact List.eq_nil_of_length_eq_zero h2
  · right
    simp only [Value.slice.injEq] at hv
    refine ⟨g, 0, hv.1, fun i hi => ?_⟩
    obtain ⟨h3, h4⟩ := itsV_at l i hi
    rw [← ht, List.getElem?_take, if_pos (by omega)] at h3 h4
    rw [Nat.zero_add, cell_of_row _ _ _ _ _ _ hh, cell_of_row _ _ _ _ _ _ hh]
    exact ⟨by simpa using h3, by simpa using h4⟩
/-- The cells of an automaton that is read. -/
theorem AutP.st {B : Nat} {X : World} {v : Value} {ks : List (List It)} {el : Nat → List It} {kv ev : Nat → Value} (h : AutP B X v ks el kv ev) {q : Nat} (hq : q < ks.length) : ∃ g c, v = .slice (some ⟨g, 0, none⟩) ks.length c ∧ X.cell? ⟨g, q * 2, none⟩ = some (kv q) ∧ X.cell? ⟨g, q * 2 + 1, none⟩ = some (ev q) := by
  obtain ⟨g, c, e, h1⟩ := owns_at h.row (by omega)
  exact ⟨g, c, e, h1 _ _ (stV_at kv ev _ q hq).1, h1 _ _ (stV_at kv ev _ q hq).2⟩
theorem AutP.kerAt {B : Nat} {X : World} {v : Value} {ks : List (List It)} {el : Nat → List It} {kv ev : Nat → Value} (h : AutP B X v ks el kv ev) {q : Nat} (hq : q < ks.length) : ∃ a c, kv q = .slice a (ks.getD q []).length c ∧ ItsAt X a (ks.getD q []) ∧ (a = none → (ks.getD q []).length = 0 ∧ c = 0) := by
  have h1 := h.ker q hq
  obtain ⟨a, c, e⟩ := owns_cut h1
  rw [e] at h1
  exact ⟨a, c, e, ItsAt.of h1, own_nil h1⟩
theorem AutP.edgAt {B : Nat} {X : World} {v : Value} {ks : List (List It)} {el : Nat → List It} {kv ev : Nat → Value} (h : AutP B X v ks el kv ev) {q : Nat} (hq : q < ks.length) : ∃ a c, ev q = .slice a (el q).length c ∧ ItsAt X a (el q) := by
  have h1 := h.edg q hq
  obtain ⟨a, c, e⟩ := owns_cut h1
  rw [e] at h1
  exact ⟨a, c, e, ItsAt.ofT h1⟩
theorem elF_at {es : List (List (Nat × Nat))} {q i : Nat} (hi : i < (es.getD q []).length) : (elF es q).length = (es.getD q []).length ∧ (elF es q).getD i (0, 0) = (((((es.getD q []).getD i (0, 0)).1 : Nat) : Int), ((((es.getD q []).getD i (0, 0)).2 : Nat) : Int)) := by
  unfold elF
  generalize es.getD q [] = l at hi ⊢
  refine ⟨edI_len l, ?_⟩
  unfold edI
  rw [List.getD_eq_getElem?_getD, List.getD_eq_getElem?_getD, List.getElem?_map, List.getElem?_eq_getElem hi]; rfl
theorem elF_len (es : List (List (Nat × Nat))) (q : Nat) : (elF es q).length = (es.getD q []).length := edI_len _

theorem AutP.base {B B' : Nat} {X : World} {v : Value} {ks : List (List It)} {el : Nat → List It} {kv ev : Nat → Value} (h : AutP B X v ks el kv ev) (hb : B' ≤ B) : AutP B' X v ks el kv ev :=
  ⟨owns_base h.row hb, fun i hi => owns_base (h.ker i hi) hb, fun i hi => owns_base (h.edg i hi) hb⟩
theorem PJ.len {n : Nat} {R : Nat → List Int} {i : Nat} {k : List It} (h : PJ n R i k) (hi : i ≤ 257) : k.length ≤ 3341001 := by
  have h1 := h.2
  have h2 : 13000 * i ≤ 13000 * 257 := Nat.mul_le_mul_left _ hi
  omega
section
variable (ta na la pa : Option Addr) (tc nc lc pc : Nat) (ts : List (ByteArray × Int)) (ns : List ByteArray) (lv : List Int) (n : Nat) (L : Nat → Int) (R : Nat → List Int) (ra : Nat → Option Addr) (rc : Nat → Nat) (V : Nat → Int) (st : Int) (w : World) (tn nn ln : Nat) (hlen : ts.length = tn ∧ ns.length = nn ∧ lv.length = ln) (hG : GAt w ta na la pa tc nc lc pc ts ns lv n L R ra rc V)
include hlen hG
/-- Build, where there is an automaton: one for all worlds. -/
theorem build_some (hc : closedOK ts ns lv st n L R V) {ks : List (List It)} {es : List (List (Nat × Nat))} (h : autoF (GG tn n L R) (tn + nn) 256 = some (ks, es)) (X : World) (hX : w.grownBy X none) : Calls Try.prog 8 #[.agg #[.slice ta tn tc, .slice na nn nc, .slice la ln lc, .int .i64 st, .slice pa n pc]] X fun e y => ∃ sa sc kv ev, e = .returned (.tuple #[.agg #[.slice sa ks.length sc, .int .i64 (askN es : Int), .int .i64 (ks.length : Int)], .int .i64 0]) ∧ AutP X.heap.size y (.slice sa ks.length sc) ks (elF es) kv ev ∧ X.grownBy y none := by
  refine (buildOk ta na la pa tc nc lc pc ts ns lv n L R ra rc V st X tn nn ln hlen (hG.kept hX) hc).mono ?_
  rintro e y (⟨ks', es', sa, sc, kv, ev, hau, rfl, hA, hg⟩ | ⟨hau, _⟩)
  · have h2 := h.symm.trans hau
    simp only [Option.some.injEq, Prod.mk.injEq] at h2
    obtain ⟨rfl, rfl⟩ := h2
    exact ⟨sa, sc, kv, ev, rfl, hA, hg⟩
  · have h2 := h.symm.trans hau
    cases h2
theorem build_none (hc : closedOK ts ns lv st n L R V) (h : autoF (GG tn n L R) (tn + nn) 256 = none) (X : World) (hX : w.grownBy X none) : Calls Try.prog 8 #[.agg #[.slice ta tn tc, .slice na nn nc, .slice la ln lc, .int .i64 st, .slice pa n pc]] X fun e y => e = .returned (.tuple #[.agg #[.slice none 0 0, .int .i64 0, .int .i64 0], .int .i64 11]) ∧ X.grownBy y none := by
  refine (buildOk ta na la pa tc nc lc pc ts ns lv n L R ra rc V st X tn nn ln hlen (hG.kept hX) hc).mono ?_
  rintro e y (⟨ks', es', sa, sc, kv, ev, hau, rfl, hA, hg⟩ | ⟨hau, rfl, hg⟩)
  · have h2 := h.symm.trans hau
    cases h2
  · exact ⟨rfl, hg⟩
end

end Go.Proofs.Ytapahpljmcaahaa.J

/-
  A region of a function as a declaration of its own.
-/
namespace Go.Proofs.Ytapahpljmcaahaa.J
open Go.RowKit Go.Maps Go.Shelf

/-- The regions of a number. -/
def regionsJ (n : Nat) : Code → List Code
  | .region i ops b => if i = n then [.region i ops b] else []
  | .loop c => regionsJ n c
  | .seq a b => regionsJ n a ++ regionsJ n b
  | .block _ c => regionsJ n c
  | .scope c => regionsJ n c
  | .cond _ a b => regionsJ n a ++ regionsJ n b
  | _ => []
/-- The loops of a piece of code, the outer ahead of the inner. -/
def loopsJ : Code → List Code
  | .loop c => .loop c :: loopsJ c
  | .seq a b => loopsJ a ++ loopsJ b
  | .block _ c => loopsJ c
  | .scope c => loopsJ c
  | .cond _ a b => loopsJ a ++ loopsJ b
  | _ => []
def OnEndJ (P : Act → World → Prop) : Exit → Act → World → Prop
  | .normal, a, w => P a w
  | _, _, _ => False

end Go.Proofs.Ytapahpljmcaahaa.J

/-
  lr0: an automaton that is spoilt, in memory.
-/
namespace Go.Proofs.Ytapahpljmcaahaa.J
open Go.RowKit Go.Maps Go.Shelf

/-- A row of one's own, whatever it holds. -/
def Like2 (X : World) (B e : Nat) (v : Value) (n : Nat) : Prop := ∃ xs, X.ownsRow B e 2 v n xs
/-- Each block of cells stays one of its type and size. -/
def Sizes (X Y : World) : Prop := ∀ (b : Nat) (cs : Array Value) (e : TypeId), X.heap[b]? = some (.cells cs e (0, 0)) → ∃ cs', Y.heap[b]? = some (.cells cs' e (0, 0)) ∧ cs'.size = cs.size
theorem Sizes.ofG {X Y : World} (h : X.grownBy Y none) : Sizes X Y := fun _ cs _ hb => ⟨cs, box_kept hb h, rfl⟩
theorem Sizes.trans {X Y Z : World} (h : Sizes X Y) (k : Sizes Y Z) : Sizes X Z := fun b cs e hb => by
  obtain ⟨cs1, h1, h2⟩ := h b cs e hb
  obtain ⟨cs2, h3, h4⟩ := k b cs1 e h1
  exact ⟨cs2, h3, h4.trans h2⟩
theorem Sizes.set (X : World) (g o : Nat) (u : Value) : Sizes X (X.setCell ⟨g, o, none⟩ u) := fun b cs e hb => by
  by_cases h : b = g
  · subst h
    exact ⟨_, heap_setCell_same _ _ _ _ _ _ hb, Array.size_setIfInBounds⟩
  · have hg : X.grownBy (X.setCell ⟨g, o, none⟩ u) (some g) := grown_setCell _ _ _
    exact ⟨cs, (hg.block b (Array.getElem?_eq_some_iff.1 hb).1 (by simpa using h)).trans hb, rfl⟩
theorem Like2.sized {X Y : World} {B e n : Nat} {v : Value} (h : Like2 X B e v n) (hs : Sizes X Y) : Like2 Y B e v n := by
  obtain ⟨xs, h1, h2⟩ := h
  rcases h2 with ⟨rfl, rfl⟩ | ⟨g, cap, cur, rfl, hB, hh, h3, h4, h5, h6⟩
  · exact ⟨xs, h1, .inl ⟨rfl, rfl⟩⟩
  · obtain ⟨cur', h7, h8⟩ := hs g cur e hh
    refine ⟨cur'.toList.take (n * 2), ?_, .inr ⟨g, cap, cur', rfl, hB, h7, h3, h4, by rw [h8]; exact h5, rfl⟩⟩
    have h9 : n * 2 ≤ cap * 2 := Nat.mul_le_mul_right _ h3
    rw [List.length_take, Array.length_toList, h8, h5]
    omega
theorem Like2.at {X : World} {B e n i : Nat} {v : Value} (h : Like2 X B e v n) (hi : i < n) : ∃ g c u0 u1 cur, v = .slice (some ⟨g, 0, none⟩) n c ∧ B ≤ g ∧ X.cell? ⟨g, i * 2, none⟩ = some u0 ∧ X.cell? ⟨g, i * 2 + 1, none⟩ = some u1 ∧ (∀ o, X.frozen? ⟨g, o, none⟩ = false) ∧ X.heap[g]? = some (.cells cur e (0, 0)) := by
  obtain ⟨xs, h1, h2⟩ := h
  rcases h2 with ⟨rfl, rfl⟩ | ⟨g, cap, cur, rfl, hB, hh, h3, h4, h5, h6⟩
  · omega
  · refine ⟨g, cap, cur[i * 2]'(by omega), cur[i * 2 + 1]'(by omega), cur, rfl, hB, ?_, ?_, fun o => frozen_of_row _ _ _ _ _ hh, hh⟩
    · rw [cell_of_row _ _ _ _ _ _ hh, Array.getElem?_eq_getElem]
    · rw [cell_of_row _ _ _ _ _ _ hh, Array.getElem?_eq_getElem]
theorem Like2.cut {X : World} {B e n : Nat} {v : Value} (h : Like2 X B e v n) : ∃ a c, v = .slice a n c := by
  obtain ⟨xs, h1⟩ := h
  exact owns_cut h1

section
variable {P : Program} (w : World)
theorem run_append_like (t ty : TypeId) (base : Nat) (e : TypeId) (i : TypeInfo) (z : Value) (size bytes : Nat) (ht : P.underlying t = some (.slice e)) (hi : P.info? e = some i) (hz : i.zero = some z)
    (hsize : i.size = size) (hby : i.bytes = bytes) (hzs : z.cells.size = size) (hsz : 0 < size)
    (v : Value) (n : Nat) (xs : List Value) (hown : w.ownsRow base e size v n xs)
    (ad : Addr) (m c : Nat) (news : List Value) (hl : news.length = m * size) (hnews : ∀ j u, news[j]? = some u → w.cell? (ad.add j) = some u) (h1 : ∀ u ∈ news, u.oneCell' = true)
    (h63 : n + m ≤ maxLen) (hbytes : ((n + m) + (n + m) / 4 + 192) * bytes ≤ 281474976710656) (hbase : base ≤ w.heap.size) :
    ∃ a' c' w', (Builtin.append_ #[t, t] ty #[v, .slice (some ad) m c]).run P w = .ok (.slice a' (n + m) c') w' ∧ w.grownBy w' v.ownBlock ∧ Sizes w w' := by
  obtain ⟨v', w', hr, h2, h3, _⟩ := run_append_own_wide (P := P) w base t ty e i z size bytes ht hi hz hsize hby hzs hsz v n xs hown ad m c news hl hnews h1 h63 hbytes hbase
  obtain ⟨a', c', rfl⟩ := owns_cut h2
  refine ⟨a', c', w', hr, h3, ?_⟩
  subst hsize
  subst hby
  rcases hown.2 with ⟨rfl, rfl⟩ | ⟨g', cap', cur, rfl, hbg, hg, hnc, hcm, hcs, htake⟩
  · exact Sizes.ofG h3
  · by_cases hroom : n + m ≤ cap'
    · have hfit : n * i.size + news.length ≤ cur.size := by rw [hl, hcs, ← Nat.add_mul]; exact Nat.mul_le_mul_right _ hroom
      have hr2 := run_append_room (P := P) w t ty e i ht hi g' n cap' cur hg ad m c news hl hnews h1 hroom hfit
      rw [hr] at hr2
      simp only [Result.ok.injEq] at hr2
      obtain ⟨_, rfl⟩ := hr2
      intro b cs e2 hb
      by_cases eb : b = g'
      · subst eb
        rw [hg] at hb
        simp only [Option.some.injEq, Obj.cells.injEq] at hb
        obtain ⟨rfl, rfl, _⟩ := hb
        refine ⟨_, setRow_heap w b cur _ _ _ hg, ?_⟩
        simp only [List.size_toArray, List.length_append, List.length_take, List.length_drop, Array.length_toList]
        omega
      · refine ⟨cs, (h3.block b (Array.getElem?_eq_some_iff.1 hb).1 ?_).trans hb, rfl⟩
        simpa [Value.ownBlock] using eb
    · have holds : ∀ j u, xs[j]? = some u → w.cell? ((⟨g', 0, none⟩ : Addr).add j) = some u := hown.cells (g := g') rfl
      have hr2 := run_append_grow (P := P) w t ty e i z ht hi hz ⟨g', 0, none⟩ n cap' xs hown.1 holds ad m c news hl hnews (by omega) (by simp only [maxLen] at h63; omega) (growslice_fits_wide (by omega) hbytes)
      rw [hr] at hr2
      simp only [Result.ok.injEq] at hr2
      obtain ⟨_, rfl⟩ := hr2
      exact Sizes.ofG ⟨rfl, rfl, rfl, by simp, fun k hk _ => Go.heap_alloc_old w.drew _ hk⟩

theorem step_append_like {ops : Array Oper} {o : Oper} {a : Act} {K : Act → World → Prop} {Q : Exit → Act → World → Prop} {E : Prop} (hgd : o.guard = none) (s x : Operand) (t : TypeId)
    (ho : o.op = .call { callee := .builtin .append, args := #[s, x], argTypes := #[t, t] })
    (base : Nat) (e : TypeId) (i : TypeInfo) (z : Value) (size bytes : Nat) (ht : P.underlying t = some (.slice e)) (hi : P.info? e = some i) (hz : i.zero = some z)
    (hsize : i.size = size) (hby : i.bytes = bytes) (hzs : z.cells.size = size) (hsz : 0 < size)
    (v : Value) (n : Nat) (xs : List Value) (hs : a.eval s = v) (hown : w.ownsRow base e size v n xs)
    (ad : Addr) (m c : Nat) (news : List Value) (hx : a.eval x = .slice (some ad) m c) (hl : news.length = m * size) (hnews : ∀ j u, news[j]? = some u → w.cell? (ad.add j) = some u) (h1 : ∀ u ∈ news, u.oneCell' = true)
    (h63 : n + m ≤ maxLen) (hbytes : ((n + m) + (n + m) / 4 + 192) * bytes ≤ 281474976710656) (hbase : base ≤ w.heap.size)
    (h : ∀ a' c' w', w.grownBy w' v.ownBlock → Sizes w w' → K (a.put o.dst (.slice a' (n + m) c')) w') :
    if Region.wanted o (yielded ops a.tmps) = true then Oper.wp P o a w K Q else E := by
  have hw : Region.wanted o (yielded ops a.tmps) = true := by simp [Region.wanted, hgd]
  rw [if_pos hw]
  obtain ⟨a', c', w', hr, h2, h3⟩ := run_append_like (P := P) w t o.type base e i z size bytes ht hi hz hsize hby hzs hsz v n xs hown ad m c news hl hnews h1 h63 hbytes hbase
  unfold Oper.wp execOp
  simp only [ho, resolve, invoke, builtin, Sem.run_bind, Sem.run_pure, Result.andThen_ok, List.map_toArray, List.map_cons, List.map_nil, hs, hx, hr]
  exact h a' c' w' h2 h3
end

theorem spoil_other {X Y : World} {b r : Nat} {cs cs' : Array Value} {t t' : TypeId} (h : X.heap[b]? = some (.cells cs t (0, 0))) (hr : X.heap[r]? = some (.cells cs' t' (0, 0))) (ht : t ≠ t') (hg : X.grownBy Y (some r)) : Y.heap[b]? = some (.cells cs t (0, 0)) := by
  refine (hg.block b (Array.getElem?_eq_some_iff.1 h).1 ?_).trans h
  intro e
  have e2 : b = r := by simpa using e
  subst e2
  rw [h] at hr
  simp only [Option.some.injEq, Obj.cells.injEq] at hr
  exact ht hr.2.1
/-- An automaton while it is spoilt: of the states from ik on the kernels, from ie on the edges, lie as they lay. -/
structure SpAt (w0 X : World) (ab : Nat) (bc : Array Value) (B sb N ik ie : Nat) (kv ev : Nat → Value) (kn en : Nat → Nat) (cur : Array Value) : Prop where
  grown : w0.grownBy X none
  blk : X.heap[sb]? = some (.cells cur 43 (0, 0))
  atK : ∀ j, ik ≤ j → j < N → cur[j * 2]? = some (kv j)
  atE : ∀ j, ie ≤ j → j < N → cur[j * 2 + 1]? = some (ev j)
  ker : ∀ j, ik ≤ j → j < N → Like2 X B 49 (kv j) (kn j)
  edg : ∀ j, ie ≤ j → j < N → Like2 X B 61 (ev j) (en j)
  lo : w0.heap.size ≤ B ∧ B ≤ sb
  box : X.heap[ab]? = some (.cells bc 32 (0, 0))
section
variable {w0 X Y : World} {ab : Nat} {bc : Array Value} {B sb N ik ie : Nat} {kv ev : Nat → Value} {kn en : Nat → Nat} {cur : Array Value}
/-- A block of another type than State, from B on, is turned, its size kept. -/
theorem SpAt.turn {g : Nat} {cs : Array Value} {t : TypeId} (h : SpAt w0 X ab bc B sb N ik ie kv ev kn en cur) (hg : X.grownBy Y (some g)) (hs : Sizes X Y) (hb : X.heap[g]? = some (.cells cs t (0, 0))) (ht : t ≠ 43) (ht2 : t ≠ 32) (hB : B ≤ g) : SpAt w0 Y ab bc B sb N ik ie kv ev kn en cur := by
  refine ⟨grown_new h.grown hg (Nat.le_trans h.lo.1 hB), ?_, h.atK, h.atE, fun j h1 h2 => (h.ker j h1 h2).sized hs, fun j h1 h2 => (h.edg j h1 h2).sized hs, h.lo, spoil_other h.box hb (fun e => ht2 e.symm) hg⟩
  refine (hg.block sb (Array.getElem?_eq_some_iff.1 h.blk).1 ?_).trans h.blk
  intro e
  have e2 : sb = g := by simpa using e
  subst e2
  rw [h.blk] at hb
  simp only [Option.some.injEq, Obj.cells.injEq] at hb
  exact ht hb.2.1.symm
theorem SpAt.kept (h : SpAt w0 X ab bc B sb N ik ie kv ev kn en cur) (hg : X.grownBy Y none) : SpAt w0 Y ab bc B sb N ik ie kv ev kn en cur :=
  ⟨grown_trans h.grown hg, box_kept h.blk hg, h.atK, h.atE, fun j h1 h2 => (h.ker j h1 h2).sized (.ofG hg), fun j h1 h2 => (h.edg j h1 h2).sized (.ofG hg), h.lo, box_kept h.box hg⟩
/-- A row of another type is appended to. -/
theorem SpAt.more {e n : Nat} {v : Value} {xs : List Value} (h : SpAt w0 X ab bc B sb N ik ie kv ev kn en cur) (ho : X.ownsRow B e 2 v n xs) (he : e ≠ 43) (he2 : e ≠ 32) (hg : X.grownBy Y v.ownBlock) (hs : Sizes X Y) : SpAt w0 Y ab bc B sb N ik ie kv ev kn en cur := by
  rcases ho.2 with ⟨rfl, _⟩ | ⟨g, cap, c2, rfl, hB, hh, _⟩
  · exact h.kept hg
  · exact h.turn (g := g) hg hs hh he he2 hB
theorem SpAt.cellK {i : Nat} (h : SpAt w0 X ab bc B sb N ik ie kv ev kn en cur) (h1 : ik ≤ i) (h2 : i < N) : X.cell? ⟨sb, i * 2, none⟩ = some (kv i) := by rw [cell_of_row _ _ _ _ _ _ h.blk]; exact h.atK i h1 h2
theorem SpAt.cellE {i : Nat} (h : SpAt w0 X ab bc B sb N ik ie kv ev kn en cur) (h1 : ie ≤ i) (h2 : i < N) : X.cell? ⟨sb, i * 2 + 1, none⟩ = some (ev i) := by rw [cell_of_row _ _ _ _ _ _ h.blk]; exact h.atE i h1 h2
theorem SpAt.free (h : SpAt w0 X ab bc B sb N ik ie kv ev kn en cur) (o : Nat) : X.frozen? ⟨sb, o, none⟩ = false := frozen_of_row _ _ _ _ _ h.blk
theorem SpAt.setK {i : Nat} {v : Value} (h : SpAt w0 X ab bc B sb N i ie kv ev kn en cur) : SpAt w0 (X.setCell ⟨sb, i * 2, none⟩ v) ab bc B sb N (i + 1) ie kv ev kn en (cur.setIfInBounds (i * 2) v) := by
  refine ⟨grown_new h.grown (grown_setCell _ _ _) (Nat.le_trans h.lo.1 h.lo.2), heap_setCell_same _ _ _ _ _ _ h.blk, fun j h1 h2 => ?_, fun j h1 h2 => ?_, fun j h1 h2 => (h.ker j (by omega) h2).sized (.set _ _ _ _), fun j h1 h2 => (h.edg j h1 h2).sized (.set _ _ _ _), h.lo, spoil_other h.box h.blk (by decide) (grown_setCell _ _ _)⟩
  · rw [Array.getElem?_setIfInBounds_ne (by omega)]; exact h.atK j (by omega) h2
  · rw [Array.getElem?_setIfInBounds_ne (by omega)]; exact h.atE j h1 h2
theorem SpAt.setE {i : Nat} {v : Value} (h : SpAt w0 X ab bc B sb N ik i kv ev kn en cur) : SpAt w0 (X.setCell ⟨sb, i * 2 + 1, none⟩ v) ab bc B sb N ik (i + 1) kv ev kn en (cur.setIfInBounds (i * 2 + 1) v) := by
  refine ⟨grown_new h.grown (grown_setCell _ _ _) (Nat.le_trans h.lo.1 h.lo.2), heap_setCell_same _ _ _ _ _ _ h.blk, fun j h1 h2 => ?_, fun j h1 h2 => ?_, fun j h1 h2 => (h.ker j h1 h2).sized (.set _ _ _ _), fun j h1 h2 => (h.edg j (by omega) h2).sized (.set _ _ _ _), h.lo, spoil_other h.box h.blk (by decide) (grown_setCell _ _ _)⟩
  · rw [Array.getElem?_setIfInBounds_ne (by omega)]; exact h.atK j h1 h2
  · rw [Array.getElem?_setIfInBounds_ne (by omega)]; exact h.atE j (by omega) h2
/-- Two cells of a row are written over. -/
theorem SpAt.over {g o1 o2 : Nat} {u1 u2 : Value} {cs : Array Value} {t : TypeId} (h : SpAt w0 X ab bc B sb N ik ie kv ev kn en cur) (hb : X.heap[g]? = some (.cells cs t (0, 0))) (ht : t ≠ 43) (ht2 : t ≠ 32) (hB : B ≤ g) : SpAt w0 ((X.setCell ⟨g, o1, none⟩ u1).setCell ⟨g, o2, none⟩ u2) ab bc B sb N ik ie kv ev kn en cur :=
  (h.turn (grown_setCell _ _ _) (.set _ _ _ _) hb ht ht2 hB).turn (grown_setCell _ _ _) (.set _ _ _ _) (heap_setCell_same _ _ _ _ _ _ hb) ht ht2 hB
end

end Go.Proofs.Ytapahpljmcaahaa.J
