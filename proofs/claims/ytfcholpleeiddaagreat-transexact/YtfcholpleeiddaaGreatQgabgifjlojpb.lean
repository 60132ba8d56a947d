import Derived.Test.YtfcholpleeiddaaGreatQoddakoabdlka
import Derived.Maps.OwnSet

/-
  lr0: Build.
-/
namespace Go.Proofs.YtfcholpleeiddaaGreat.J
open Go.RowKit Go.Maps Go.Shelf

attribute [local go_sem] Oper.semAt_some

theorem results_build (tmps : Array Value) (w : World) (g : Nat) (cs : Array Value) (x : Value) (h2 : tmps.getD 2 undef = .pointer (some ⟨g, 0, none⟩)) (h3 : tmps.getD 3 undef = x) (hg : w.heap[g]? = some (.cells cs 49 (0, 0))) (hs : cs.size = 3) :
    (results Tryz.f32 tmps).run Tryz.prog w = .ok (.tuple #[.agg cs, x]) w := by
  have h2' : tmps[2]?.getD undef = .pointer (some ⟨g, 0, none⟩) := by simpa using h2
  have h3' : tmps[3]?.getD undef = x := by simpa using h3
  have hl := run_loadVar_row (P := Tryz.prog) w g 49 49 cs (0, 0) _ hg Tryz.underlying49 rfl (by rw [hs]; kernel_rfl)
  simp [results, Tryz.results32, h2', h3', asAddr, hl]

/-- The maker as newMaker leaves it. -/
theorem mk_new {w X : World} {mb bm : Nat} {c0 c1 c2 c3 c4 : Value} (hg : w.grownBy X none) (hb : X.heap[mb]? = some (.cells #[c0, c1, c2, c3, c4, .slice none 0 0, .int .i64 0, .int .i64 0, .map (some bm)] 97 (0, 0))) (hm : MpAt X bm 0 (fun _ => .slice none 0 0)) (h1 : w.heap.size ≤ bm) (h2 : bm < mb) : MkAt w X mb bm c0 c1 c2 c3 c4 [] 0 (fun _ => []) 0 :=
  ⟨none, 0, fun _ => undef, fun _ => undef, 0, fun _ => .slice none 0 0, ⟨hg, hb, World.ownsRow_nil _ _ _ _, fun i hi => absurd hi (Nat.not_lt_zero _), fun i hi => absurd hi (Nat.not_lt_zero _), hm, fun x => by rw [begI_nil]; exact World.ownsRow_nil _ _ _ _, fun x y _ => .inl rfl, ⟨h1, by omega⟩, fun i hi => absurd hi (Nat.not_lt_zero _)⟩, Nat.le_refl _⟩

section
variable (ta na la pa : Option Addr) (tc nc lc pc : Nat) (ts : List (ByteArray × Int)) (ns : List ByteArray) (lv : List Int) (n : Nat) (L : Nat → Int) (R : Nat → List Int) (ra : Nat → Option Addr) (rc : Nat → Nat) (V : Nat → Int) (st : Int) (w : World) (tn nn ln : Nat) (hlen : ts.length = tn ∧ ns.length = nn ∧ lv.length = ln) (hG : GAt w ta na la pa tc nc lc pc ts ns lv n L R ra rc V)
include hlen hG
set_option maxRecDepth 100000 in
theorem buildBad (hb : ¬ closedOK ts ns lv st n L R V) : Calls Tryz.prog 32 #[.agg #[.slice ta tn tc, .slice na nn nc, .slice la ln lc, .int .i64 st, .slice pa n pc]] w fun e y => e = .returned (.tuple #[.agg #[.slice none 0 0, .int .i64 0, .int .i64 0], .int .i64 1]) ∧ w.grownBy y none := by
  have HCL : Hid (∀ X, w.grownBy X none → Calls Tryz.prog 40 #[.agg #[.slice ta tn tc, .slice na nn nc, .slice la ln lc, .int .i64 st, .slice pa n pc]] X fun e w' => e = .returned (.bool false) ∧ X.grownBy w' none) := fun X hX => by
    have := closed_any ta na la pa tc nc lc pc ts ns lv n L R ra rc V st X (hG.kept hX) false ⟨(fun h => by cases h), fun h => absurd h hb⟩
    rwa [hlen.1, hlen.2.1, hlen.2.2] at this
  have HX0 : Hid (w.grownBy ((w.alloc (.cells #[.slice ta tn tc, .slice na nn nc, .slice la ln lc, .int .i64 st, .slice pa n pc] 27)).alloc (.cells #[.slice none 0 0, .int .i64 0, .int .i64 0] 49)) none) := grown_trans (World.grownBy_alloc _ _ none) (World.grownBy_alloc _ _ none)
  have HB0 : Hid (((w.alloc (.cells #[.slice ta tn tc, .slice na nn nc, .slice la ln lc, .int .i64 st, .slice pa n pc] 27)).alloc (.cells #[.slice none 0 0, .int .i64 0, .int .i64 0] 49)).heap[w.heap.size + 1]? = some (.cells #[.slice none 0 0, .int .i64 0, .int .i64 0] 49 (0, 0))) := by
    have h := heap_alloc_last (w.alloc (.cells #[.slice ta tn tc, .slice na nn nc, .slice la ln lc, .int .i64 st, .slice pa n pc] 27)) (.cells #[.slice none 0 0, .int .i64 0, .int .i64 0] 49)
    rw [World.size_alloc] at h; exact h
  clear hlen hG hb
  go_enter Tryz.func32, Tryz.ntmps32
  go_wp2_with fail
  refine Calls.mono (HCL.out _ HX0.out) ?_
  rintro e w1 ⟨rfl, hg1⟩
  have HB1 : Hid (w1.heap[w.heap.size + 1]? = some (.cells #[.slice none 0 0, .int .i64 0, .int .i64 0] 49 (0, 0))) := box_kept HB0.out hg1
  have HG1 : Hid (w.grownBy w1 none) := grown_trans HX0.out hg1
  clear hg1 HB0 HX0
  have k0 := cell_of_row w1 (w.heap.size + 1) 0 _ _ _ HB1.out
  have k1 := cell_of_row w1 (w.heap.size + 1) 1 _ _ _ HB1.out
  have k2 := cell_of_row w1 (w.heap.size + 1) 2 _ _ _ HB1.out
  have kf := fun j => frozen_of_row w1 (w.heap.size + 1) j _ _ HB1.out
  simp only [List.getElem?_toArray, List.getElem?_cons_zero, List.getElem?_cons_succ] at k0 k1 k2
  go_wp2_with fail
  refine bodyPost_ret (v := .tuple #[.agg #[.slice none 0 0, .int .i64 0, .int .i64 0], .int .i64 1]) ?_ rfl ?_
  · exact results_build _ _ (w.heap.size + 1) _ _ rfl rfl (set3_heap HB1.out _ _ _) rfl
  · exact ⟨rfl, grown_new HG1.out (set3_grown _ _ _ _ _) (by omega)⟩

set_option maxRecDepth 100000 in
theorem buildOk (hc : closedOK ts ns lv st n L R V) : Calls Tryz.prog 32 #[.agg #[.slice ta tn tc, .slice na nn nc, .slice la ln lc, .int .i64 st, .slice pa n pc]] w fun e y => AutTold w tn n (tn + nn) L R e y := by
  have hM : MayOK tn nn n st L R true := by obtain ⟨rfl, rfl, rfl⟩ := hlen; exact mayOK_closed hc
  have HCL : Hid (∀ X, w.grownBy X none → Calls Tryz.prog 40 #[.agg #[.slice ta tn tc, .slice na nn nc, .slice la ln lc, .int .i64 st, .slice pa n pc]] X fun e w' => e = .returned (.bool true) ∧ X.grownBy w' none) := fun X hX => by
    have := closed_any ta na la pa tc nc lc pc ts ns lv n L R ra rc V st X (hG.kept hX) true ⟨fun _ => hc, fun _ => rfl⟩
    rwa [hlen.1, hlen.2.1, hlen.2.2] at this
  have HAU : Hid (∀ X Y mb bm E, w.grownBy X none → MkAt X Y mb bm (.slice ta tn tc) (.slice na nn nc) (.slice la ln lc) (.int .i64 st) (.slice pa n pc) [] 0 (fun _ => []) E → Calls Tryz.prog 42 #[.pointer (some ⟨mb, 0, none⟩)] Y fun e y => AutTold X tn n (tn + nn) L R e y) := fun X Y mb bm E hX hmk => automaton_any ta na la pa tc nc lc pc n L R ra rc V st X Y tn nn ln (prods_kept hG.prods hX) hM.pmax hM.p0 hM.tmax hM.nmax (fun k hk x hx => ⟨by have := hM.right k hk x hx; omega, (hM.right k hk x hx).2⟩) (gright hG.prods) mb bm E hmk
  have HX0 : Hid (w.grownBy ((w.alloc (.cells #[.slice ta tn tc, .slice na nn nc, .slice la ln lc, .int .i64 st, .slice pa n pc] 27)).alloc (.cells #[.slice none 0 0, .int .i64 0, .int .i64 0] 49)) none) := grown_trans (World.grownBy_alloc _ _ none) (World.grownBy_alloc _ _ none)
  have HP0 : Hid (PhAt w ((w.alloc (.cells #[.slice ta tn tc, .slice na nn nc, .slice la ln lc, .int .i64 st, .slice pa n pc] 27)).alloc (.cells #[.slice none 0 0, .int .i64 0, .int .i64 0] 49)) w.heap.size #[.slice ta tn tc, .slice na nn nc, .slice la ln lc, .int .i64 st, .slice pa n pc]) := PhAt.kept ⟨World.grownBy_alloc _ _ none, heap_alloc_last w _⟩ (World.grownBy_alloc _ _ none)
  have HB0 : Hid (((w.alloc (.cells #[.slice ta tn tc, .slice na nn nc, .slice la ln lc, .int .i64 st, .slice pa n pc] 27)).alloc (.cells #[.slice none 0 0, .int .i64 0, .int .i64 0] 49)).heap[w.heap.size + 1]? = some (.cells #[.slice none 0 0, .int .i64 0, .int .i64 0] 49 (0, 0))) := by
    have h := heap_alloc_last (w.alloc (.cells #[.slice ta tn tc, .slice na nn nc, .slice la ln lc, .int .i64 st, .slice pa n pc] 27)) (.cells #[.slice none 0 0, .int .i64 0, .int .i64 0] 49)
    rw [World.size_alloc] at h; exact h
  clear hlen hG hc hM
  obtain ⟨S, hS⟩ : ∃ S, S = tn + nn := ⟨_, rfl⟩
  rw [← hS] at HAU
  rw [← hS]
  clear hS
  go_enter Tryz.func32, Tryz.ntmps32
  go_wp2_with fail
  refine Calls.mono (HCL.out _ HX0.out) ?_
  rintro e w1 ⟨rfl, hg1⟩
  have HB1 : Hid (w1.heap[w.heap.size + 1]? = some (.cells #[.slice none 0 0, .int .i64 0, .int .i64 0] 49 (0, 0))) := box_kept HB0.out hg1
  have HP1 : Hid (PhAt w w1 w.heap.size #[.slice ta tn tc, .slice na nn nc, .slice la ln lc, .int .i64 st, .slice pa n pc]) := HP0.out.kept hg1
  clear hg1 HB0 HX0 HP0
  obtain ⟨k0, k1, k2, k3, k4⟩ := HP1.out.cells
  go_wp2_with fail
  refine Calls.mono (newMaker_any ta na la pa tc nc lc pc n st w1 tn nn ln) ?_
  rintro e w2 ⟨mb, bm, rfl, hbx, hmp, h1, h2, hg2⟩
  have HMK : Hid (MkAt w1 w2 mb bm (.slice ta tn tc) (.slice na nn nc) (.slice la ln lc) (.int .i64 st) (.slice pa n pc) [] 0 (fun _ => []) 0) := mk_new hg2 hbx hmp h1 h2
  clear hbx hmp h1 h2 hg2 k0 k1 k2 k3 k4
  go_wp2_with fail
  refine Calls.mono (HAU.out w1 w2 mb bm 0 HP1.out.grown HMK.out) ?_
  rintro e w3 (⟨ks, es, sa, sc, kv, ev, hau, rfl, hAP, hg3⟩ | ⟨hau, rfl, hg3⟩)
  · have HB3 : Hid (w3.heap[w.heap.size + 1]? = some (.cells #[.slice none 0 0, .int .i64 0, .int .i64 0] 49 (0, 0))) := box_kept HB1.out hg3
    have HG3 : Hid (w.grownBy w3 none) := grown_trans HP1.out.grown hg3
    have HAP : Hid (AutP w.heap.size w3 (.slice sa ks.length sc) ks (elF es) kv ev) := ⟨owns_base hAP.row HP1.out.grown.size, fun i hi => owns_base (hAP.ker i hi) HP1.out.grown.size, fun i hi => owns_base (hAP.edg i hi) HP1.out.grown.size⟩
    have HA : Hid (autoF (GG tn n L R) S 256 = some (ks, es)) := hau
    have k0 := cell_of_row w3 (w.heap.size + 1) 0 _ _ _ HB3.out
    have k1 := cell_of_row w3 (w.heap.size + 1) 1 _ _ _ HB3.out
    have k2 := cell_of_row w3 (w.heap.size + 1) 2 _ _ _ HB3.out
    have kf := fun j => frozen_of_row w3 (w.heap.size + 1) j _ _ HB3.out
    simp only [List.getElem?_toArray, List.getElem?_cons_zero, List.getElem?_cons_succ] at k0 k1 k2
    obtain ⟨ask, hask⟩ : ∃ a, a = (askN es : Int) := ⟨_, rfl⟩
    have HASK : Hid (ask = (askN es : Int)) := hask
    obtain ⟨N, hN⟩ : ∃ a, a = ks.length := ⟨_, rfl⟩
    have HN : Hid (N = ks.length) := hN
    rw [← hask, ← hN]
    clear hask hN hau hAP hg3
    go_wp2_with fail
    refine bodyPost_ret (v := .tuple #[.agg #[.slice sa N sc, .int .i64 ask, .int .i64 (N : Int)], .int .i64 0]) ?_ rfl ?_
    · exact results_build _ _ (w.heap.size + 1) _ _ rfl rfl (set3_heap HB3.out _ _ _) rfl
    · refine .inl ⟨ks, es, sa, sc, kv, ev, HA.out, ?_, ?_, grown_new HG3.out (set3_grown _ _ _ _ _) (by omega)⟩
      · rw [HASK.out, ← HN.out]
      · exact HAP.out.box HB3.out (by decide) (by decide) (by decide) (set3_grown _ _ _ _ _)
  · have HB3 : Hid (w3.heap[w.heap.size + 1]? = some (.cells #[.slice none 0 0, .int .i64 0, .int .i64 0] 49 (0, 0))) := box_kept HB1.out hg3
    have HG3 : Hid (w.grownBy w3 none) := grown_trans HP1.out.grown hg3
    have HA : Hid (autoF (GG tn n L R) S 256 = none) := hau
    have k0 := cell_of_row w3 (w.heap.size + 1) 0 _ _ _ HB3.out
    have k1 := cell_of_row w3 (w.heap.size + 1) 1 _ _ _ HB3.out
    have k2 := cell_of_row w3 (w.heap.size + 1) 2 _ _ _ HB3.out
    have kf := fun j => frozen_of_row w3 (w.heap.size + 1) j _ _ HB3.out
    simp only [List.getElem?_toArray, List.getElem?_cons_zero, List.getElem?_cons_succ] at k0 k1 k2
    clear hau hg3
    go_wp2_with fail
    refine bodyPost_ret (v := .tuple #[.agg #[.slice none 0 0, .int .i64 0, .int .i64 0], .int .i64 11]) ?_ rfl ?_
    · exact results_build _ _ (w.heap.size + 1) _ _ rfl rfl (set3_heap HB3.out _ _ _) rfl
    · exact .inr ⟨HA.out, rfl, grown_new HG3.out (set3_grown _ _ _ _ _) (by omega)⟩
end

end Go.Proofs.YtfcholpleeiddaaGreat.J

/-
  lr0: the edges of an automaton, pure.
-/
namespace Go.Proofs.YtfcholpleeiddaaGreat.J
open Go.RowKit Go.Maps Go.Shelf

/-- Has it items? -/
def someB (k : List It) : Bool := decide (k ≠ [])
theorem someB_true {k : List It} : someB k = true ↔ k ≠ [] := by unfold someB; exact decide_eq_true_iff
/-- The symbols below s whose kernels have items. -/
def symsT (G : Nat → List It) (s : Nat) : List Nat := (List.range s).filter fun t => someB (G t)
theorem symsT_succ (G : Nat → List It) (s : Nat) : symsT G (s + 1) = symsT G s ++ (if G s = [] then [] else [s]) := by
  unfold symsT
  rw [List.range_succ, List.filter_append]
  congr 1
  by_cases h : G s = []
  · rw [if_pos h]; simp [someB, h]
  · rw [if_neg h]; simp [someB, h]
theorem symsT_len (G : Nat → List It) : ∀ s, (symsT G s).length ≤ s
  | 0 => by simp [symsT]
  | s + 1 => by
    rw [symsT_succ, List.length_append]
    have := symsT_len G s
    split <;> simp <;> omega
theorem symsT_prefix (G : Nat → List It) {s S : Nat} (h : s ≤ S) : symsT G s <+: symsT G S := by
  obtain ⟨d, rfl⟩ : ∃ d, S = s + d := ⟨S - s, by omega⟩
  clear h
  induction d with
  | zero => exact List.prefix_refl _
  | succ d ih => exact ih.trans (by rw [show s + (d + 1) = (s + d) + 1 by omega, symsT_succ]; exact List.prefix_append _ _)
theorem symsT_at (G : Nat → List It) {s S : Nat} (h : s < S) (hs : G s ≠ []) : (symsT G s).length < (symsT G S).length ∧ (symsT G S).getD (symsT G s).length 0 = s := by
  have h1 : symsT G (s + 1) = symsT G s ++ [s] := by rw [symsT_succ, if_neg hs]
  have h2 := symsT_prefix G (s := s + 1) (S := S) h
  rw [h1] at h2
  have h3 := h2.length_le
  rw [List.length_append, List.length_singleton] at h3
  refine ⟨by omega, ?_⟩
  rw [getD_prefix h2 (by rw [List.length_append, List.length_singleton]; omega), getD_snoc_new]
theorem mem_symsT {G : Nat → List It} {S s : Nat} : s ∈ symsT G S ↔ s < S ∧ G s ≠ [] := by
  unfold symsT
  rw [List.mem_filter, List.mem_range, someB_true]
theorem symsT_nodup (G : Nat → List It) (S : Nat) : (symsT G S).Nodup := List.Nodup.sublist List.filter_sublist List.nodup_range

theorem leaveF_fst {G : Nat → List It} {ks : List (List It)} : ∀ (s : Nat) {ks' : List (List It)} {ed : List (Nat × Nat)}, leaveF G ks s = some (ks', ed) → ed.map Prod.fst = symsT G s
  | 0, ks', ed, e => by
    unfold leaveF at e
    cases e
    rfl
  | s + 1, ks', ed, e => by
    unfold leaveF at e
    cases h1 : leaveF G ks s with
    | none => rw [h1] at e; cases e
    | some q =>
      obtain ⟨k1, e1⟩ := q
      have ih := leaveF_fst s h1
      rw [h1] at e
      simp only at e
      by_cases hg : G s = []
      · rw [if_pos hg] at e
        cases e
        rw [ih, symsT_succ, if_pos hg, List.append_nil]
      · rw [if_neg hg] at e
        cases h2 : askF k1 (G s) with
        | none => rw [h2] at e; cases e
        | some q2 =>
          obtain ⟨t, k2⟩ := q2
          rw [h2] at e
          cases e
          rw [List.map_append, ih, symsT_succ, if_neg hg]; rfl

/-- The edges by their symbols. -/
theorem autoF_fst {P : Nat → List It → Prop} {G : List It → Nat → List It} {S : Nat} (h0 : P 0 [(0, 0)]) (hG : ∀ i m k s, P i k → i < m → P m (G k s)) : ∀ (i : Nat) {ks : List (List It)} {es : List (List (Nat × Nat))}, autoF G S i = some (ks, es) → ∀ q, q < es.length → (es.getD q []).map Prod.fst = symsT (G (ks.getD q [])) S
  | 0, ks, es, e => by
    unfold autoF at e
    cases e
    intro q hq
    exact absurd hq (Nat.not_lt_zero _)
  | i + 1, ks', es', e => by
    cases h1 : autoF G S i with
    | none =>
      have := autoF_none h1 1
      rw [this] at e; cases e
    | some p =>
      obtain ⟨ks, es⟩ := p
      have ih := autoF_fst h0 hG i h1
      have ha := autoOK h0 hG i h1
      by_cases hi : i < ks.length
      · have e' := e
        rw [autoF_step h1 hi] at e
        cases h2 : leaveF (G (ks.getD i [])) ks S with
        | none => rw [h2] at e; cases e
        | some q2 =>
          obtain ⟨k2, ed⟩ := q2
          rw [h2] at e
          cases e
          obtain ⟨_, j2, _, _⟩ := ha.kok.leave (fun m s hm => hG i m _ s (ha.kok.each i hi) (by omega)) S h2
          have hes : es.length = i := by rw [ha.len]; omega
          intro q hq
          rw [List.length_append, List.length_singleton] at hq
          by_cases e2 : q < es.length
          · rw [getD_snoc_old e2, getD_prefix j2 (by omega)]
            exact ih q e2
          · have : q = es.length := by omega
            subst this
            rw [getD_snoc_new, hes, getD_prefix j2 hi]
            exact leaveF_fst S h2
      · have := autoF_stay h1 (Nat.le_of_not_lt hi) 1
        rw [this] at e
        cases e
        exact ih

/-- An automaton, all of it. -/
structure AutF (G : List It → Nat → List It) (n : Nat) (R : Nat → List Int) (S : Nat) (ks : List (List It)) (es : List (List (Nat × Nat))) : Prop where
  kok : KsOK (PJ n R) ks
  pos : 0 < ks.length
  head : ks.getD 0 [] = [(0, 0)]
  len : es.length = ks.length
  fst : ∀ q, q < ks.length → (es.getD q []).map Prod.fst = symsT (G (ks.getD q [])) S
  snd : ∀ q, q < ks.length → ∀ x ∈ es.getD q [], x.1 < S ∧ x.2 < ks.length ∧ ks.getD x.2 [] = G (ks.getD q []) x.1
theorem autF {tn nn n : Nat} {L : Nat → Int} {R : Nat → List Int} (hn0 : 0 < n) {ks : List (List It)} {es : List (List (Nat × Nat))} (h : autoF (GG tn n L R) (tn + nn) 256 = some (ks, es)) : AutF (GG tn n L R) n R (tn + nn) ks es := by
  have ha := auOK hn0 h
  have hl : es.length = ks.length := by rw [ha.len]; have := ha.kok.le; omega
  have hp : PJ n R 0 [(0, 0)] := ⟨fun x hx => by
    rw [List.mem_singleton.1 hx]
    unfold itB
    simp only [Bool.and_eq_true, decide_eq_true_eq]
    exact ⟨⟨⟨by omega, by omega⟩, by omega⟩, by omega⟩, by simp⟩
  exact ⟨ha.kok, ha.pos, ha.head, hl, fun q hq => autoF_fst hp (fun i m k s hp hm => hp.GG s hm) 256 h q (by omega), fun q hq x hx => (ha.edges q (by omega)).2 x hx⟩
section
variable {G : List It → Nat → List It} {n : Nat} {R : Nat → List Int} {S : Nat} {ks : List (List It)} {es : List (List (Nat × Nat))}
theorem AutF.elen (h : AutF G n R S ks es) {q : Nat} (hq : q < ks.length) : (es.getD q []).length = (symsT (G (ks.getD q [])) S).length := by rw [← h.fst q hq, List.length_map]
theorem AutF.esym (h : AutF G n R S ks es) {q i : Nat} (hq : q < ks.length) (hi : i < (es.getD q []).length) : ((es.getD q []).getD i (0, 0)).1 = (symsT (G (ks.getD q [])) S).getD i 0 := by
  rw [← h.fst q hq]
  generalize es.getD q [] = l at hi ⊢
  rw [List.getD_eq_getElem?_getD, List.getD_eq_getElem?_getD, List.getElem?_map, List.getElem?_eq_getElem hi]; rfl
/-- The edge by a symbol that has a kernel. -/
theorem AutF.edge (h : AutF G n R S ks es) {q s : Nat} (hq : q < ks.length) (hs : s < S) (hk : G (ks.getD q []) s ≠ []) : (symsT (G (ks.getD q [])) s).length < (es.getD q []).length ∧ ∃ t, (es.getD q []).getD (symsT (G (ks.getD q [])) s).length (0, 0) = (s, t) ∧ t < ks.length ∧ ks.getD t [] = G (ks.getD q []) s := by
  obtain ⟨h1, h2⟩ := symsT_at (G (ks.getD q [])) hs hk
  rw [← h.elen hq] at h1
  refine ⟨h1, ?_⟩
  have h3 := h.esym hq h1
  rw [h2] at h3
  have hm : (es.getD q []).getD (symsT (G (ks.getD q [])) s).length (0, 0) ∈ es.getD q [] := by
    generalize es.getD q [] = l at h1 ⊢
    rw [List.getD_eq_getElem?_getD, List.getElem?_eq_getElem h1]; exact List.getElem_mem h1
  obtain ⟨_, h5, h6⟩ := h.snd q hq _ hm
  rw [h3] at h6
  exact ⟨_, Prod.ext h3 rfl, h5, h6⟩
end

end Go.Proofs.YtfcholpleeiddaaGreat.J

/-
  trans: a map from outsets to numbers.
-/
namespace Go.Proofs.YtfcholpleeiddaaGreat.J
open Go.RowKit Go.Maps Go.Shelf

theorem rowOut : (82 : TypeId) < Tryz.prog.types.size := of_decide_eq_true (by kernel_rfl)
theorem wideOut : (match Tryz.prog.underlying 82 with | some (.array _ _) | some (.struct _) => true | _ => false) = true := by rw [Tryz.underlying82]
set_option maxRecDepth 100000 in
theorem lawOut : Keyed Tryz.prog 82 := Keyed.of_law (deep_law_laid laidO (m := 2) (by omega) rowOut (by kernel_rfl) wideOut)
theorem keyTOut : Tryz.prog.keyType 82 = true := by kernel_rfl
theorem cellsOut : Tryz.prog.cellsOf 82 = 2 := by kernel_rfl
theorem sizeTO : ∃ m, Tryz.prog.types.size = m + 1 := size_of rowOut
theorem keyOut {x : It} (h : I64 x) : ∃ kl, keyOf Tryz.prog 82 (aggI x) = some kl := by
  obtain ⟨m, hm⟩ := sizeTO
  refine ⟨.string (keyBytes [.int .i64 x.1, .int .i64 x.2]), ?_⟩
  unfold keyOf aggI
  simp only [Tryz.underlying82]
  rw [if_pos (by simp [keyTOut, Value.formed, Tryz.underlying82, cellsOut]), hm]
  unfold Program.keyLits
  simp only [Tryz.underlying82, Value.cells]
  rw [if_pos (by rw [cellsOut]; exact ⟨rfl, by kernel_rfl⟩)]
  simp [List.mapM_cons, List.mapM_nil, cellsInt, Program.keyLits, Tryz.underlying3, h.1, h.2]

/-- A map in block b: what stands at each outset, if something does. -/
def LdAt (w : World) (b n : Nat) (F : It → Option Int) : Prop := ∃ D : DataW Value, w.ownsMap Tryz.prog 82 heldR b n D ∧ ∀ x kl, keyOf Tryz.prog 82 (aggI x) = some kl → D.atKey kl (.held (.int .i64 0)) = .held (.int .i64 ((F x).getD 0)) ∧ has D kl = (F x).isSome

theorem LdAt.made (w : World) : LdAt (w.alloc (.map #[] 0)) w.heap.size 0 (fun _ => none) := ⟨_, World.ownsMap_made w _ _ _, fun x kl _ => ⟨by simp [DataW.atKey], rfl⟩⟩
theorem LdAt.kept {w w' : World} {row : Option Nat} {b n : Nat} {F : It → Option Int} (h : LdAt w b n F) (hg : w.grownBy w' row) (hne : some b ≠ row) : LdAt w' b n F := by
  obtain ⟨D, h1, h2⟩ := h
  exact ⟨D, h1.kept hg hne, h2⟩
theorem LdAt.obj {X : World} {b n : Nat} {F : It → Option Int} (h : LdAt X b n F) : ∃ es cl, X.heap[b]? = some (.map es cl) := by
  obtain ⟨D, ⟨es, cl, h1, _⟩, _⟩ := h
  exact ⟨es, cl, h1⟩
theorem LdAt.look {w : World} {b n : Nat} {F : It → Option Int} (h : LdAt w b n F) {x : It} (hx : I64 x) : (Instr.lookup 54 (.map (some b)) (aggI x) true).run Tryz.prog w = .ok (.tuple #[.int .i64 ((F x).getD 0), .bool (F x).isSome]) w := by
  obtain ⟨D, h1, h2⟩ := h
  obtain ⟨kl, hk⟩ := keyOut hx
  obtain ⟨v, ps, hrun, hv⟩ := h1.look_ok lawOut Tryz.underlying54 (z := .int .i64 0) (by kernel_rfl) (zd := .held (.int .i64 0)) (zp := []) rfl hk
  obtain ⟨h3, h4⟩ := h2 x kl hk
  rw [h3] at hv
  simp only [heldR, Option.some.injEq, Prod.mk.injEq, DataW.held.injEq] at hv
  rw [hrun, hv.1, h4]
/-- F with v at x. -/
noncomputable def putL (F : It → Option Int) (x : It) (v : Int) : It → Option Int := fun y => if y = x then some v else F y
theorem LdAt.update {w : World} {b n : Nat} {F : It → Option Int} (h : LdAt w b n F) (hn : n < maxLen) {x : It} (hx : I64 x) (v : Int) : ∃ w', (Instr.mapUpdate 54 (.map (some b)) (aggI x) (.int .i64 v)).run Tryz.prog w = .ok () w' ∧ LdAt w' b (n + 1) (putL F x v) ∧ w.grownBy w' (some b) := by
  obtain ⟨D, h1, h2⟩ := h
  obtain ⟨kl, hk⟩ := keyOut hx
  obtain ⟨w', hrun, h3, h4⟩ := h1.update lawOut Tryz.underlying54 hn hk (val := .int .i64 v) (d := .held (.int .i64 v)) (ps := []) rfl
  refine ⟨w', hrun, ⟨_, h3, fun y ky hy => ?_⟩, h4⟩
  unfold putL
  by_cases e : y = x
  · subst e
    rw [hk] at hy
    cases hy
    rw [if_pos rfl, atKey_put_same h1.isMap (lawOut.key hk), has_put_same h1.isMap (lawOut.key hk)]
    exact ⟨rfl, rfl⟩
  · have hne : ky ≠ kl := fun e2 => e (aggI_inj (lawOut.inj hy (by rw [e2]; exact hk)))
    rw [if_neg e, atKey_put_other hne, has_put_other hne]
    exact h2 y ky hy

/-- Where the edge by s leads. -/
def nextL (l : List (Nat × Nat)) (s : Int) : Option Int := (l.find? fun x => decide ((x.1 : Int) = s)).map fun x => (x.2 : Int)
theorem nextL_snoc {l : List (Nat × Nat)} {a b : Nat} (hno : a ∉ l.map Prod.fst) (s : Int) : nextL (l ++ [(a, b)]) s = if s = (a : Int) then some (b : Int) else nextL l s := by
  unfold nextL
  rw [List.find?_append]
  by_cases h : s = (a : Int)
  · subst h
    rw [if_pos rfl]
    have : l.find? (fun x => decide ((x.1 : Int) = (a : Int))) = none := by
      rw [List.find?_eq_none]
      intro x hx
      simp only [decide_eq_true_eq]
      intro e
      exact hno (List.mem_map.2 ⟨x, hx, by omega⟩)
    rw [this]
    simp
  · rw [if_neg h]
    have : [(a, b)].find? (fun x => decide ((x.1 : Int) = s)) = none := by
      rw [List.find?_eq_none]
      intro x hx
      rw [List.mem_singleton.1 hx]
      simp only [decide_eq_true_eq]
      exact fun e => h e.symm
    rw [this]
    simp
/-- What the map holds, once the states below i and j edges of i have been gone over. -/
def leadT (es : List (List (Nat × Nat))) (i j : Nat) (x : It) : Option Int :=
  if 0 ≤ x.1 ∧ x.1 < (i : Int) then nextL (es.getD x.1.toNat []) x.2 else if x.1 = (i : Int) then nextL ((es.getD i []).take j) x.2 else none
theorem leadT_zero (es : List (List (Nat × Nat))) : leadT es 0 0 = fun _ => none := funext fun x => by
  unfold leadT
  rw [if_neg (by omega)]
  split
  · simp [nextL]
  · rfl
theorem leadT_row (es : List (List (Nat × Nat))) (i : Nat) : leadT es i (es.getD i []).length = leadT es (i + 1) 0 := funext fun x => by
  unfold leadT
  rw [List.take_length]
  by_cases h1 : 0 ≤ x.1 ∧ x.1 < (i : Int)
  · rw [if_pos h1, if_pos (by omega)]
  · rw [if_neg h1]
    by_cases h2 : x.1 = (i : Int)
    · rw [if_pos h2, if_pos (by omega), h2, Int.toNat_natCast]
    · rw [if_neg h2, if_neg (by omega)]
      split
      · simp [nextL]
      · rfl
theorem leadT_step {es : List (List (Nat × Nat))} {i j s t : Nat} (hj : j < (es.getD i []).length) (he : (es.getD i []).getD j (0, 0) = (s, t)) (hnd : ((es.getD i []).map Prod.fst).Nodup) : putL (leadT es i j) ((i : Int), (s : Int)) (t : Int) = leadT es i (j + 1) := funext fun x => by
  have e1 : (es.getD i []).take (j + 1) = (es.getD i []).take j ++ [(s, t)] := by
    generalize es.getD i [] = l at hj he ⊢
    rw [List.take_succ_eq_append_getElem hj]
    rw [List.getD_eq_getElem?_getD, List.getElem?_eq_getElem hj] at he
    exact congrArg _ (congrArg (fun y => [y]) he)
  have hno : s ∉ ((es.getD i []).take j).map Prod.fst := by
    have h2 : (((es.getD i []).take (j + 1)).map Prod.fst).Nodup := List.Nodup.sublist (List.Sublist.map _ (List.take_sublist _ _)) hnd
    rw [e1, List.map_append, List.nodup_append] at h2
    intro h3
    exact h2.2.2 s h3 s (by simp) rfl
  unfold putL leadT
  by_cases h : x = ((i : Int), (s : Int))
  · subst h
    rw [if_pos rfl, if_neg (by simp), if_pos rfl, e1, nextL_snoc hno, if_pos rfl]
  · rw [if_neg h]
    by_cases h1 : 0 ≤ x.1 ∧ x.1 < (i : Int)
    · rw [if_pos h1, if_pos h1]
    · rw [if_neg h1, if_neg h1]
      by_cases h2 : x.1 = (i : Int)
      · rw [if_pos h2, if_pos h2, e1, nextL_snoc hno, if_neg (fun h3 => h (Prod.ext h2 h3))]
      · rw [if_neg h2, if_neg h2]
/-- All of it. -/
def leadA (es : List (List (Nat × Nat))) : It → Option Int := leadT es es.length 0
theorem leadA_at (es : List (List (Nat × Nat))) {q : Nat} (hq : q < es.length) (s : Int) : leadA es ((q : Int), s) = nextL (es.getD q []) s := by
  unfold leadA leadT
  rw [if_pos (by simp only; omega)]
  simp only [Int.toNat_natCast]
theorem nextL_mem {l : List (Nat × Nat)} {s t : Int} (h : nextL l s = some t) : ∃ x ∈ l, (x.1 : Int) = s ∧ (x.2 : Int) = t := by
  unfold nextL at h
  cases h1 : l.find? (fun x => decide ((x.1 : Int) = s)) with
  | none => rw [h1] at h; cases h
  | some x =>
    rw [h1] at h
    have h2 := List.find?_some h1
    have h3 := List.mem_of_find?_eq_some h1
    refine ⟨x, h3, by simpa using h2, by simpa using h⟩

/-- The state that a row leads to. -/
def wayF (es : List (List (Nat × Nat))) : Option Int → List Int → Option Int
  | q, [] => q
  | none, _ :: _ => none
  | some q, s :: r => wayF es (leadA es (q, s)) r
theorem wayF_none (es : List (List (Nat × Nat))) : ∀ r, wayF es none r = none
  | [] => rfl
  | _ :: _ => rfl
theorem wayF_append (es : List (List (Nat × Nat))) : ∀ (r r' : List Int) (q : Option Int), wayF es q (r ++ r') = wayF es (wayF es q r) r'
  | [], _, _ => rfl
  | s :: r, r', none => by
    rw [List.cons_append]
    show none = wayF es none r'
    rw [wayF_none]
  | s :: r, r', some q => by
    rw [List.cons_append]
    exact wayF_append es r r' _
def wayV : Option Int → Int
  | none => -1
  | some q => q

end Go.Proofs.YtfcholpleeiddaaGreat.J

/-
  lr0: an automaton in memory, read.
-/
namespace Go.Proofs.YtfcholpleeiddaaGreat.J
open Go.RowKit Go.Maps Go.Shelf

theorem own_nil {X : World} {B e s n c : Nat} {a : Option Addr} {xs : List Value} (h : X.ownsRow B e s (.slice a n c) n xs) : a = none → n = 0 ∧ c = 0 := fun e => by
  rcases h.2 with ⟨h1, h2⟩ | ⟨g, cap, cur, h1, _⟩
  · simp only [Value.slice.injEq] at h1
    exact ⟨h2, h1.2.2⟩
  · simp only [Value.slice.injEq] at h1
    rw [e] at h1
    cases h1.1
theorem ItsAt.cellAt {X : World} {a : Option Addr} {l : List It} (h : ItsAt X a l) {i : Nat} (hi : i < l.length) : ∃ b off, a = some ⟨b, off, none⟩ ∧ X.cell? ⟨b, off + i * 2, none⟩ = some (.int .i64 (l.getD i (0, 0)).1) ∧ X.cell? ⟨b, off + i * 2 + 1, none⟩ = some (.int .i64 (l.getD i (0, 0)).2) := by
  rcases h with h | ⟨b, off, e, h⟩
  · rw [h] at hi; cases hi
  · exact ⟨b, off, e, h i hi⟩
theorem ItsAt.ofT {X : World} {B c e : Nat} {a : Option Addr} {l : List It} (h : X.ownsRow B e 2 (.slice a l.length c) l.length (itsV l)) : ItsAt X a l := by
  rcases h.2 with ⟨h', h2⟩ | ⟨g, cap, cur, hv, hB, hh, _, _, hs, ht⟩
  · left
    exact List.eq_nil_of_length_eq_zero h2
  · right
    simp only [Value.slice.injEq] at hv
    refine ⟨g, 0, hv.1, fun i hi => ?_⟩
    obtain ⟨h3, h4⟩ := itsV_at l i hi
    rw [← ht, List.getElem?_take, if_pos (by omega)] at h3 h4
    rw [Nat.zero_add, cell_of_row _ _ _ _ _ _ hh, cell_of_row _ _ _ _ _ _ hh]
    exact ⟨by simpa using h3, by simpa using h4⟩
/-- The cells of an automaton that is read. -/
theorem AutP.st {B : Nat} {X : World} {v : Value} {ks : List (List It)} {el : Nat → List It} {kv ev : Nat → Value} (h : AutP B X v ks el kv ev) {q : Nat} (hq : q < ks.length) : ∃ g c, v = .slice (some ⟨g, 0, none⟩) ks.length c ∧ X.cell? ⟨g, q * 2, none⟩ = some (kv q) ∧ X.cell? ⟨g, q * 2 + 1, none⟩ = some (ev q) := by
  obtain ⟨g, c, e, h1⟩ := owns_at h.row (by omega)
  exact ⟨g, c, e, h1 _ _ (stV_at kv ev _ q hq).1, h1 _ _ (stV_at kv ev _ q hq).2⟩
theorem AutP.kerAt {B : Nat} {X : World} {v : Value} {ks : List (List It)} {el : Nat → List It} {kv ev : Nat → Value} (h : AutP B X v ks el kv ev) {q : Nat} (hq : q < ks.length) : ∃ a c, kv q = .slice a (ks.getD q []).length c ∧ ItsAt X a (ks.getD q []) ∧ (a = none → (ks.getD q []).length = 0 ∧ c = 0) := by
  have h1 := h.ker q hq
  obtain ⟨a, c, e⟩ := owns_cut h1
  rw [e] at h1
  exact ⟨a, c, e, ItsAt.of h1, own_nil h1⟩
theorem AutP.edgAt {B : Nat} {X : World} {v : Value} {ks : List (List It)} {el : Nat → List It} {kv ev : Nat → Value} (h : AutP B X v ks el kv ev) {q : Nat} (hq : q < ks.length) : ∃ a c, ev q = .slice a (el q).length c ∧ ItsAt X a (el q) := by
  have h1 := h.edg q hq
  obtain ⟨a, c, e⟩ := owns_cut h1
  rw [e] at h1
  exact ⟨a, c, e, ItsAt.ofT h1⟩
theorem elF_at {es : List (List (Nat × Nat))} {q i : Nat} (hi : i < (es.getD q []).length) : (elF es q).length = (es.getD q []).length ∧ (elF es q).getD i (0, 0) = (((((es.getD q []).getD i (0, 0)).1 : Nat) : Int), ((((es.getD q []).getD i (0, 0)).2 : Nat) : Int)) := by
  unfold elF
  generalize es.getD q [] = l at hi ⊢
  refine ⟨edI_len l, ?_⟩
  unfold edI
  rw [List.getD_eq_getElem?_getD, List.getD_eq_getElem?_getD, List.getElem?_map, List.getElem?_eq_getElem hi]; rfl
theorem elF_len (es : List (List (Nat × Nat))) (q : Nat) : (elF es q).length = (es.getD q []).length := edI_len _

theorem AutP.base {B B' : Nat} {X : World} {v : Value} {ks : List (List It)} {el : Nat → List It} {kv ev : Nat → Value} (h : AutP B X v ks el kv ev) (hb : B' ≤ B) : AutP B' X v ks el kv ev :=
  ⟨owns_base h.row hb, fun i hi => owns_base (h.ker i hi) hb, fun i hi => owns_base (h.edg i hi) hb⟩
theorem PJ.len {n : Nat} {R : Nat → List Int} {i : Nat} {k : List It} (h : PJ n R i k) (hi : i ≤ 257) : k.length ≤ 3341001 := by
  have h1 := h.2
  have h2 : 13000 * i ≤ 13000 * 257 := Nat.mul_le_mul_left _ hi
  omega
section
variable (ta na la pa : Option Addr) (tc nc lc pc : Nat) (ts : List (ByteArray × Int)) (ns : List ByteArray) (lv : List Int) (n : Nat) (L : Nat → Int) (R : Nat → List Int) (ra : Nat → Option Addr) (rc : Nat → Nat) (V : Nat → Int) (st : Int) (w : World) (tn nn ln : Nat) (hlen : ts.length = tn ∧ ns.length = nn ∧ lv.length = ln) (hG : GAt w ta na la pa tc nc lc pc ts ns lv n L R ra rc V)
include hlen hG
/-- Build, where there is an automaton: one for all worlds. -/
theorem build_some (hc : closedOK ts ns lv st n L R V) {ks : List (List It)} {es : List (List (Nat × Nat))} (h : autoF (GG tn n L R) (tn + nn) 256 = some (ks, es)) (X : World) (hX : w.grownBy X none) : Calls Tryz.prog 32 #[.agg #[.slice ta tn tc, .slice na nn nc, .slice la ln lc, .int .i64 st, .slice pa n pc]] X fun e y => ∃ sa sc kv ev, e = .returned (.tuple #[.agg #[.slice sa ks.length sc, .int .i64 (askN es : Int), .int .i64 (ks.length : Int)], .int .i64 0]) ∧ AutP X.heap.size y (.slice sa ks.length sc) ks (elF es) kv ev ∧ X.grownBy y none := by
  refine (buildOk ta na la pa tc nc lc pc ts ns lv n L R ra rc V st X tn nn ln hlen (hG.kept hX) hc).mono ?_
  rintro e y (⟨ks', es', sa, sc, kv, ev, hau, rfl, hA, hg⟩ | ⟨hau, _⟩)
  · have h2 := h.symm.trans hau
    simp only [Option.some.injEq, Prod.mk.injEq] at h2
    obtain ⟨rfl, rfl⟩ := h2
    exact ⟨sa, sc, kv, ev, rfl, hA, hg⟩
  · have h2 := h.symm.trans hau
    cases h2
theorem build_none (hc : closedOK ts ns lv st n L R V) (h : autoF (GG tn n L R) (tn + nn) 256 = none) (X : World) (hX : w.grownBy X none) : Calls Tryz.prog 32 #[.agg #[.slice ta tn tc, .slice na nn nc, .slice la ln lc, .int .i64 st, .slice pa n pc]] X fun e y => e = .returned (.tuple #[.agg #[.slice none 0 0, .int .i64 0, .int .i64 0], .int .i64 11]) ∧ X.grownBy y none := by
  refine (buildOk ta na la pa tc nc lc pc ts ns lv n L R ra rc V st X tn nn ln hlen (hG.kept hX) hc).mono ?_
  rintro e y (⟨ks', es', sa, sc, kv, ev, hau, rfl, hA, hg⟩ | ⟨hau, rfl, hg⟩)
  · have h2 := h.symm.trans hau
    cases h2
  · exact ⟨rfl, hg⟩
end

end Go.Proofs.YtfcholpleeiddaaGreat.J

/-
  trans: automatonOf.
-/
namespace Go.Proofs.YtfcholpleeiddaaGreat.J
open Go.RowKit Go.Maps Go.Shelf

attribute [local go_sem] Oper.semAt_some

theorem set7_heap {w : World} {g : Nat} {t : TypeId} {a0 a1 a2 a3 a4 a5 a6 : Value} (h : w.heap[g]? = some (.cells #[a0, a1, a2, a3, a4, a5, a6] t (0, 0))) (v0 v1 v2 v3 v4 v5 v6 : Value) :
    (((((((w.setCell ⟨g, 0, none⟩ v0).setCell ⟨g, 1, none⟩ v1).setCell ⟨g, 2, none⟩ v2).setCell ⟨g, 3, none⟩ v3).setCell ⟨g, 4, none⟩ v4).setCell ⟨g, 5, none⟩ v5).setCell ⟨g, 6, none⟩ v6).heap[g]? = some (.cells #[v0, v1, v2, v3, v4, v5, v6] t (0, 0)) := by
  have h0 : (w.setCell ⟨g, 0, none⟩ v0).heap[g]? = some (.cells #[v0, a1, a2, a3, a4, a5, a6] t (0, 0)) := heap_setCell_same _ g 0 _ _ v0 h
  have h1 : ((w.setCell ⟨g, 0, none⟩ v0).setCell ⟨g, 1, none⟩ v1).heap[g]? = some (.cells #[v0, v1, a2, a3, a4, a5, a6] t (0, 0)) := heap_setCell_same _ g 1 _ _ v1 h0
  have h2 : (((w.setCell ⟨g, 0, none⟩ v0).setCell ⟨g, 1, none⟩ v1).setCell ⟨g, 2, none⟩ v2).heap[g]? = some (.cells #[v0, v1, v2, a3, a4, a5, a6] t (0, 0)) := heap_setCell_same _ g 2 _ _ v2 h1
  have h3 : ((((w.setCell ⟨g, 0, none⟩ v0).setCell ⟨g, 1, none⟩ v1).setCell ⟨g, 2, none⟩ v2).setCell ⟨g, 3, none⟩ v3).heap[g]? = some (.cells #[v0, v1, v2, v3, a4, a5, a6] t (0, 0)) := heap_setCell_same _ g 3 _ _ v3 h2
  have h4 : (((((w.setCell ⟨g, 0, none⟩ v0).setCell ⟨g, 1, none⟩ v1).setCell ⟨g, 2, none⟩ v2).setCell ⟨g, 3, none⟩ v3).setCell ⟨g, 4, none⟩ v4).heap[g]? = some (.cells #[v0, v1, v2, v3, v4, a5, a6] t (0, 0)) := heap_setCell_same _ g 4 _ _ v4 h3
  have h5 : ((((((w.setCell ⟨g, 0, none⟩ v0).setCell ⟨g, 1, none⟩ v1).setCell ⟨g, 2, none⟩ v2).setCell ⟨g, 3, none⟩ v3).setCell ⟨g, 4, none⟩ v4).setCell ⟨g, 5, none⟩ v5).heap[g]? = some (.cells #[v0, v1, v2, v3, v4, v5, a6] t (0, 0)) := heap_setCell_same _ g 5 _ _ v5 h4
  have h6 : (((((((w.setCell ⟨g, 0, none⟩ v0).setCell ⟨g, 1, none⟩ v1).setCell ⟨g, 2, none⟩ v2).setCell ⟨g, 3, none⟩ v3).setCell ⟨g, 4, none⟩ v4).setCell ⟨g, 5, none⟩ v5).setCell ⟨g, 6, none⟩ v6).heap[g]? = some (.cells #[v0, v1, v2, v3, v4, v5, v6] t (0, 0)) := heap_setCell_same _ g 6 _ _ v6 h5
  exact h6
theorem set7_grown (w : World) (g : Nat) (v0 v1 v2 v3 v4 v5 v6 : Value) :
    w.grownBy (((((((w.setCell ⟨g, 0, none⟩ v0).setCell ⟨g, 1, none⟩ v1).setCell ⟨g, 2, none⟩ v2).setCell ⟨g, 3, none⟩ v3).setCell ⟨g, 4, none⟩ v4).setCell ⟨g, 5, none⟩ v5).setCell ⟨g, 6, none⟩ v6) (some g) :=
  grown_trans (grown_trans (grown_trans (grown_trans (grown_trans (grown_trans (grown_setCell _ _ _) (grown_setCell _ _ _)) (grown_setCell _ _ _)) (grown_setCell _ _ _)) (grown_setCell _ _ _)) (grown_setCell _ _ _)) (grown_setCell _ _ _)
theorem results_of (tmps : Array Value) (w : World) (g : Nat) (cs : Array Value) (x : Value) (h2 : tmps.getD 2 undef = .pointer (some ⟨g, 0, none⟩)) (h3 : tmps.getD 3 undef = x) (hg : w.heap[g]? = some (.cells cs 56 (0, 0))) (hs : cs.size = 7) :
    (results Tryz.f17 tmps).run Tryz.prog w = .ok (.tuple #[.agg cs, x]) w := by
  have h2' : tmps[2]?.getD undef = .pointer (some ⟨g, 0, none⟩) := by simpa using h2
  have h3' : tmps[3]?.getD undef = x := by simpa using h3
  have hl := run_loadVar_row (P := Tryz.prog) w g 56 56 cs (0, 0) _ hg Tryz.underlying56 rfl (by rw [hs]; kernel_rfl)
  simp [results, Tryz.results17, h2', h3', asAddr, hl]

section
variable (ta na la pa : Option Addr) (tc nc lc pc : Nat) (n : Nat) (st : Int) (w : World) (tn nn ln : Nat)

set_option maxRecDepth 100000 in
set_option maxHeartbeats 2000000 in
theorem of_bad (ec : Int) (hec : ec = 1 ∨ ec = 11)
    (hBU : ∀ X, w.grownBy X none → Calls Tryz.prog 32 #[.agg #[.slice ta tn tc, .slice na nn nc, .slice la ln lc, .int .i64 st, .slice pa n pc]] X fun e y => e = .returned (.tuple #[.agg #[.slice none 0 0, .int .i64 0, .int .i64 0], .int .i64 ec]) ∧ X.grownBy y none) :
    Calls Tryz.prog 17 #[.agg #[.slice ta tn tc, .slice na nn nc, .slice la ln lc, .int .i64 st, .slice pa n pc]] w fun e y => e = .returned (.tuple #[.agg #[.slice none 0 0, .slice none 0 0, .slice none 0 0, .int .i64 0, .slice none 0 0, .slice none 0 0, .map none], .int .i64 ec]) ∧ w.grownBy y none := by
  have HBU := show Hid _ from hBU
  have HX0 : Hid (w.grownBy ((w.alloc (.cells #[.slice ta tn tc, .slice na nn nc, .slice la ln lc, .int .i64 st, .slice pa n pc] 27)).alloc (.cells #[.slice none 0 0, .slice none 0 0, .slice none 0 0, .int .i64 0, .slice none 0 0, .slice none 0 0, .map none] 56)) none) := grown_trans (World.grownBy_alloc _ _ none) (World.grownBy_alloc _ _ none)
  have HB0 : Hid (((w.alloc (.cells #[.slice ta tn tc, .slice na nn nc, .slice la ln lc, .int .i64 st, .slice pa n pc] 27)).alloc (.cells #[.slice none 0 0, .slice none 0 0, .slice none 0 0, .int .i64 0, .slice none 0 0, .slice none 0 0, .map none] 56)).heap[w.heap.size + 1]? = some (.cells #[.slice none 0 0, .slice none 0 0, .slice none 0 0, .int .i64 0, .slice none 0 0, .slice none 0 0, .map none] 56 (0, 0))) := by
    have h := heap_alloc_last (w.alloc (.cells #[.slice ta tn tc, .slice na nn nc, .slice la ln lc, .int .i64 st, .slice pa n pc] 27)) (.cells #[.slice none 0 0, .slice none 0 0, .slice none 0 0, .int .i64 0, .slice none 0 0, .slice none 0 0, .map none] 56)
    rw [World.size_alloc] at h; exact h
  have hne : (ec != 0) = true := bne_iff_ne.2 (by omega)
  clear hBU hec
  go_enter Tryz.func17, Tryz.ntmps17
  go_wp2_with fail
  refine Calls.mono (HBU.out _ HX0.out) ?_
  rintro e w1 ⟨rfl, hg1⟩
  have HB1 : Hid ((w1.alloc (.cells #[.slice none 0 0, .int .i64 0, .int .i64 0] 49)).heap[w.heap.size + 1]? = some (.cells #[.slice none 0 0, .slice none 0 0, .slice none 0 0, .int .i64 0, .slice none 0 0, .slice none 0 0, .map none] 56 (0, 0))) := box_kept HB0.out (grown_trans hg1 (World.grownBy_alloc _ _ none))
  have HG1 : Hid (w.grownBy (w1.alloc (.cells #[.slice none 0 0, .int .i64 0, .int .i64 0] 49)) none) := grown_trans HX0.out (grown_trans hg1 (World.grownBy_alloc _ _ none))
  clear hg1 HB0 HX0
  obtain ⟨k0, k1, k2, k3, k4, k5, k6⟩ : _ ∧ _ ∧ _ ∧ _ ∧ _ ∧ _ ∧ _ := ⟨cell_of_row _ (w.heap.size + 1) 0 _ _ _ HB1.out, cell_of_row _ (w.heap.size + 1) 1 _ _ _ HB1.out, cell_of_row _ (w.heap.size + 1) 2 _ _ _ HB1.out, cell_of_row _ (w.heap.size + 1) 3 _ _ _ HB1.out, cell_of_row _ (w.heap.size + 1) 4 _ _ _ HB1.out, cell_of_row _ (w.heap.size + 1) 5 _ _ _ HB1.out, cell_of_row _ (w.heap.size + 1) 6 _ _ _ HB1.out⟩
  have kf := fun j => frozen_of_row _ (w.heap.size + 1) j _ _ HB1.out
  simp only [List.getElem?_toArray, List.getElem?_cons_zero, List.getElem?_cons_succ] at k0 k1 k2 k3 k4 k5 k6
  go_wp2_with fail
  refine bodyPost_ret (v := .tuple #[.agg #[.slice none 0 0, .slice none 0 0, .slice none 0 0, .int .i64 0, .slice none 0 0, .slice none 0 0, .map none], .int .i64 ec]) ?_ rfl ?_
  · exact results_of _ _ (w.heap.size + 1) _ _ rfl rfl (set7_heap HB1.out _ _ _ _ _ _ _) rfl
  · exact ⟨rfl, grown_new HG1.out (set7_grown _ _ _ _ _ _ _ _ _) (by omega)⟩
end

end Go.Proofs.YtfcholpleeiddaaGreat.J
