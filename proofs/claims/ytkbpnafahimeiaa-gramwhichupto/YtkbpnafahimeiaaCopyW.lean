/-
  Copy of any grammar: the same in new memory.
-/
import Derived.Test.YtkbpnafahimeiaaClosedR
import Derived.Test.YtkbpnafahimeiaaGrammarTold
import Derived.Test.YtkbpnafahimeiaaSameAny
namespace Go.Proofs.Ytkbpnafahimeiaa
open Go.RowKit Go.Maps Go.Shelf

theorem copiedTerm_any (a : Option Addr) (n cap : Nat) (xs : List Value) (w : World) (hl : xs.length = n * 2) (hnil : a = none → n = 0 ∧ cap = 0) (hc : ∀ x, a = some x → ∀ j u, xs[j]? = some u → w.cell? (x.add j) = some u) (h1 : ∀ u ∈ xs, u.oneCell' = true) (hb : n * 24 ≤ 140737488355328) :
    Calls Try.prog 32 #[.slice a n cap] w fun e w' => ∃ a' c', e = .returned (.slice a' n c') ∧ w'.ownsRow w.heap.size 74 2 (.slice a' n c') n xs ∧ w.grownBy w' none := by
  obtain ⟨i0, hi, hz0, hz1, hz2⟩ := info_parts infoTerm
  cases a with
  | none =>
    obtain ⟨rfl, rfl⟩ := hnil rfl
    have hx : xs = [] := List.eq_nil_of_length_eq_zero (by simpa using hl)
    subst hx
    clear hnil hc hl h1 hb
    go_enter Try.func32, Try.ntmps32
    go_wp2_with (at_builtin; refine wpList_append_own_none rfl _ _ 28 rfl w.heap.size 74 i0 2 Try.underlying28 hi (.slice none 0 0) 0 [] rfl (World.ownsRow_nil _ _ _ _) rfl ?_)
    go_ret
    exact ⟨none, 0, rfl, World.ownsRow_nil _ _ _ _, grown_refl _ _⟩
  | some x =>
    have HN : Hid (∀ j u, xs[j]? = some u → w.cell? (x.add j) = some u) := hc x rfl
    have H1 : Hid (∀ u ∈ xs, u.oneCell' = true) := h1
    clear hc hnil h1
    go_enter Try.func32, Try.ntmps32
    go_wp2_with (at_builtin; refine wpList_append_own _ rfl _ _ 28 rfl w.heap.size 74 i0 (.agg #[.string ByteArray.empty, .int .i64 0]) 2 24 Try.underlying28 hi hz0 hz1 hz2 rfl (by decide) (.slice none 0 0) 0 [] rfl (World.ownsRow_nil _ _ _ _) x n cap xs rfl hl HN.out H1.out (by unfold maxLen; omega) (by omega) (Nat.le_refl _) ?_; intro v' w1 hown hg _)
    go_ret
    have hown' : w1.ownsRow w.heap.size 74 2 v' n xs := by simpa using hown
    obtain ⟨a', c', hv⟩ := owns_slice hown'
    have hg' : w.grownBy w1 none := hg
    rw [hv] at hown'
    exact ⟨a', c', by rw [← hv]; rfl, hown', hg'⟩

theorem copiedStr_any (a : Option Addr) (n cap : Nat) (xs : List Value) (w : World) (hl : xs.length = n * 1) (hnil : a = none → n = 0 ∧ cap = 0) (hc : ∀ x, a = some x → ∀ j u, xs[j]? = some u → w.cell? (x.add j) = some u) (h1 : ∀ u ∈ xs, u.oneCell' = true) (hb : n * 16 ≤ 140737488355328) :
    Calls Try.prog 33 #[.slice a n cap] w fun e w' => ∃ a' c', e = .returned (.slice a' n c') ∧ w'.ownsRow w.heap.size 9 1 (.slice a' n c') n xs ∧ w.grownBy w' none := by
  obtain ⟨i0, hi, hz0, hz1, hz2⟩ := info_parts infoStr
  cases a with
  | none =>
    obtain ⟨rfl, rfl⟩ := hnil rfl
    have hx : xs = [] := List.eq_nil_of_length_eq_zero (by simpa using hl)
    subst hx
    clear hnil hc hl h1 hb
    go_enter Try.func33, Try.ntmps33
    go_wp2_with (at_builtin; refine wpList_append_own_none rfl _ _ 29 rfl w.heap.size 9 i0 1 Try.underlying29 hi (.slice none 0 0) 0 [] rfl (World.ownsRow_nil _ _ _ _) rfl ?_)
    go_ret
    exact ⟨none, 0, rfl, World.ownsRow_nil _ _ _ _, grown_refl _ _⟩
  | some x =>
    have HN : Hid (∀ j u, xs[j]? = some u → w.cell? (x.add j) = some u) := hc x rfl
    have H1 : Hid (∀ u ∈ xs, u.oneCell' = true) := h1
    clear hc hnil h1
    go_enter Try.func33, Try.ntmps33
    go_wp2_with (at_builtin; refine wpList_append_own _ rfl _ _ 29 rfl w.heap.size 9 i0 (.string ByteArray.empty) 1 16 Try.underlying29 hi hz0 hz1 hz2 rfl (by decide) (.slice none 0 0) 0 [] rfl (World.ownsRow_nil _ _ _ _) x n cap xs rfl hl HN.out H1.out (by unfold maxLen; omega) (by omega) (Nat.le_refl _) ?_; intro v' w1 hown hg _)
    go_ret
    have hown' : w1.ownsRow w.heap.size 9 1 v' n xs := by simpa using hown
    obtain ⟨a', c', hv⟩ := owns_slice hown'
    have hg' : w.grownBy w1 none := hg
    rw [hv] at hown'
    exact ⟨a', c', by rw [← hv]; rfl, hown', hg'⟩

set_option maxRecDepth 100000 in
theorem copiedProds_none (a : Option Addr) (cap : Nat) (w : World) (hnil : a = none → cap = 0) :
    Calls Try.prog 35 #[.slice a 0 cap] w fun e w' => ∃ a' c', e = .returned (.slice a' 0 c') ∧ w'.ownsRow w.heap.size 52 3 (.slice a' 0 c') 0 [] ∧ w.grownBy w' none := by
  have hcp := show Hid _ from copiedProd_any a 0 cap [] w rfl (fun h => ⟨rfl, hnil h⟩) (fun x _ j u hu => by simp at hu) (fun u hu => by cases hu) (by omega)
  clear hnil
  go_enter Try.func35, Try.ntmps35
  go_wp2_with fail
  refine Calls.mono hcp.out ?_
  rintro e w1 ⟨a', c', rfl, hown, hg⟩
  have HO : Hid (w1.ownsRow w.heap.size 52 3 (.slice a' 0 c') 0 []) := hown
  have HG : Hid (w.grownBy w1 none) := hg
  clear hown hg hcp
  go_wp2_with fail
  refine wp_loop_rounds 1 ?_
  rw [rounds_succ]
  go_wp2_with fail
  go_ret
  exact ⟨a', c', rfl, HO.out, HG.out⟩

theorem tms_cells_len : ∀ ts : List (ByteArray × Int), (tmsL ts).length = ts.length * 2
  | [] => rfl
  | t :: ts => by
    have := tms_cells_len ts
    simp only [tmsL, List.flatMap_cons, List.length_append, List.length_cons] at this ⊢
    simp [tmL] at this ⊢
    omega

theorem terms_cells {w : World} {ta : Option Addr} {ts : List (ByteArray × Int)} (h : TermsAt w ta ts) : ∀ x, ta = some x → ∀ j u, (tmsL ts)[j]? = some u → w.cell? (x.add j) = some u := by
  intro x hx j u hu
  rcases h with h | ⟨b, off, e, hc⟩
  · rw [h] at hu; simp [tmsL] at hu
  · rw [hx] at e
    simp only [Option.some.injEq] at e
    subst e
    rw [Addr.add_mid]
    have hj : j < ts.length * 2 := by
      have := (List.getElem?_eq_some_iff.1 hu).1
      have e := tms_cells_len ts
      omega
    obtain ⟨h1, h2⟩ := hc (j / 2) (by omega)
    obtain ⟨k1, k2⟩ := tmsL_at ts (j / 2) (by omega)
    have hr : j % 2 = 0 ∨ j % 2 = 1 := by omega
    rcases hr with hr | hr
    · have e : j = j / 2 * 2 := by omega
      rw [e, k1] at hu
      rw [e, h1]
      exact hu
    · have e : j = j / 2 * 2 + 1 := by omega
      rw [e, k2] at hu
      rw [e, ← Nat.add_assoc, h2]
      exact hu
theorem strs_cells {w : World} {na : Option Addr} {ns : List ByteArray} (h : StrsAt w na ns) : ∀ x, na = some x → ∀ j u, (ns.map Value.string)[j]? = some u → w.cell? (x.add j) = some u := by
  intro x hx j u hu
  rcases h with h | ⟨b, off, e, hc⟩
  · rw [h] at hu; simp at hu
  · rw [hx] at e
    simp only [Option.some.injEq] at e
    subst e
    rw [Addr.add_mid]
    have hj : j < ns.length := by have := (List.getElem?_eq_some_iff.1 hu).1; simpa using this
    rw [hc j hj]
    simp [hj] at hu
    simp [List.getD, hj, hu]
theorem tms_one (ts : List (ByteArray × Int)) : ∀ u ∈ tmsL ts, u.oneCell' = true := by
  intro u hu
  simp only [tmsL, List.mem_flatMap] at hu
  obtain ⟨t, _, hu⟩ := hu
  simp [tmL] at hu
  rcases hu with rfl | rfl <;> rfl
theorem strs_one (ns : List ByteArray) : ∀ u ∈ ns.map Value.string, u.oneCell' = true := by
  intro u hu
  obtain ⟨t, _, rfl⟩ := List.mem_map.1 hu
  rfl

/-- A grammar out of its lists. -/
def grOf (ts : List (ByteArray × Int)) (ns : List ByteArray) (lv : List Int) (st : Int) (n : Nat) (L : Nat → Int) (R : Nat → List Int) (V : Nat → Int) : GR := ⟨ts, ns, lv, st, (List.range n).map fun i => ⟨L i, R i, V i⟩⟩
theorem grOf_len (ts : List (ByteArray × Int)) (ns : List ByteArray) (lv : List Int) (st : Int) (n : Nat) (L : Nat → Int) (R : Nat → List Int) (V : Nat → Int) : (grOf ts ns lv st n L R V).prods.length = n := by simp [grOf]
theorem grOf_at (ts : List (ByteArray × Int)) (ns : List ByteArray) (lv : List Int) (st : Int) (n : Nat) (L : Nat → Int) (R : Nat → List Int) (V : Nat → Int) {i : Nat} (hi : i < n) : (grOf ts ns lv st n L R V).prods.getD i ⟨0, [], 0⟩ = ⟨L i, R i, V i⟩ := by simp [grOf, List.getD, hi]

/-- Copied productions, in their own memory. -/
structure CNew (W : World) (B : Nat) (v : Value) (n : Nat) (L : Nat → Int) (R : Nat → List Int) (V : Nat → Int) (rg : Nat → Value) : Prop where
  row : W.ownsRow B 52 3 v n (prodRow n L rg V)
  rights : ∀ i, i < n → W.ownsRow B 3 1 (rg i) (R i).length ((R i).map (Value.int .i64))
theorem keepC {W W' : World} {B : Nat} {v : Value} {n : Nat} {L : Nat → Int} {R : Nat → List Int} {V : Nat → Int} {rg : Nat → Value} (h : CNew W B v n L R V rg) (hg : W.grownBy W' none) : Hid (CNew W' B v n L R V rg) :=
  ⟨h.row.kept hg (by cases hv : v.ownBlock <;> simp), fun i hi => (h.rights i hi).kept hg (by cases hv : (rg i).ownBlock <;> simp)⟩

theorem copiedProds_new (a : Option Addr) (n cap : Nat) (L : Nat → Int) (R : Nat → List Int) (ra : Nat → Option Addr) (rc : Nat → Nat) (V : Nat → Int) (w : World) (B : Nat) (hB : B ≤ w.heap.size) (hP : ProdsAt w a n L R ra rc V) (hnil : a = none → n = 0 ∧ cap = 0) (hb : n * 40 ≤ 140737488355328) :
    Calls Try.prog 35 #[.slice a n cap] w fun e w' => ∃ a' c' rg, e = .returned (.slice a' n c') ∧ Hid (CNew w' B (.slice a' n c') n L R V rg) ∧ w.grownBy w' none := by
  by_cases h0 : n = 0
  · subst h0
    refine (copiedProds_none a cap w (fun h => (hnil h).2)).mono ?_
    rintro e w' ⟨a', c', rfl, ho, hg⟩
    exact ⟨a', c', fun _ => undef, rfl, ⟨owns_lower ho hB, fun i hi => absurd hi (Nat.not_lt_zero i)⟩, hg⟩
  · obtain ⟨b, off, rfl⟩ : ∃ b off, a = some ⟨b, off, none⟩ := by
      rcases hP with h | ⟨b, off, e, _⟩
      · exact absurd h h0
      · exact ⟨b, off, e⟩
    refine (copiedProds_some b off n cap L R ra rc V w hP (by omega) hb).mono ?_
    rintro e w' ⟨g, c, rg, rfl, hn⟩
    exact ⟨_, c, rg, rfl, ⟨owns_lower hn.row hB, fun i hi => owns_lower (hn.rights i hi) hB⟩, hn.grown⟩

theorem results_copy (tmps : Array Value) (w : World) (g : Nat) (cs : Array Value) (h2 : tmps.getD 2 undef = .pointer (some ⟨g, 0, none⟩)) (hg : w.heap[g]? = some (.cells cs 42 (0, 0))) (hs : cs.size = 5) :
    (results Try.f13 tmps).run Try.prog w = .ok (.agg cs) w := by
  have h2' : tmps[2]?.getD undef = .pointer (some ⟨g, 0, none⟩) := by simpa using h2
  have hl := run_loadVar_row (P := Try.prog) w g 42 42 cs (0, 0) _ hg Try.underlying42 rfl (by rw [infoG, hs])
  simp [results, Try.results13, h2', asAddr, hl]

theorem copy_fin {W W' : World} {B k n : Nat} {ts : List (ByteArray × Int)} {ns : List ByteArray} {lv : List Int} {st : Int} {L : Nat → Int} {R : Nat → List Int} {V : Nat → Int} {vt vn vl vp : Value} {rg : Nat → Value} (hB : B ≤ k)
    (hT : W.ownsRow (k + 1) 74 2 vt ts.length (tmsL ts)) (hN : W.ownsRow (k + 1) 9 1 vn ns.length (ns.map Value.string)) (hL : W.ownsRow (k + 1) 3 1 vl lv.length (lv.map (Value.int .i64))) (hP : CNew W (k + 1) vp n L R V rg) (hst : W.grownBy W' (some k)) :
    GramNew W' B (grOf ts ns lv st n L R V) vt vn vl vp := by
  refine ⟨owns_off hT hst hB, owns_off hN hst hB, owns_off hL hst hB, rg, ?_, fun i hi => ?_⟩
  · rw [grOf_len]
    have e := prodRow_ext (n := n) (L := L) (L' := fun i => ((grOf ts ns lv st n L R V).prods.getD i ⟨0, [], 0⟩).left) (r := rg) (r' := rg) (V := V) (V' := fun i => ((grOf ts ns lv st n L R V).prods.getD i ⟨0, [], 0⟩).level) (fun i hi => by rw [grOf_at _ _ _ _ _ _ _ _ hi]) (fun _ _ => rfl) (fun i hi => by rw [grOf_at _ _ _ _ _ _ _ _ hi])
    rw [← e]
    exact owns_off hP.row hst hB
  · rw [grOf_len] at hi
    rw [grOf_at _ _ _ _ _ _ _ _ hi]
    exact owns_off (hP.rights i hi) hst hB

set_option maxRecDepth 100000 in
set_option maxHeartbeats 8000000 in
theorem copy_core (ta na la pa : Option Addr) (tn nn ln n tc nc lc pc : Nat) (st : Int) (ts : List (ByteArray × Int)) (ns : List ByteArray) (lv : List Int) (L : Nat → Int) (R : Nat → List Int) (V : Nat → Int) (w W : World) (gb : Nat) (hgb : gb = w.heap.size)
    (hW : W = (w.alloc (.cells #[.slice ta tn tc, .slice na nn nc, .slice la ln lc, .int .i64 st, .slice pa n pc] 42)).alloc (.cells #[.slice none 0 0, .slice none 0 0, .slice none 0 0, .int .i64 0, .slice none 0 0] 42)) (hlen : ts.length = tn ∧ ns.length = nn ∧ lv.length = ln)
    (hT : ∀ X, W.grownBy X none → Calls Try.prog 32 #[.slice ta tn tc] X fun e w' => ∃ a' c', e = .returned (.slice a' tn c') ∧ Hid (w'.ownsRow (gb + 1 + 1) 74 2 (.slice a' tn c') tn (tmsL ts)) ∧ X.grownBy w' none)
    (hN : ∀ X, W.grownBy X none → Calls Try.prog 33 #[.slice na nn nc] X fun e w' => ∃ a' c', e = .returned (.slice a' nn c') ∧ Hid (w'.ownsRow (gb + 1 + 1) 9 1 (.slice a' nn c') nn (ns.map Value.string)) ∧ X.grownBy w' none)
    (hL : ∀ X, W.grownBy X none → Calls Try.prog 34 #[.slice la ln lc] X fun e w' => ∃ a' c', e = .returned (.slice a' ln c') ∧ Hid (w'.ownsRow (gb + 1 + 1) 3 1 (.slice a' ln c') ln (lv.map (Value.int .i64))) ∧ X.grownBy w' none)
    (hP : ∀ X, W.grownBy X none → Calls Try.prog 35 #[.slice pa n pc] X fun e w' => ∃ a' c' rg, e = .returned (.slice a' n c') ∧ Hid (CNew w' (gb + 1 + 1) (.slice a' n c') n L R V rg) ∧ X.grownBy w' none) :
    Calls Try.prog 13 #[.agg #[.slice ta tn tc, .slice na nn nc, .slice la ln lc, .int .i64 st, .slice pa n pc]] w fun e w' => ∃ vt vn vl vp, e = .returned (.agg #[vt, vn, vl, .int .i64 st, vp]) ∧ GramNew w' w.heap.size (grOf ts ns lv st n L R V) vt vn vl vp ∧ w.grownBy w' none := by
  have HT0 := show Hid _ from hT
  have HN0 := show Hid _ from hN
  have HL0 := show Hid _ from hL
  have HP0 := show Hid _ from hP
  have HW := show Hid _ from hW
  have HLN : Hid (ts.length = tn ∧ ns.length = nn ∧ lv.length = ln) := hlen
  have hgW : w.grownBy W none := by rw [hW]; exact grown_trans (World.grownBy_alloc _ _ none) (World.grownBy_alloc _ _ none)
  have HGW : Hid (w.grownBy W none) := hgW
  have HGB : Hid (gb = w.heap.size) := hgb
  have hb0 : W.heap[gb]? = some (.cells #[.slice ta tn tc, .slice na nn nc, .slice la ln lc, .int .i64 st, .slice pa n pc] 42 (0, 0)) := by
    rw [hW, hgb]
    exact ((World.grownBy_alloc (w.alloc _) _ none).block _ (by simp) (by simp)).trans (heap_alloc_last w _)
  have hb1 : W.heap[gb + 1]? = some (.cells #[.slice none 0 0, .slice none 0 0, .slice none 0 0, .int .i64 0, .slice none 0 0] 42 (0, 0)) := by
    rw [hW, hgb]
    have := heap_alloc_last (w.alloc (.cells #[.slice ta tn tc, .slice na nn nc, .slice la ln lc, .int .i64 st, .slice pa n pc] 42)) (.cells #[.slice none 0 0, .slice none 0 0, .slice none 0 0, .int .i64 0, .slice none 0 0] 42)
    simpa using this
  have HKP : Hid (∀ w', W.grownBy w' none → w'.cell? ⟨gb, 0, none⟩ = some (.slice ta tn tc) ∧ w'.cell? ⟨gb, 1, none⟩ = some (.slice na nn nc) ∧ w'.cell? ⟨gb, 2, none⟩ = some (.slice la ln lc) ∧ w'.cell? ⟨gb, 3, none⟩ = some (.int .i64 st) ∧ w'.cell? ⟨gb, 4, none⟩ = some (.slice pa n pc) ∧ w'.cell? ⟨gb + 1, 0, none⟩ = some (.slice none 0 0) ∧ w'.cell? ⟨gb + 1, 1, none⟩ = some (.slice none 0 0) ∧ w'.cell? ⟨gb + 1, 2, none⟩ = some (.slice none 0 0) ∧ w'.cell? ⟨gb + 1, 3, none⟩ = some (.int .i64 0) ∧ w'.cell? ⟨gb + 1, 4, none⟩ = some (.slice none 0 0) ∧ (∀ j, w'.frozen? ⟨gb + 1, j, none⟩ = false)) := fun w' h => by
    have k0 := (h.block gb (Array.getElem?_eq_some_iff.1 hb0).1 (by simp)).trans hb0
    have k1 := (h.block (gb + 1) (Array.getElem?_eq_some_iff.1 hb1).1 (by simp)).trans hb1
    refine ⟨?_, ?_, ?_, ?_, ?_, ?_, ?_, ?_, ?_, ?_, fun j => frozen_of_row _ _ _ _ _ k1⟩
    all_goals first | (rw [cell_of_row _ _ _ _ _ _ k0]; rfl) | (rw [cell_of_row _ _ _ _ _ _ k1]; rfl)
  have HKQ : Hid (∀ w', W.grownBy w' none → w'.cell? ⟨gb, 0, none⟩ = some (.slice ta tn tc) ∧ w'.cell? ⟨gb, 1, none⟩ = some (.slice na nn nc) ∧ w'.cell? ⟨gb, 2, none⟩ = some (.slice la ln lc) ∧ w'.cell? ⟨gb, 3, none⟩ = some (.int .i64 st) ∧ w'.cell? ⟨gb, 4, none⟩ = some (.slice pa n pc)) := fun w' h => by
    obtain ⟨q0, q1, q2, q3, q4, _⟩ := HKP.out w' h
    exact ⟨q0, q1, q2, q3, q4⟩
  have HB1 : Hid (∀ w', W.grownBy w' none → w'.heap[gb + 1]? = some (.cells #[.slice none 0 0, .slice none 0 0, .slice none 0 0, .int .i64 0, .slice none 0 0] 42 (0, 0))) := fun w' h => (h.block (gb + 1) (Array.getElem?_eq_some_iff.1 hb1).1 (by simp)).trans hb1
  have HGc : Hid (W.grownBy W.drew none) := grown_drewN W 1
  obtain ⟨s0, s1, s2, s3, s4, r0, r1, r2, r3, r4, rf⟩ := HKP.out W (grown_refl _ _)
  clear hT hN hL hP hW hlen hgW hgb hb0 hb1
  go_enter Try.func13, Try.ntmps13
  go_wp2_with fail
  rw [← HW.out, ← HGB.out]
  go_region_held3 (fun w' => w'.cell? ⟨gb, 0, none⟩ = some (.slice ta tn tc) ∧ w'.cell? ⟨gb, 1, none⟩ = some (.slice na nn nc) ∧ w'.cell? ⟨gb, 2, none⟩ = some (.slice la ln lc) ∧ w'.cell? ⟨gb, 3, none⟩ = some (.int .i64 st) ∧ w'.cell? ⟨gb, 4, none⟩ = some (.slice pa n pc)) (first | go_keep | exact HKQ.out _ HGc.out)
    ((first
      | (go_at_call 32; refine Calls.mono (HT0.out _ HGc.out) ?_; rintro e w1 ⟨aT, cT, rfl, HT, hg1⟩; have HGc : Hid (W.grownBy w1 none) := grown_trans HGc.out hg1; obtain ⟨r0, r1, r2, r3, r4, rf⟩ := (HKP.out w1 HGc.out).2.2.2.2.2; (try have HN := keepR HN.out hg1); (try have HL := keepR HL.out hg1); (try have HP := keepC HP.out hg1))
      | (go_at_call 33; refine Calls.mono (HN0.out _ HGc.out) ?_; rintro e w1 ⟨aN, cN, rfl, HN, hg1⟩; have HGc : Hid (W.grownBy w1 none) := grown_trans HGc.out hg1; obtain ⟨r0, r1, r2, r3, r4, rf⟩ := (HKP.out w1 HGc.out).2.2.2.2.2; (try have HT := keepR HT.out hg1); (try have HL := keepR HL.out hg1); (try have HP := keepC HP.out hg1))
      | (go_at_call 34; refine Calls.mono (HL0.out _ HGc.out) ?_; rintro e w1 ⟨aL, cL, rfl, HL, hg1⟩; have HGc : Hid (W.grownBy w1 none) := grown_trans HGc.out hg1; obtain ⟨r0, r1, r2, r3, r4, rf⟩ := (HKP.out w1 HGc.out).2.2.2.2.2; (try have HT := keepR HT.out hg1); (try have HN := keepR HN.out hg1); (try have HP := keepC HP.out hg1))
      | (go_at_call 35; refine Calls.mono (HP0.out _ HGc.out) ?_; rintro e w1 ⟨aP, cP, rgP, rfl, HP, hg1⟩; have HGc : Hid (W.grownBy w1 none) := grown_trans HGc.out hg1; obtain ⟨r0, r1, r2, r3, r4, rf⟩ := (HKP.out w1 HGc.out).2.2.2.2.2; (try have HT := keepR HT.out hg1); (try have HN := keepR HN.out hg1); (try have HL := keepR HL.out hg1))))
  all_goals go_wp2_with fail
  all_goals
    have hst := set5_grown w1 (gb + 1) (.slice aT tn cT) (.slice aN nn cN) (.slice aL ln cL) (.int .i64 st) (.slice aP n cP)
    have hF3 := set5_heap (HB1.out w1 HGc.out) (.slice aT tn cT) (.slice aN nn cN) (.slice aL ln cL) (.int .i64 st) (.slice aP n cP)
    refine bodyPost_ret (v := .agg #[.slice aT tn cT, .slice aN nn cN, .slice aL ln cL, .int .i64 st, .slice aP n cP]) ?_ rfl ?_
    · exact results_copy _ _ (gb + 1) _ rfl hF3 rfl
    · have hT' := HT.out
      have hN' := HN.out
      have hL' := HL.out
      rw [← HLN.out.1] at hT' ⊢
      rw [← HLN.out.2.1] at hN' ⊢
      rw [← HLN.out.2.2] at hL' ⊢
      exact ⟨_, _, _, _, rfl, copy_fin (by rw [HGB.out]; omega) hT' hN' hL' HP.out (by rw [← HLN.out.1, ← HLN.out.2.1, ← HLN.out.2.2] at hst; exact hst), grown_new (grown_trans HGW.out HGc.out) (by rw [← HLN.out.1, ← HLN.out.2.1, ← HLN.out.2.2] at hst; exact hst) (by rw [HGB.out]; omega)⟩

theorem copy_any (ta na la pa : Option Addr) (tc nc lc pc : Nat) (ts : List (ByteArray × Int)) (ns : List ByteArray) (lv : List Int) (n : Nat) (L : Nat → Int) (R : Nat → List Int) (ra : Nat → Option Addr) (rc : Nat → Nat) (V : Nat → Int) (st : Int) (w : World) (hG : GAt w ta na la pa tc nc lc pc ts ns lv n L R ra rc V) (hnt : ta = none → ts.length = 0 ∧ tc = 0) (hnl : la = none → lv.length = 0 ∧ lc = 0) (h1 : ts.length ≤ 4398046511104) (h2 : ns.length ≤ 4398046511104) (h4 : n ≤ 2199023255552) :
    Calls Try.prog 13 #[.agg #[.slice ta ts.length tc, .slice na ns.length nc, .slice la lv.length lc, .int .i64 st, .slice pa n pc]] w fun e w' => ∃ vt vn vl vp, e = .returned (.agg #[vt, vn, vl, .int .i64 st, vp]) ∧ GramNew w' w.heap.size (grOf ts ns lv st n L R V) vt vn vl vp ∧ w.grownBy w' none := by
  obtain ⟨W, hW⟩ : ∃ W, W = (w.alloc (.cells #[.slice ta ts.length tc, .slice na ns.length nc, .slice la lv.length lc, .int .i64 st, .slice pa n pc] 42)).alloc (.cells #[.slice none 0 0, .slice none 0 0, .slice none 0 0, .int .i64 0, .slice none 0 0] 42) := ⟨_, rfl⟩
  have hgW : w.grownBy W none := by rw [hW]; exact grown_trans (World.grownBy_alloc _ _ none) (World.grownBy_alloc _ _ none)
  have hz : W.heap.size = w.heap.size + 1 + 1 := by rw [hW]; simp
  refine copy_core ta na la pa ts.length ns.length lv.length n tc nc lc pc st ts ns lv L R V w W w.heap.size rfl hW ⟨rfl, rfl, rfl⟩ (fun X hX => ?_) (fun X hX => ?_) (fun X hX => ?_) (fun X hX => ?_)
  · have hg := hG.kept (grown_trans hgW hX)
    refine (copiedTerm_any ta ts.length tc (tmsL ts) X (tms_cells_len ts) hnt (terms_cells hg.terms) (tms_one ts) (by omega)).mono ?_
    rintro e w' ⟨a', c', rfl, ho, h⟩
    exact ⟨a', c', rfl, owns_hid ho (by have := hX.size; omega), h⟩
  · have hg := hG.kept (grown_trans hgW hX)
    refine (copiedStr_any na ns.length nc (ns.map Value.string) X (by simp) hG.nnil (strs_cells hg.nons) (strs_one ns) (by omega)).mono ?_
    rintro e w' ⟨a', c', rfl, ho, h⟩
    exact ⟨a', c', rfl, owns_hid ho (by have := hX.size; omega), h⟩
  · have hg := hG.kept (grown_trans hgW hX)
    refine (copiedInt_new la lc lv X hg.levels (fun h => (hnl h).2) hG.llen).mono ?_
    rintro e w' ⟨a', c', rfl, ho, h⟩
    exact ⟨a', c', rfl, owns_hid ho (by have := hX.size; omega), h⟩
  · have hg := hG.kept (grown_trans hgW hX)
    exact copiedProds_new pa n pc L R ra rc V X _ (by have := hX.size; omega) hg.prods hG.pnil (by omega)

end Go.Proofs.Ytkbpnafahimeiaa
