import Derived.Test.YtfcholpleeiddaaQncdjhaalajdo
import Derived.Test.YtfcholpleeiddaaQmbpabihmjlai
import Derived.Deep.AppendSrc
import Derived.Deep.RegionLaw
import Derived.Test.YtfcholpleeiddaaQafdceadoncbm

/-
  trans: the search of the law TransReached, pure.
-/
namespace Go.Proofs.Ytfcholpleeiddaa.J
open Go.RowKit Go.Maps Go.Shelf

/-- A kernel that leaving a state brought has an edge from it. -/
theorem leave_new {G : Nat → List It} {ks : List (List It)} : ∀ (s : Nat) {ks' : List (List It)} {ed : List (Nat × Nat)}, leaveF G ks s = some (ks', ed) → ∀ t, ks.length ≤ t → t < ks'.length → ∃ x ∈ ed, x.2 = t
  | 0, ks', ed, e, t, h1, h2 => by
    unfold leaveF at e
    cases e
    omega
  | s + 1, ks', ed, e, t, h1, h2 => by
    unfold leaveF at e
    cases h3 : leaveF G ks s with
    | none => rw [h3] at e; cases e
    | some q =>
      obtain ⟨k1, e1⟩ := q
      rw [h3] at e
      simp only at e
      by_cases hg : G s = []
      · rw [if_pos hg] at e
        cases e
        exact leave_new s h3 t h1 h2
      · rw [if_neg hg] at e
        cases h4 : askF k1 (G s) with
        | none => rw [h4] at e; cases e
        | some q2 =>
          obtain ⟨u, k2⟩ := q2
          rw [h4] at e
          cases e
          by_cases h5 : t < k1.length
          · obtain ⟨x, hx, h6⟩ := leave_new s h3 t h1 h5
            exact ⟨x, List.mem_append_left _ hx, h6⟩
          · refine ⟨(s, u), List.mem_append_right _ (List.mem_singleton.2 rfl), ?_⟩
            unfold askF at h4
            by_cases hk : G s ∈ k1
            · rw [if_pos hk] at h4
              cases h4
              omega
            · rw [if_neg hk] at h4
              by_cases hl : k1.length < 256
              · rw [if_pos hl] at h4
                cases h4
                rw [List.length_append, List.length_singleton] at h2
                show k1.length = t
                omega
              · rw [if_neg hl] at h4; cases h4
/-- Each state but the first has an edge from one below it. -/
theorem auto_new {G : List It → Nat → List It} {S : Nat} : ∀ (i : Nat) {ks : List (List It)} {es : List (List (Nat × Nat))}, autoF G S i = some (ks, es) → ∀ t, 0 < t → t < ks.length → ∃ p, p < t ∧ ∃ x ∈ es.getD p [], x.2 = t
  | 0, ks, es, e, t, h1, h2 => by
    unfold autoF at e
    cases e
    simp only [List.length_singleton] at h2
    omega
  | i + 1, ks', es', e, t, h1, h2 => by
    cases h3 : autoF G S i with
    | none => have := autoF_none h3 1; rw [this] at e; cases e
    | some q =>
      obtain ⟨ks, es⟩ := q
      have ih := auto_new i h3
      have ha := autoOK (P := fun _ _ => True) trivial (fun _ _ _ _ _ _ => trivial) i h3
      by_cases hi : i < ks.length
      · rw [autoF_step h3 hi] at e
        have hes : es.length = i := by rw [ha.len]; omega
        cases h4 : leaveF (G (ks.getD i [])) ks S with
        | none => rw [h4] at e; cases e
        | some q2 =>
          obtain ⟨k2, ed⟩ := q2
          rw [h4] at e
          cases e
          by_cases h5 : t < ks.length
          · obtain ⟨p, h6, x, hx, h7⟩ := ih t h1 h5
            have hp : p < es.length := by
              refine Nat.lt_of_not_le fun h8 => ?_
              rw [List.getD_eq_getElem?_getD, List.getElem?_eq_none h8] at hx
              simp at hx
            exact ⟨p, h6, x, by rw [getD_snoc_old hp]; exact hx, h7⟩
          · obtain ⟨x, hx, h6⟩ := leave_new S h4 t (by omega) h2
            exact ⟨i, by omega, x, by rw [← hes, getD_snoc_new]; exact hx, h6⟩
      · have := autoF_stay h3 (Nat.le_of_not_lt hi) 1
        rw [this] at e
        cases e
        exact ih t h1 h2

/-- How many below m are marked. -/
def cntN (f : Nat → Bool) : Nat → Nat
  | 0 => 0
  | m + 1 => cntN f m + (if f m = true then 1 else 0)
def markN (f : Nat → Bool) (t : Nat) : Nat → Bool := fun x => if x = t then true else f x
theorem cntN_le (f : Nat → Bool) : ∀ m, cntN f m ≤ m
  | 0 => Nat.le_refl _
  | m + 1 => by
    unfold cntN
    have := cntN_le f m
    by_cases h : f m = true
    · rw [if_pos h]; omega
    · rw [if_neg h]; omega
theorem cntN_far (f : Nat → Bool) (t : Nat) : ∀ m, m ≤ t → cntN (markN f t) m = cntN f m
  | 0, _ => rfl
  | m + 1, h => by
    unfold cntN
    rw [cntN_far f t m (by omega), show markN f t m = f m from if_neg (by omega)]
theorem cntN_mark {f : Nat → Bool} {t : Nat} (ht : f t = false) : ∀ m, t < m → cntN (markN f t) m = cntN f m + 1
  | 0, h => absurd h (Nat.not_lt_zero _)
  | m + 1, h => by
    unfold cntN
    by_cases e : t = m
    · subst e
      rw [cntN_far f t t (Nat.le_refl _), show markN f t t = true from if_pos rfl, ht]
      rfl
    · rw [cntN_mark ht m (by omega), show markN f t m = f m from if_neg (fun h => e h.symm)]
      omega

/-- The search under way: of state q the edges below i are done (q = N: of none are some left). -/
structure SrP (es : List (List (Nat × Nat))) (N S : Nat) (inn : Nat → Bool) (ways : Nat → List Int) (todo : List Nat) (q i : Nat) : Prop where
  zero : inn 0 = true
  way : ∀ t, t < N → inn t = true → wayF es (some 0) (ways t) = some (t : Int) ∧ (∀ x ∈ ways t, 0 ≤ x ∧ x < (S : Int)) ∧ (ways t).length < cntN inn N
  todoIn : ∀ t ∈ todo, t < N ∧ inn t = true
  done : ∀ t, t < N → inn t = true → t ∉ todo → ∀ j, j < (es.getD t []).length → (t = q → j < i) → inn ((es.getD t []).getD j (0, 0)).2 = true
section
variable {es : List (List (Nat × Nat))} {N S : Nat} {inn : Nat → Bool} {ways : Nat → List Int} {todo : List Nat} {q i : Nat}
theorem SrP.start (hN : 0 < N) : SrP es N S (markN (fun _ => false) 0) (fun _ => []) [0] N 0 where
  zero := rfl
  way := fun t ht hi => by
    have h0 : t = 0 := by
      by_cases e : t = 0
      · exact e
      · exact absurd hi (by rw [show markN (fun _ => false) 0 t = false from if_neg e]; decide)
    subst h0
    exact ⟨rfl, (fun x hx => by cases hx), by rw [cntN_mark rfl N hN]; exact Nat.succ_pos _⟩
  todoIn := fun t ht => by rw [List.mem_singleton.1 ht]; exact ⟨hN, rfl⟩
  done := fun t _ hi hn => by
    have h0 : t = 0 := by
      by_cases e : t = 0
      · exact e
      · exact absurd hi (by rw [show markN (fun _ => false) 0 t = false from if_neg e]; decide)
    exact absurd (List.mem_singleton.2 h0) hn
theorem SrP.pop (h : SrP es N S inn ways (q :: todo) N 0) : SrP es N S inn ways todo q 0 where
  zero := h.zero
  way := h.way
  todoIn := fun t ht => h.todoIn t (List.mem_cons_of_mem _ ht)
  done := fun t ht hi hn j hj hq => by
    by_cases e : t = q
    · exact absurd (hq e) (Nat.not_lt_zero _)
    · exact h.done t ht hi (fun hm => (List.mem_cons.1 hm).elim e hn) j hj (fun h1 => absurd ht (by omega))
theorem SrP.skip (h : SrP es N S inn ways todo q i) (hx : inn ((es.getD q []).getD i (0, 0)).2 = true) : SrP es N S inn ways todo q (i + 1) where
  zero := h.zero
  way := h.way
  todoIn := h.todoIn
  done := fun t ht hi hn j hj hq => by
    by_cases e : t = q ∧ j = i
    · obtain ⟨rfl, rfl⟩ := e; exact hx
    · exact h.done t ht hi hn j hj (fun h1 => by have := hq h1; have : j ≠ i := fun h2 => e ⟨h1, h2⟩; omega)
theorem SrP.add (h : SrP es N S inn ways todo q i) (hq : q < N) (hqi : inn q = true) {s t : Nat} (hx : (es.getD q []).getD i (0, 0) = (s, t)) (hs : s < S) (ht : t < N) (hno : inn t = false) (hl : leadA es ((q : Int), (s : Int)) = some (t : Int)) : SrP es N S (markN inn t) (fun u => if u = t then ways q ++ [(s : Int)] else ways u) (todo ++ [t]) q (i + 1) := by
  have hc := cntN_mark hno N ht
  have hold : ∀ u, inn u = true → markN inn t u = true := fun u hu => by
    unfold markN
    by_cases e : u = t
    · rw [if_pos e]
    · rw [if_neg e]; exact hu
  refine ⟨hold 0 h.zero, fun u hu hi => ?_, fun u hu => ?_, fun u hu hi hn j hj hjq => ?_⟩
  · by_cases e : u = t
    · subst e
      rw [if_pos rfl]
      obtain ⟨w1, w2, w3⟩ := h.way q hq hqi
      refine ⟨by rw [wayF_append, w1]; exact hl, fun x hx => ?_, by rw [List.length_append, List.length_singleton]; omega⟩
      rcases List.mem_append.1 hx with hx | hx
      · exact w2 x hx
      · rw [List.mem_singleton.1 hx]; omega
    · rw [if_neg e]
      obtain ⟨w1, w2, w3⟩ := h.way u hu (by rw [show markN inn t u = inn u from if_neg e] at hi; exact hi)
      exact ⟨w1, w2, by omega⟩
  · rcases List.mem_append.1 hu with hu | hu
    · exact ⟨(h.todoIn u hu).1, hold u (h.todoIn u hu).2⟩
    · rw [List.mem_singleton.1 hu]; exact ⟨ht, if_pos rfl⟩
  · have e : u ≠ t := fun e => hn (List.mem_append_right _ (List.mem_singleton.2 e))
    rw [show markN inn t u = inn u from if_neg e] at hi
    by_cases e2 : u = q ∧ j = i
    · obtain ⟨rfl, rfl⟩ := e2
      rw [hx]; exact if_pos rfl
    · exact hold _ (h.done u hu hi (fun hm => hn (List.mem_append_left _ hm)) j hj (fun h1 => by have := hjq h1; have : j ≠ i := fun h2 => e2 ⟨h1, h2⟩; omega))
theorem SrP.left (h : SrP es N S inn ways todo q i) (hi : (es.getD q []).length ≤ i) : SrP es N S inn ways todo N 0 where
  zero := h.zero
  way := h.way
  todoIn := h.todoIn
  done := fun t ht hin hn j hj _ => h.done t ht hin hn j hj (fun e => by subst e; omega)
/-- All are found in the end. -/
theorem SrP.all (h : SrP es N S inn ways [] N 0) (hnew : ∀ t, 0 < t → t < N → ∃ p, p < t ∧ ∃ x ∈ es.getD p [], x.2 = t) : ∀ (m t : Nat), t < m → t < N → inn t = true
  | 0, _, hm, _ => absurd hm (Nat.not_lt_zero _)
  | m + 1, t, hm, ht => by
    by_cases e : t = 0
    · subst e; exact h.zero
    · obtain ⟨p, h1, x, hx, h2⟩ := hnew t (by omega) ht
      have hp := SrP.all h hnew m p (by omega) (by omega)
      obtain ⟨j, hj, h3⟩ := List.getElem_of_mem hx
      have h4 := h.done p (by omega) hp (by simp) j hj (fun h5 => by omega)
      rw [List.getD_eq_getElem?_getD, List.getElem?_eq_getElem hj, h3] at h4
      simp only [Option.getD_some] at h4
      rw [h2] at h4
      exact h4
end

end Go.Proofs.Ytfcholpleeiddaa.J

/-
  trans: the law TransReached, where there is no automaton.
-/
namespace Go.Proofs.Ytfcholpleeiddaa.J
open Go.RowKit Go.Maps Go.Shelf

attribute [local go_sem] Oper.semAt_some

section
variable (ta na la pa : Option Addr) (tc nc lc pc : Nat) (n : Nat) (st : Int) (w : World) (tn nn ln : Nat)
set_option maxRecDepth 100000 in
set_option maxHeartbeats 4000000 in
theorem reached_bad (ec : Int) (hec : ec = 1 ∨ ec = 11) (hO : OfBad ta na la pa tc nc lc pc n st w tn nn ln ec)
    (hBU : ∀ X, w.grownBy X none → Calls Try.prog 10 #[.agg #[.slice ta tn tc, .slice na nn nc, .slice la ln lc, .int .i64 st, .slice pa n pc]] X fun e y => e = .returned (.tuple #[.agg #[.slice none 0 0, .int .i64 0, .int .i64 0], .int .i64 ec]) ∧ X.grownBy y none) :
    Calls Try.prog 4 #[.agg #[.slice ta tn tc, .slice na nn nc, .slice la ln lc, .int .i64 st, .slice pa n pc]] w fun e w' => e = .returned (.bool true) ∧ w.grownBy w' none := by
  have HBU := show Hid _ from hBU
  have HWX : Hid (∀ X, w.grownBy X none → Calls Try.prog 7 #[.agg #[.slice ta tn tc, .slice na nn nc, .slice la ln lc, .int .i64 st, .slice pa n pc], .int .i64 0, .slice none 0 0] X fun e y => e = .returned (.tuple #[.int .i64 0, .int .i64 ec]) ∧ X.grownBy y none) := fun X hX => walkX_bad ta na la pa tc nc lc pc n st X tn nn ln ec hec (fun Y hY => hO Y (grown_trans hX hY)) 0 none 0 0
  have HX0 : Hid (PhAt w (w.alloc (.cells #[.slice ta tn tc, .slice na nn nc, .slice la ln lc, .int .i64 st, .slice pa n pc] 27)) w.heap.size #[.slice ta tn tc, .slice na nn nc, .slice la ln lc, .int .i64 st, .slice pa n pc]) := ⟨World.grownBy_alloc _ _ none, heap_alloc_last w _⟩
  have hne : (ec != 0) = true := bne_iff_ne.2 (by omega)
  have hee : (ec == ec) = true := beq_self_eq_true _
  clear hBU hO hec
  go_enter Try.func4, Try.ntmps4
  go_wp2_with fail
  refine Calls.mono (awake_any _) ?_
  rintro e w1 ⟨rfl, hg1⟩
  have HX1 : Hid (PhAt w w1 w.heap.size #[.slice ta tn tc, .slice na nn nc, .slice la ln lc, .int .i64 st, .slice pa n pc]) := HX0.out.kept hg1
  clear hg1 HX0
  obtain ⟨k0, k1, k2, k3, k4⟩ := HX1.out.cells
  go_wp2_with fail
  refine Calls.mono (HBU.out _ HX1.out.grown) ?_
  rintro e w2 ⟨rfl, hg2⟩
  have HX2 : Hid (PhAt w (w2.alloc (.cells #[.slice none 0 0, .int .i64 0, .int .i64 0] 39)) w.heap.size #[.slice ta tn tc, .slice na nn nc, .slice la ln lc, .int .i64 st, .slice pa n pc]) := HX1.out.kept (grown_trans hg2 (World.grownBy_alloc _ _ none))
  clear hg2 HX1 k0 k1 k2 k3 k4
  obtain ⟨k0, k1, k2, k3, k4⟩ := HX2.out.cells
  go_wp2_with fail
  refine Calls.mono (HWX.out _ HX2.out.grown) ?_
  rintro e w3 ⟨rfl, hg3⟩
  have HG3 : Hid (w.grownBy w3 none) := grown_trans HX2.out.grown hg3
  clear hg3 HX2 k0 k1 k2 k3 k4
  go_wp2_with fail
  go_ret
  exact ⟨rfl, HG3.out⟩
end

end Go.Proofs.Ytfcholpleeiddaa.J

/-
  trans: a queue of numbers: what is left of a row, from some place on; and append onto it.
-/
namespace Go.Proofs.Ytfcholpleeiddaa.J
open Go.RowKit Go.Maps Go.Shelf

/-- A queue of numbers, from block B on. -/
def QueAt (X : World) (B : Nat) (a : Option Addr) (cap : Nat) (xs : List Int) : Prop :=
  xs.length ≤ cap ∧ (cap ≠ 0 → ∃ g off cur, a = some ⟨g, off, none⟩ ∧ B ≤ g ∧ X.heap[g]? = some (.cells cur 3 (0, 0)) ∧ off + cap ≤ cur.size ∧ ∀ i, i < xs.length → cur[off + i]? = some (.int .i64 (xs.getD i 0)))
section
variable {X Y : World} {B cap : Nat} {a : Option Addr} {xs : List Int}
theorem QueAt.kept (h : QueAt X B a cap xs) (hg : X.grownBy Y none) : QueAt Y B a cap xs := by
  refine ⟨h.1, fun hc => ?_⟩
  obtain ⟨g, off, cur, h1, h2, h3, h4⟩ := h.2 hc
  exact ⟨g, off, cur, h1, h2, (hg.block g (Array.getElem?_eq_some_iff.1 h3).1 (by simp)).trans h3, h4⟩
theorem QueAt.other {b : Nat} {cs : Array Value} {t : TypeId} (h : QueAt X B a cap xs) (hg : X.grownBy Y (some b)) (hb : X.heap[b]? = some (.cells cs t (0, 0))) (ht : t ≠ 3) : QueAt Y B a cap xs := by
  refine ⟨h.1, fun hc => ?_⟩
  obtain ⟨g, off, cur, h1, h2, h3, h4⟩ := h.2 hc
  refine ⟨g, off, cur, h1, h2, (hg.block g (Array.getElem?_eq_some_iff.1 h3).1 ?_).trans h3, h4⟩
  intro e
  have : g = b := by simpa using e
  subst this
  rw [h3] at hb
  cases hb
  exact ht rfl
theorem QueAt.head {x : Int} {ys : List Int} (h : QueAt X B a cap (x :: ys)) : ∃ g off, a = some ⟨g, off, none⟩ ∧ X.cell? ⟨g, off, none⟩ = some (.int .i64 x) := by
  have hc : cap ≠ 0 := by have := h.1; simp at this; omega
  obtain ⟨g, off, cur, h1, h2, h3, h4, h5⟩ := h.2 hc
  refine ⟨g, off, h1, ?_⟩
  rw [cell_of_row _ _ _ _ _ _ h3]
  simpa using h5 0 (by simp)
theorem QueAt.tail {x : Int} {ys : List Int} {g off : Nat} (h : QueAt X B (some ⟨g, off, none⟩) cap (x :: ys)) (a' : Option Addr) (ha : 1 < cap → a' = some ⟨g, off + 1, none⟩) : QueAt X B a' (cap - 1) ys := by
  have hl := h.1
  simp at hl
  refine ⟨by omega, fun hc => ?_⟩
  obtain ⟨g', off', cur, h1, h2, h3, h4, h5⟩ := h.2 (by omega)
  cases h1
  refine ⟨g, off + 1, cur, ha (by omega), h2, h3, by omega, fun i hi => ?_⟩
  have := h5 (i + 1) (by simp; omega)
  rw [show off + 1 + i = off + (i + 1) by omega]
  simpa using this
end

/-- Where a queue lies behind an append, and what was turned. -/
def QueTo (w : World) (a : Option Addr) (cap : Nat) (a' : Option Addr) (w' : World) : Prop := (w.grownBy w' none ∧ a' = some ⟨w.heap.size, 0, none⟩) ∨ ∃ g off, cap ≠ 0 ∧ a = some ⟨g, off, none⟩ ∧ a' = some ⟨g, off, none⟩ ∧ w.grownBy w' (some g)

section
variable {P : Program} (w : World)
theorem run_append_que (B : Nat) (t ty : TypeId) (i : TypeInfo) (ht : P.underlying t = some (.slice 3)) (hi : P.info? 3 = some i) (hz : i.zero = some (.int .i64 0)) (hs1 : i.size = 1) (hby : i.bytes = 8)
    (a : Option Addr) (cap : Nat) (xs : List Int) (hq : QueAt w B a cap xs) (hB : B ≤ w.heap.size) (nb : Nat) (x : Int) (c : Nat) (hn : w.cell? ⟨nb, 0, none⟩ = some (.int .i64 x)) (hlen : xs.length < 1000000) :
    ∃ a' cap' w', (Builtin.append_ #[t, t] ty #[.slice a xs.length cap, .slice (some ⟨nb, 0, none⟩) 1 c]).run P w = .ok (.slice a' (xs.length + 1) cap') w' ∧ QueAt w' B a' cap' (xs ++ [x]) ∧ QueTo w a cap a' w' := by
  have hnews : ∀ (u : World), u.heap = w.heap → ∀ j z, [Value.int .i64 x][j]? = some z → u.cell? ((⟨nb, 0, none⟩ : Addr).add j) = some z := fun u hu j z hj => by
    have h0 : j = 0 := by
      have := (List.getElem?_eq_some_iff.1 hj).1; simpa using this
    subst h0
    have : z = .int .i64 x := by simpa using hj.symm
    subst this
    have e : (⟨nb, 0, none⟩ : Addr).add 0 = ⟨nb, 0, none⟩ := by simp [Addr.add]
    rw [e]
    unfold World.cell? at hn ⊢
    rw [hu]; exact hn
  have hgrowO : ∀ (olds : List Value), olds.length = xs.length → (∀ j, j < xs.length → olds[j]? = some (.int .i64 (xs.getD j 0))) →
      (Builtin.append_ #[t, t] ty #[.slice a xs.length cap, .slice (some ⟨nb, 0, none⟩) 1 c]).run P w =
      .ok (.slice (some ⟨w.heap.size, 0, none⟩) (xs.length + 1) (grownCap w (xs.length + 1) cap 3))
        (w.drew.alloc (.cells ((olds ++ [Value.int .i64 x]).toArray ++ Builtin.zeroCells (Value.int .i64 0).cells (grownCap w (xs.length + 1) cap 3 - (xs.length + 1))) 3)) →
      ∃ a' cap' w', (Builtin.append_ #[t, t] ty #[.slice a xs.length cap, .slice (some ⟨nb, 0, none⟩) 1 c]).run P w = .ok (.slice a' (xs.length + 1) cap') w' ∧ QueAt w' B a' cap' (xs ++ [x]) ∧ QueTo w a cap a' w' := fun olds hol hov hr => by
    have hge := grownCap_ge w (xs.length + 1) cap 3
    refine ⟨_, _, _, hr, ⟨by simp; exact hge, fun _ => ⟨w.heap.size, 0, _, rfl, hB, heap_alloc_new w.drew _, ?_, fun j hj => ?_⟩⟩, Or.inl ⟨⟨rfl, rfl, rfl, by simp, fun k hk _ => Go.heap_alloc_old w.drew _ hk⟩, rfl⟩⟩
    · simp only [Array.size_append, List.size_toArray, List.length_append, size_zeroCells, hol]
      simp [Value.cells]; omega
    · simp only [List.length_append, List.length_cons, List.length_nil] at hj
      rw [Array.getElem?_append, if_pos (by simp [hol]; omega)]
      simp only [Nat.zero_add, List.getElem?_toArray]
      by_cases e : j < xs.length
      · rw [List.getElem?_append_left (by omega), hov j e]
        simp [List.getD, List.getElem?_append, e]
      · have : j = xs.length := by omega
        subst this
        rw [List.getElem?_append_right (by omega), hol]
        simp [List.getD]
  by_cases hc : cap = 0
  · have hx : xs = [] := by
      apply List.eq_nil_of_length_eq_zero
      have := hq.1; omega
    subst hx
    subst hc
    refine hgrowO [] rfl (fun j hj => absurd hj (Nat.not_lt_zero _)) ?_
    cases a with
    | none =>
      have hr := run_append_nil (P := P) w t ty 3 i (.int .i64 0) ht hi hz ⟨nb, 0, none⟩ 1 c [.int .i64 x] (by rw [hs1]; rfl) (hnews w rfl) (by omega) (by omega) (by rw [hby]; decide)
      simpa using hr
    | some ad =>
      have hr := run_append_grow (P := P) w t ty 3 i (.int .i64 0) ht hi hz ad 0 0 [] (by simp) (fun j v h => by simp at h) ⟨nb, 0, none⟩ 1 c [.int .i64 x] (by rw [hs1]; rfl) (hnews w rfl) (by omega) (by omega) (by rw [hby]; decide)
      simpa using hr
  · obtain ⟨g, off, cur, rfl, h2, h3, h4, h5⟩ := hq.2 hc
    by_cases hroom : xs.length + 1 ≤ cap
    · have hr := run_append_room_src (P := P) (w := w) t t ty 3 i ht hi g off xs.length cap (.slice (some ⟨nb, 0, none⟩) 1 c) 1 [.int .i64 x] (Src.ofSlice w ht ⟨nb, 0, none⟩ 1 c [.int .i64 x] (by rw [hs1]; rfl) (hnews w rfl) (by simp [Value.oneCell'])) hroom
        (fun j hj => by
          rw [cell_of_row _ _ _ _ _ _ h3, hs1]
          have : off + xs.length * 1 + j < cur.size := by simp at hj; omega
          rw [Array.getElem?_eq_getElem this]; rfl) (fun j _ => frozen_of_row _ _ _ _ _ h3)
      rw [hs1, Nat.mul_one] at hr
      refine ⟨_, _, _, hr, ⟨by simp; omega, fun _ => ⟨g, off, cur.setIfInBounds (off + xs.length) (.int .i64 x), rfl, h2, heap_setCell_same w g _ _ _ _ h3, by simp; omega, fun j hj => ?_⟩⟩, Or.inr ⟨g, off, hc, rfl, rfl, grown_setCell g _ _⟩⟩
      simp only [List.length_append, List.length_cons, List.length_nil] at hj
      rw [Array.getElem?_setIfInBounds]
      by_cases e : j < xs.length
      · rw [if_neg (by omega), h5 j e]
        simp [List.getD, List.getElem?_append, e]
      · have : j = xs.length := by omega
        subst this
        have h7 : off + xs.length < cur.size := by omega
        simp [List.getD, h7]
    · refine hgrowO (xs.map (Value.int .i64)) (by simp) (fun j hj => by simp [List.getD, hj]) ?_
      have hr := run_append_grow (P := P) w t ty 3 i (.int .i64 0) ht hi hz ⟨g, off, none⟩ xs.length cap (xs.map (Value.int .i64)) (by rw [hs1]; simp) (fun j v h => by
          have hj : j < xs.length := by have := (List.getElem?_eq_some_iff.1 h).1; simpa using this
          rw [Addr.add_mid, cell_of_row _ _ _ _ _ _ h3, h5 j hj, ← h]
          simp [List.getD, hj]) ⟨nb, 0, none⟩ 1 c [.int .i64 x] (by rw [hs1]; rfl) (hnews w rfl) (by omega) (by omega) (growslice_fits (by omega) (by rw [hby]; omega))
      simpa using hr

theorem wpList_append_que {ops : Array Oper} {rest : List Oper} {o : Oper} {ac : Act} {Q : Exit → Act → World → Prop} (hgd : o.guard = none) (s y : Operand) (t : TypeId)
    (ho : o.op = .call { callee := .builtin .append, args := #[s, y], argTypes := #[t, t] })
    (B : Nat) (i : TypeInfo) (ht : P.underlying t = some (.slice 3)) (hi : P.info? 3 = some i) (hz : i.zero = some (.int .i64 0)) (hs1 : i.size = 1) (hby : i.bytes = 8)
    (a : Option Addr) (n cap : Nat) (xs : List Int) (hs : ac.eval s = .slice a n cap) (hnl : n = xs.length) (hq : QueAt w B a cap xs) (hB : B ≤ w.heap.size) (nb : Nat) (x : Int) (c : Nat) (hy : ac.eval y = .slice (some ⟨nb, 0, none⟩) 1 c) (hn : w.cell? ⟨nb, 0, none⟩ = some (.int .i64 x)) (hlen : n < 1000000)
    (h : ∀ a' cap' w', QueAt w' B a' cap' (xs ++ [x]) → (QueTo w a cap a' w') → wpList P ops Q rest (ac.put o.dst (.slice a' (n + 1) cap')) w') : wpList P ops Q (o :: rest) ac w := by
  subst hnl
  refine wpList_plain hgd fun K hK => ?_
  obtain ⟨a', cap', w', hr, h2, h3⟩ := run_append_que (P := P) w B t o.type i ht hi hz hs1 hby a cap xs hq hB nb x c hn hlen
  unfold Oper.wp execOp
  simp only [ho, resolve, invoke, builtin, Sem.run_bind, Sem.run_pure, Result.andThen_ok, List.map_toArray, List.map_cons, List.map_nil, hs, hy, hr]
  exact hK _ _ (h a' cap' w' h2 h3)
end

end Go.Proofs.Ytfcholpleeiddaa.J

/-
  trans: the search of the law TransReached, in memory.
-/
namespace Go.Proofs.Ytfcholpleeiddaa.J
open Go.RowKit Go.Maps Go.Shelf

def natI (l : List Nat) : List Int := l.map fun (i : Nat) => (i : Int)
theorem natI_len (l : List Nat) : (natI l).length = l.length := by unfold natI; rw [List.length_map]
theorem natI_snoc (l : List Nat) (t : Nat) : natI (l ++ [t]) = natI l ++ [(t : Int)] := by unfold natI; rw [List.map_append]; rfl

theorem ints_ofR {X : World} {B c : Nat} {a : Option Addr} {l : List Int} (h : X.ownsRow B 3 1 (.slice a l.length c) l.length (intV l)) : IntsAt X a l := by
  rcases h.2 with ⟨_, h0⟩ | ⟨g, cap, cur, hv, hB, hh, hn, hm, hs, ht⟩
  · exact .inl (List.eq_nil_of_length_eq_zero h0)
  · simp only [Value.slice.injEq] at hv
    refine .inr ⟨g, 0, hv.1, fun i hi => ?_⟩
    rw [cell_of_row _ _ _ _ _ _ hh, Nat.zero_add]
    have h1 : (cur.toList.take (l.length * 1))[i]? = (intV l)[i]? := by rw [ht]
    rw [List.getElem?_take, if_pos (by omega)] at h1
    rw [← Array.getElem?_toList, h1]
    unfold intV
    rw [List.getElem?_map, List.getElem?_eq_getElem hi, List.getD_eq_getElem?_getD, List.getElem?_eq_getElem hi]; rfl
theorem ints_nil {X : World} {B e n c : Nat} {a : Option Addr} {xs : List Value} (h : X.ownsRow B e 1 (.slice a n c) n xs) : a = none → n = 0 ∧ c = 0 := fun e => by
  rcases h.2 with ⟨h1, h2⟩ | ⟨g, cap, cur, h1, _⟩
  · simp only [Value.slice.injEq] at h1
    exact ⟨h2, h1.2.2⟩
  · simp only [Value.slice.injEq] at h1
    rw [e] at h1
    cases h1.1

/-- The search under way, in memory. -/
structure RcAt (P X : World) (wb ib N : Nat) (inn : Nat → Bool) (ways : Nat → List Int) (ua : Nat → Option Addr) (uc : Nat → Nat) (a : Option Addr) (cap : Nat) (todo : List Int) : Prop where
  grown : P.grownBy X none
  wv : ValAt X wb N 24 (fun k => .slice (ua k) (ways k).length (uc k))
  iv : ValAt X ib N 4 (fun k => .bool (inn k))
  que : QueAt X P.heap.size a cap todo
  own : ∀ k, k < N → X.ownsRow P.heap.size 3 1 (.slice (ua k) (ways k).length (uc k)) (ways k).length (intV (ways k))
  sep : cap ≠ 0 → ∀ g off, a = some ⟨g, off, none⟩ → ∀ k, k < N → (Value.slice (ua k) (ways k).length (uc k)).ownBlock ≠ some g
  lo : P.heap.size ≤ wb ∧ P.heap.size ≤ ib
section
variable {P X Y : World} {wb ib N : Nat} {inn : Nat → Bool} {ways : Nat → List Int} {ua : Nat → Option Addr} {uc : Nat → Nat} {a : Option Addr} {cap : Nat} {todo : List Int}
theorem RcAt.kept (h : RcAt P X wb ib N inn ways ua uc a cap todo) (hg : X.grownBy Y none) : RcAt P Y wb ib N inn ways ua uc a cap todo :=
  ⟨grown_trans h.grown hg, h.wv.kept hg, h.iv.kept hg, h.que.kept hg, fun k hk => keep0 (h.own k hk) hg, h.sep, h.lo⟩
theorem val_ne {k k' len len' : Nat} {t t' : TypeId} {c c' : Nat → Value} (h : ValAt X k len t c) (h' : ValAt X k' len' t' c') (ht : t ≠ t') : k ≠ k' := fun e => by
  subst e
  unfold ValAt at h h'
  rw [h] at h'
  simp only [Option.some.injEq, Obj.cells.injEq] at h'
  exact ht h'.2.1
theorem RcAt.mark (h : RcAt P X wb ib N inn ways ua uc a cap todo) (t : Nat) : RcAt P (X.setCell ⟨ib, t, none⟩ (.bool true)) wb ib N (markN inn t) ways ua uc a cap todo := by
  have hg : X.grownBy (X.setCell ⟨ib, t, none⟩ (.bool true)) (some ib) := grown_setCell _ _ _
  refine ⟨grown_new h.grown hg h.lo.2, h.wv.at hg (val_ne h.wv h.iv (by decide)), ?_, h.que.other hg h.iv (by decide), fun k hk => (h.own k hk).kept hg (owns_nebox (h.own k hk) h.iv (by decide)), h.sep, h.lo⟩
  refine (h.iv.set t (.bool true)).ext fun i _ => ?_
  unfold put markN
  by_cases e : i = t
  · rw [if_pos e, if_pos e]
  · rw [if_neg e, if_neg e]
theorem RcAt.pop {x : Int} {ys : List Int} {g off : Nat} (h : RcAt P X wb ib N inn ways ua uc (some ⟨g, off, none⟩) cap (x :: ys)) (a' : Option Addr) (ha : 1 < cap → a' = some ⟨g, off + 1, none⟩) : RcAt P X wb ib N inn ways ua uc a' (cap - 1) ys :=
  ⟨h.grown, h.wv, h.iv, h.que.tail a' ha, h.own, fun hc g' off' e k hk => by
    rw [ha (by omega)] at e
    simp only [Option.some.injEq, Addr.mk.injEq] at e
    obtain ⟨rfl, _⟩ := e
    exact h.sep (by omega) g off rfl k hk, h.lo⟩
/-- The way of a state. -/
theorem RcAt.add (h : RcAt P X wb ib N inn ways ua uc a cap todo) {t g c : Nat} {l : List Int} (hg : X.grownBy Y none) (ho : Y.ownsRow X.heap.size 3 1 (.slice (some ⟨g, 0, none⟩) l.length c) l.length (intV l)) : RcAt P (Y.setCell ⟨wb, t, none⟩ (.slice (some ⟨g, 0, none⟩) l.length c)) wb ib N inn (fun u => if u = t then l else ways u) (updL ua t (some ⟨g, 0, none⟩)) (updL uc t c) a cap todo := by
  have h2 := h.kept hg
  have hs : Y.grownBy (Y.setCell ⟨wb, t, none⟩ (.slice (some ⟨g, 0, none⟩) l.length c)) (some wb) := grown_setCell _ _ _
  refine ⟨grown_new h2.grown hs h.lo.1, ?_, h2.iv.at hs (val_ne h2.iv h2.wv (by decide)), h2.que.other hs h2.wv (by decide), fun k hk => ?_, fun hc g' off' e k hk => ?_, h.lo⟩
  · refine (h2.wv.set t _).ext fun i _ => ?_
    unfold put updL
    by_cases e : i = t
    · simp only [if_pos e]
    · simp only [if_neg e]
  · unfold updL
    by_cases e : k = t
    · simp only [if_pos e]
      exact (owns_base ho h.grown.size).kept hs (owns_nebox ho h2.wv (by decide))
    · simp only [if_neg e]
      exact (h2.own k hk).kept hs (owns_nebox (h2.own k hk) h2.wv (by decide))
  · unfold updL
    by_cases e2 : k = t
    · simp only [if_pos e2]
      intro e3
      have e4 : g = g' := by simpa [Value.ownBlock] using e3
      have h5 := (ho.lt g rfl).1
      obtain ⟨g2, off2, cur, h6, _, h7, _⟩ := h.que.2 hc
      rw [e] at h6
      simp only [Option.some.injEq, Addr.mk.injEq] at h6
      have h8 := (Array.getElem?_eq_some_iff.1 h7).1
      omega
    · simp only [if_neg e2]
      exact h.sep hc g' off' e k hk
theorem RcAt.push (h : RcAt P X wb ib N inn ways ua uc a cap todo) {a' : Option Addr} {cap' : Nat} {x : Int} (hq : QueAt Y P.heap.size a' cap' (todo ++ [x])) (hg : QueTo X a cap a' Y) : RcAt P Y wb ib N inn ways ua uc a' cap' (todo ++ [x]) := by
  rcases hg with ⟨hg, e⟩ | ⟨g, off, hc, e, e', hg⟩
  · have h2 := h.kept hg
    refine ⟨h2.grown, h2.wv, h2.iv, hq, h2.own, fun _ g off e2 k hk e3 => ?_, h.lo⟩
    rw [e] at e2
    simp only [Option.some.injEq, Addr.mk.injEq] at e2
    have := ((h.own k hk).lt g e3).2
    omega
  · obtain ⟨g2, off2, cur, h6, hlo, h7, _⟩ := h.que.2 hc
    rw [e] at h6
    simp only [Option.some.injEq, Addr.mk.injEq] at h6
    obtain ⟨rfl, _⟩ := h6
    have n1 : wb ≠ g := fun e9 => by
      have h9 := h.wv
      unfold ValAt at h9
      rw [e9, h7] at h9
      simp only [Option.some.injEq, Obj.cells.injEq] at h9
      exact absurd h9.2.1 (by decide)
    have n2 : ib ≠ g := fun e9 => by
      have h9 := h.iv
      unfold ValAt at h9
      rw [e9, h7] at h9
      simp only [Option.some.injEq, Obj.cells.injEq] at h9
      exact absurd h9.2.1 (by decide)
    refine ⟨grown_new h.grown hg hlo, h.wv.at hg n1, h.iv.at hg n2, hq, fun k hk => (h.own k hk).kept hg (.inr (h.sep hc g off e k hk)), fun _ g' off' e2 k hk => ?_, h.lo⟩
    rw [e'] at e2
    simp only [Option.some.injEq, Addr.mk.injEq] at e2
    obtain ⟨rfl, _⟩ := e2
    exact h.sep hc g off e k hk
end

end Go.Proofs.Ytfcholpleeiddaa.J

/-
  A region of a function as a declaration of its own.
-/
namespace Go.Proofs.Ytfcholpleeiddaa.J
open Go.RowKit Go.Maps Go.Shelf

/-- The regions of a number. -/
def regionsJ (n : Nat) : Code → List Code
  | .region i ops b => if i = n then [.region i ops b] else []
  | .loop c => regionsJ n c
  | .seq a b => regionsJ n a ++ regionsJ n b
  | .block _ c => regionsJ n c
  | .scope c => regionsJ n c
  | .cond _ a b => regionsJ n a ++ regionsJ n b
  | _ => []
/-- The loops of a piece of code, the outer ahead of the inner. -/
def loopsJ : Code → List Code
  | .loop c => .loop c :: loopsJ c
  | .seq a b => loopsJ a ++ loopsJ b
  | .block _ c => loopsJ c
  | .scope c => loopsJ c
  | .cond _ a b => loopsJ a ++ loopsJ b
  | _ => []
def OnEndJ (P : Act → World → Prop) : Exit → Act → World → Prop
  | .normal, a, w => P a w
  | _, _, _ => False

end Go.Proofs.Ytfcholpleeiddaa.J

/-
  trans: the law TransReached: a way more, a declaration of its own (printed by tools/trreggen.py).
-/
namespace Go.Proofs.Ytfcholpleeiddaa.J
open Go.RowKit Go.Maps Go.Shelf

attribute [local go_sem] Oper.semAt_some

noncomputable def trR : Code := ((Try.f4.body.map (regionsJ 25)).getD []).getD 0 .skip

set_option maxRecDepth 100000 in
set_option maxHeartbeats 8000000 in
theorem tr_way {K : Act → World → Prop} {Z : World} {B wb eb N s t lq lc : Nat} {la : Option Addr} {ut : Value} {xs : List Value}
    {v0 v1 v2 v3 v4 v5 v6 v7 v9 v10 v11 v12 v15 v16 v17 v18 v19 v20 v21 v22 v23 v24 v25 v26 v27 v28 v29 v30 v31 v32 v33 v34 v35 v36 v37 v38 v39 v40 v41 v42 v43 v44 v45 v46 v47 v48 v49 v50 v51 v52 v53 v54 v55 v56 v57 v58 v59 v60 v61 v62 v63 v64 v65 v66 v67 v68 v69 v70 v71 v72 v73 v74 v75 v76 v77 v78 v79 v80 v81 v82 v83 v84 v85 v86 v87 v88 v89 v90 v91 v92 v93 v94 v95 v96 v97 v98 v99 v100 v101 v102 v103 v104 v105 v106 v107 v108 v109 v110 v111 v112 v113 v114 v115 v116 v117 v118 v119 v120 v121 v122 v123 v124 v125 v126 v127 v128 v129 v130 v131 v132 v133 v134 v135 v136 v137 v138 v139 v140 v141 v142 v143 v144 v145 v146 v147 v148 v149 v150 v151 v152 v153 v154 v155 v156 v157 v158 v159 v160 v161 v162 v163 v164 v165 v166 v167 v168 v169 : Value}
    (x1 : Z.cell? ⟨eb, 0, none⟩ = some (.int .i64 (s : Int))) (x2 : Z.cell? ⟨eb, 1, none⟩ = some (.int .i64 (t : Int)))
    (x4 : ∀ o, (Z.alloc o).cell? ⟨eb, 1, none⟩ = some (.int .i64 (t : Int)))
    (htN : (t : Int) < (N : Int)) (hlq : lq ≤ 1000)
    (hOW : ∀ Y, Z.grownBy Y none → Y.ownsRow B 3 1 (.slice la lq lc) lq xs) (hBS : ∀ Y, Z.grownBy Y none → B ≤ Y.heap.size)
    (hfin : ∀ (Y V : World) (g c' : Nat), Z.grownBy Y none → Y.grownBy V (Value.slice la lq lc).ownBlock → V.ownsRow B 3 1 (.slice (some ⟨g, 0, none⟩) (lq + 1) c') (lq + 1) (xs ++ [.int .i64 (s : Int)]) → V.cell? ⟨wb, t, none⟩ = some ut ∧ V.frozen? ⟨wb, t, none⟩ = false ∧ V.cell? ⟨eb, 1, none⟩ = some (.int .i64 (t : Int)) ∧ ∀ u111 u112 u113 u114 u115 u116 u117 u118 u119 : Value, K ⟨List.toArray (v0 :: v1 :: v2 :: v3 :: v4 :: v5 :: v6 :: v7 :: .slice (some ⟨wb, 0, none⟩) N N :: v9 :: v10 :: v11 :: v12 :: .pointer (some ⟨eb, 0, none⟩) :: .slice la lq lc :: v15 :: v16 :: v17 :: v18 :: v19 :: v20 :: v21 :: v22 :: v23 :: v24 :: v25 :: v26 :: v27 :: v28 :: v29 :: v30 :: v31 :: v32 :: v33 :: v34 :: v35 :: v36 :: v37 :: v38 :: v39 :: v40 :: v41 :: v42 :: v43 :: v44 :: v45 :: v46 :: v47 :: v48 :: v49 :: v50 :: v51 :: v52 :: v53 :: v54 :: v55 :: v56 :: v57 :: v58 :: v59 :: v60 :: v61 :: v62 :: v63 :: v64 :: v65 :: v66 :: v67 :: v68 :: v69 :: v70 :: v71 :: v72 :: v73 :: v74 :: v75 :: v76 :: v77 :: v78 :: v79 :: v80 :: v81 :: v82 :: v83 :: v84 :: v85 :: v86 :: v87 :: v88 :: v89 :: v90 :: v91 :: v92 :: v93 :: v94 :: v95 :: v96 :: v97 :: v98 :: v99 :: v100 :: v101 :: v102 :: v103 :: v104 :: v105 :: v106 :: v107 :: v108 :: v109 :: v110 :: u111 :: u112 :: u113 :: u114 :: u115 :: u116 :: u117 :: u118 :: u119 :: v120 :: v121 :: v122 :: v123 :: v124 :: v125 :: v126 :: v127 :: v128 :: v129 :: v130 :: v131 :: v132 :: v133 :: v134 :: v135 :: v136 :: v137 :: v138 :: v139 :: v140 :: v141 :: v142 :: v143 :: v144 :: v145 :: v146 :: v147 :: v148 :: v149 :: v150 :: v151 :: v152 :: v153 :: v154 :: v155 :: v156 :: v157 :: v158 :: v159 :: v160 :: v161 :: v162 :: v163 :: v164 :: v165 :: v166 :: v167 :: v168 :: v169 :: []), []⟩ (V.setCell ⟨wb, t, none⟩ (.slice (some ⟨g, 0, none⟩) (lq + 1) c'))) :
    Code.wp Try.prog trR (OnEndJ K) ⟨List.toArray (v0 :: v1 :: v2 :: v3 :: v4 :: v5 :: v6 :: v7 :: .slice (some ⟨wb, 0, none⟩) N N :: v9 :: v10 :: v11 :: v12 :: .pointer (some ⟨eb, 0, none⟩) :: .slice la lq lc :: v15 :: v16 :: v17 :: v18 :: v19 :: v20 :: v21 :: v22 :: v23 :: v24 :: v25 :: v26 :: v27 :: v28 :: v29 :: v30 :: v31 :: v32 :: v33 :: v34 :: v35 :: v36 :: v37 :: v38 :: v39 :: v40 :: v41 :: v42 :: v43 :: v44 :: v45 :: v46 :: v47 :: v48 :: v49 :: v50 :: v51 :: v52 :: v53 :: v54 :: v55 :: v56 :: v57 :: v58 :: v59 :: v60 :: v61 :: v62 :: v63 :: v64 :: v65 :: v66 :: v67 :: v68 :: v69 :: v70 :: v71 :: v72 :: v73 :: v74 :: v75 :: v76 :: v77 :: v78 :: v79 :: v80 :: v81 :: v82 :: v83 :: v84 :: v85 :: v86 :: v87 :: v88 :: v89 :: v90 :: v91 :: v92 :: v93 :: v94 :: v95 :: v96 :: v97 :: v98 :: v99 :: v100 :: v101 :: v102 :: v103 :: v104 :: v105 :: v106 :: v107 :: v108 :: v109 :: v110 :: v111 :: v112 :: v113 :: v114 :: v115 :: v116 :: v117 :: v118 :: v119 :: v120 :: v121 :: v122 :: v123 :: v124 :: v125 :: v126 :: v127 :: v128 :: v129 :: v130 :: v131 :: v132 :: v133 :: v134 :: v135 :: v136 :: v137 :: v138 :: v139 :: v140 :: v141 :: v142 :: v143 :: v144 :: v145 :: v146 :: v147 :: v148 :: v149 :: v150 :: v151 :: v152 :: v153 :: v154 :: v155 :: v156 :: v157 :: v158 :: v159 :: v160 :: v161 :: v162 :: v163 :: v164 :: v165 :: v166 :: v167 :: v168 :: v169 :: []), []⟩ Z := by
  obtain ⟨i3, hi3, hv0, hv1, hv2⟩ := info_parts infoInt
  have HOW : Hid (∀ Y, Z.grownBy Y none → Y.ownsRow B 3 1 (.slice la lq lc) lq xs) := hOW
  have HPS : Hid (∀ Y, Z.grownBy Y none → B ≤ Y.heap.size) := hBS
  have HFIN := show Hid _ from hfin
  have ht0 : (0 : Int) ≤ (t : Int) := by omega
  clear hOW hBS hfin
  conv => arg 2; whnf
  go_region_law (first
    | (refine step_append_liesW _ rfl (.tmp 114) (.tmp 117) 24 rfl B 3 i3 (.int .i64 0) 1 8 Try.underlying24 hi3 hv0 hv1 hv2 rfl (by decide) (.slice la lq lc) lq xs (by simp [Act.eval]) (HOW.out _ (grown_trans (World.grownBy_alloc _ _ none) (grown_drewN _ 1))) ⟨Z.heap.size, 0, none⟩ 1 1 [.int .i64 (s : Int)] (by simp [Act.eval]) rfl (World.news_of_block (heap_alloc_last Z _)) (by simp [Value.oneCell']) (by decide) (by unfold maxLen; omega) (by omega) (HPS.out _ (grown_trans (World.grownBy_alloc _ _ none) (grown_drewN _ 1))) ?_; intro g7 c7 wC hoC hgC _; obtain ⟨q2, q3, q4, q1⟩ := HFIN.out _ wC g7 c7 (grown_trans (World.grownBy_alloc _ _ none) (grown_drewN _ 1)) hgC hoC; have HQ9 := show Hid _ from q1; clear q1 hoC hgC)
    | fail)
  all_goals exact HQ9.out _ _ _ _ _ _ _ _ _

theorem tr_wayq {Q0 : Exit → Act → World → Prop} {Z : World} {B wb eb N s t lq lc : Nat} {la : Option Addr} {ut : Value} {xs : List Value}
    {v0 v1 v2 v3 v4 v5 v6 v7 v9 v10 v11 v12 v15 v16 v17 v18 v19 v20 v21 v22 v23 v24 v25 v26 v27 v28 v29 v30 v31 v32 v33 v34 v35 v36 v37 v38 v39 v40 v41 v42 v43 v44 v45 v46 v47 v48 v49 v50 v51 v52 v53 v54 v55 v56 v57 v58 v59 v60 v61 v62 v63 v64 v65 v66 v67 v68 v69 v70 v71 v72 v73 v74 v75 v76 v77 v78 v79 v80 v81 v82 v83 v84 v85 v86 v87 v88 v89 v90 v91 v92 v93 v94 v95 v96 v97 v98 v99 v100 v101 v102 v103 v104 v105 v106 v107 v108 v109 v110 v111 v112 v113 v114 v115 v116 v117 v118 v119 v120 v121 v122 v123 v124 v125 v126 v127 v128 v129 v130 v131 v132 v133 v134 v135 v136 v137 v138 v139 v140 v141 v142 v143 v144 v145 v146 v147 v148 v149 v150 v151 v152 v153 v154 v155 v156 v157 v158 v159 v160 v161 v162 v163 v164 v165 v166 v167 v168 v169 : Value}
    (x1 : Z.cell? ⟨eb, 0, none⟩ = some (.int .i64 (s : Int))) (x2 : Z.cell? ⟨eb, 1, none⟩ = some (.int .i64 (t : Int)))
    (x4 : ∀ o, (Z.alloc o).cell? ⟨eb, 1, none⟩ = some (.int .i64 (t : Int)))
    (htN : (t : Int) < (N : Int)) (hlq : lq ≤ 1000)
    (hOW : ∀ Y, Z.grownBy Y none → Y.ownsRow B 3 1 (.slice la lq lc) lq xs) (hBS : ∀ Y, Z.grownBy Y none → B ≤ Y.heap.size)
    (hfin : ∀ (Y V : World) (g c' : Nat), Z.grownBy Y none → Y.grownBy V (Value.slice la lq lc).ownBlock → V.ownsRow B 3 1 (.slice (some ⟨g, 0, none⟩) (lq + 1) c') (lq + 1) (xs ++ [.int .i64 (s : Int)]) → V.cell? ⟨wb, t, none⟩ = some ut ∧ V.frozen? ⟨wb, t, none⟩ = false ∧ V.cell? ⟨eb, 1, none⟩ = some (.int .i64 (t : Int)) ∧ ∀ u111 u112 u113 u114 u115 u116 u117 u118 u119 : Value, Q0 .normal ⟨List.toArray (v0 :: v1 :: v2 :: v3 :: v4 :: v5 :: v6 :: v7 :: .slice (some ⟨wb, 0, none⟩) N N :: v9 :: v10 :: v11 :: v12 :: .pointer (some ⟨eb, 0, none⟩) :: .slice la lq lc :: v15 :: v16 :: v17 :: v18 :: v19 :: v20 :: v21 :: v22 :: v23 :: v24 :: v25 :: v26 :: v27 :: v28 :: v29 :: v30 :: v31 :: v32 :: v33 :: v34 :: v35 :: v36 :: v37 :: v38 :: v39 :: v40 :: v41 :: v42 :: v43 :: v44 :: v45 :: v46 :: v47 :: v48 :: v49 :: v50 :: v51 :: v52 :: v53 :: v54 :: v55 :: v56 :: v57 :: v58 :: v59 :: v60 :: v61 :: v62 :: v63 :: v64 :: v65 :: v66 :: v67 :: v68 :: v69 :: v70 :: v71 :: v72 :: v73 :: v74 :: v75 :: v76 :: v77 :: v78 :: v79 :: v80 :: v81 :: v82 :: v83 :: v84 :: v85 :: v86 :: v87 :: v88 :: v89 :: v90 :: v91 :: v92 :: v93 :: v94 :: v95 :: v96 :: v97 :: v98 :: v99 :: v100 :: v101 :: v102 :: v103 :: v104 :: v105 :: v106 :: v107 :: v108 :: v109 :: v110 :: u111 :: u112 :: u113 :: u114 :: u115 :: u116 :: u117 :: u118 :: u119 :: v120 :: v121 :: v122 :: v123 :: v124 :: v125 :: v126 :: v127 :: v128 :: v129 :: v130 :: v131 :: v132 :: v133 :: v134 :: v135 :: v136 :: v137 :: v138 :: v139 :: v140 :: v141 :: v142 :: v143 :: v144 :: v145 :: v146 :: v147 :: v148 :: v149 :: v150 :: v151 :: v152 :: v153 :: v154 :: v155 :: v156 :: v157 :: v158 :: v159 :: v160 :: v161 :: v162 :: v163 :: v164 :: v165 :: v166 :: v167 :: v168 :: v169 :: []), []⟩ (V.setCell ⟨wb, t, none⟩ (.slice (some ⟨g, 0, none⟩) (lq + 1) c'))) :
    Code.wp Try.prog trR Q0 ⟨List.toArray (v0 :: v1 :: v2 :: v3 :: v4 :: v5 :: v6 :: v7 :: .slice (some ⟨wb, 0, none⟩) N N :: v9 :: v10 :: v11 :: v12 :: .pointer (some ⟨eb, 0, none⟩) :: .slice la lq lc :: v15 :: v16 :: v17 :: v18 :: v19 :: v20 :: v21 :: v22 :: v23 :: v24 :: v25 :: v26 :: v27 :: v28 :: v29 :: v30 :: v31 :: v32 :: v33 :: v34 :: v35 :: v36 :: v37 :: v38 :: v39 :: v40 :: v41 :: v42 :: v43 :: v44 :: v45 :: v46 :: v47 :: v48 :: v49 :: v50 :: v51 :: v52 :: v53 :: v54 :: v55 :: v56 :: v57 :: v58 :: v59 :: v60 :: v61 :: v62 :: v63 :: v64 :: v65 :: v66 :: v67 :: v68 :: v69 :: v70 :: v71 :: v72 :: v73 :: v74 :: v75 :: v76 :: v77 :: v78 :: v79 :: v80 :: v81 :: v82 :: v83 :: v84 :: v85 :: v86 :: v87 :: v88 :: v89 :: v90 :: v91 :: v92 :: v93 :: v94 :: v95 :: v96 :: v97 :: v98 :: v99 :: v100 :: v101 :: v102 :: v103 :: v104 :: v105 :: v106 :: v107 :: v108 :: v109 :: v110 :: v111 :: v112 :: v113 :: v114 :: v115 :: v116 :: v117 :: v118 :: v119 :: v120 :: v121 :: v122 :: v123 :: v124 :: v125 :: v126 :: v127 :: v128 :: v129 :: v130 :: v131 :: v132 :: v133 :: v134 :: v135 :: v136 :: v137 :: v138 :: v139 :: v140 :: v141 :: v142 :: v143 :: v144 :: v145 :: v146 :: v147 :: v148 :: v149 :: v150 :: v151 :: v152 :: v153 :: v154 :: v155 :: v156 :: v157 :: v158 :: v159 :: v160 :: v161 :: v162 :: v163 :: v164 :: v165 :: v166 :: v167 :: v168 :: v169 :: []), []⟩ Z :=
  wp_mono (tr_way (K := fun a w => Q0 .normal a w) x1 x2 x4 htN hlq hOW hBS hfin) fun e a w h => by
    cases e <;> first | exact h | exact h.elim

end Go.Proofs.Ytfcholpleeiddaa.J
