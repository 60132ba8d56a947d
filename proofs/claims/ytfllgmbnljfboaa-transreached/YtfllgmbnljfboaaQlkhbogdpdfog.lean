import Derived.Test.YtfllgmbnljfboaaRows
import Derived.Test.YtfllgmbnljfboaaQpkhkbokfkalo
import Derived.Test.YtfllgmbnljfboaaQnpmfgjpklmba
import Derived.Test.YtfllgmbnljfboaaQnfcningjbcma
import Derived.Deep.RegionLaw
import Derived.Test.YtfllgmbnljfboaaQfmknjepdljbk
import Derived.Deep.RegionHeld3

/-
  trans: what the laws' theorems share.
-/
namespace Go.Proofs.Ytfllgmbnljfboaa.J
open Go.ChangeShapes Go.WideShapes Go.ChangeAt Go.RowKit Go.Deep

theorem own : ownKnob Try.prog.godebug = none := by kernel_rfl
theorem laidOut : laidOutB Try.prog = true := by kernel_rfl

end Go.Proofs.Ytfllgmbnljfboaa.J

/-
  trans: the search of the law TransReached, pure.
-/
namespace Go.Proofs.Ytfllgmbnljfboaa.J
open Go.RowKit Go.Maps Go.Shelf

/-- A kernel that leaving a state brought has an edge from it. -/
theorem leave_new {G : Nat → List It} {ks : List (List It)} : ∀ (s : Nat) {ks' : List (List It)} {ed : List (Nat × Nat)}, leaveF G ks s = some (ks', ed) → ∀ t, ks.length ≤ t → t < ks'.length → ∃ x ∈ ed, x.2 = t
  | 0, ks', ed, e, t, h1, h2 => by
    unfold leaveF at e
    cases e
    omega
  | s + 1, ks', ed, e, t, h1, h2 => by
    unfold leaveF at e
    cases h3 : leaveF G ks s with
    | none => rw [h3] at e; cases e
    | some q =>
      obtain ⟨k1, e1⟩ := q
      rw [h3] at e
      simp only at e
      by_cases hg : G s = []
      · rw [if_pos hg] at e
        cases e
        exact leave_new s h3 t h1 h2
      · rw [if_neg hg] at e
        cases h4 : askF k1 (G s) with
        | none => rw [h4] at e; cases e
        | some q2 =>
          obtain ⟨u, k2⟩ := q2
          rw [h4] at e
          cases e
          by_cases h5 : t < k1.length
          · obtain ⟨x, hx, h6⟩ := leave_new s h3 t h1 h5
            exact ⟨x, List.mem_append_left _ hx, h6⟩
          · refine ⟨(s, u), List.mem_append_right _ (List.mem_singleton.2 rfl), ?_⟩
            unfold askF at h4
            by_cases hk : G s ∈ k1
            · rw [if_pos hk] at h4
              cases h4
              omega
            · rw [if_neg hk] at h4
              by_cases hl : k1.length < 256
              · rw [if_pos hl] at h4
                cases h4
                rw [List.length_append, List.length_singleton] at h2
                show k1.length = t
                omega
              · rw [if_neg hl] at h4; cases h4
/-- Each state but the first has an edge from one below it. -/
theorem auto_new {G : List It → Nat → List It} {S : Nat} : ∀ (i : Nat) {ks : List (List It)} {es : List (List (Nat × Nat))}, autoF G S i = some (ks, es) → ∀ t, 0 < t → t < ks.length → ∃ p, p < t ∧ ∃ x ∈ es.getD p [], x.2 = t
  | 0, ks, es, e, t, h1, h2 => by
    unfold autoF at e
    cases e
    simp only [List.length_singleton] at h2
    omega
  | i + 1, ks', es', e, t, h1, h2 => by
    cases h3 : autoF G S i with
    | none => have := autoF_none h3 1; rw [this] at e; cases e
    | some q =>
      obtain ⟨ks, es⟩ := q
      have ih := auto_new i h3
      have ha := autoOK (P := fun _ _ => True) trivial (fun _ _ _ _ _ _ => trivial) i h3
      by_cases hi : i < ks.length
      · rw [autoF_step h3 hi] at e
        have hes : es.length = i := by rw [ha.len]; omega
        cases h4 : leaveF (G (ks.getD i [])) ks S with
        | none => rw [h4] at e; cases e
        | some q2 =>
          obtain ⟨k2, ed⟩ := q2
          rw [h4] at e
          cases e
          by_cases h5 : t < ks.length
          · obtain ⟨p, h6, x, hx, h7⟩ := ih t h1 h5
            have hp : p < es.length := by
              refine Nat.lt_of_not_le fun h8 => ?_
              rw [List.getD_eq_getElem?_getD, List.getElem?_eq_none h8] at hx
              simp at hx
            exact ⟨p, h6, x, by rw [getD_snoc_old hp]; exact hx, h7⟩
          · obtain ⟨x, hx, h6⟩ := leave_new S h4 t (by omega) h2
            exact ⟨i, by omega, x, by rw [← hes, getD_snoc_new]; exact hx, h6⟩
      · have := autoF_stay h3 (Nat.le_of_not_lt hi) 1
        rw [this] at e
        cases e
        exact ih t h1 h2

/-- How many below m are marked. -/
def cntN (f : Nat → Bool) : Nat → Nat
  | 0 => 0
  | m + 1 => cntN f m + (if f m = true then 1 else 0)
def markN (f : Nat → Bool) (t : Nat) : Nat → Bool := fun x => if x = t then true else f x
theorem cntN_le (f : Nat → Bool) : ∀ m, cntN f m ≤ m
  | 0 => Nat.le_refl _
  | m + 1 => by
    unfold cntN
    have := cntN_le f m
    by_cases h : f m = true
    · rw [if_pos h]; omega
    · rw [if_neg h]; omega
theorem cntN_far (f : Nat → Bool) (t : Nat) : ∀ m, m ≤ t → cntN (markN f t) m = cntN f m
  | 0, _ => rfl
  | m + 1, h => by
    unfold cntN
    rw [cntN_far f t m (by omega), show markN f t m = f m from if_neg (by omega)]
theorem cntN_mark {f : Nat → Bool} {t : Nat} (ht : f t = false) : ∀ m, t < m → cntN (markN f t) m = cntN f m + 1
  | 0, h => absurd h (Nat.not_lt_zero _)
  | m + 1, h => by
    unfold cntN
    by_cases e : t = m
    · subst e
      rw [cntN_far f t t (Nat.le_refl _), show markN f t t = true from if_pos rfl, ht]
      rfl
    · rw [cntN_mark ht m (by omega), show markN f t m = f m from if_neg (fun h => e h.symm)]
      omega

/-- The search under way: of state q the edges below i are done (q = N: of none are some left). -/
structure SrP (es : List (List (Nat × Nat))) (N S : Nat) (inn : Nat → Bool) (ways : Nat → List Int) (todo : List Nat) (q i : Nat) : Prop where
  zero : inn 0 = true
  way : ∀ t, t < N → inn t = true → wayF es (some 0) (ways t) = some (t : Int) ∧ (∀ x ∈ ways t, 0 ≤ x ∧ x < (S : Int)) ∧ (ways t).length < cntN inn N
  todoIn : ∀ t ∈ todo, t < N ∧ inn t = true
  done : ∀ t, t < N → inn t = true → t ∉ todo → ∀ j, j < (es.getD t []).length → (t = q → j < i) → inn ((es.getD t []).getD j (0, 0)).2 = true
section
variable {es : List (List (Nat × Nat))} {N S : Nat} {inn : Nat → Bool} {ways : Nat → List Int} {todo : List Nat} {q i : Nat}
theorem SrP.start (hN : 0 < N) : SrP es N S (markN (fun _ => false) 0) (fun _ => []) [0] N 0 where
  zero := rfl
  way := fun t ht hi => by
    have h0 : t = 0 := by
      by_cases e : t = 0
      · exact e
      · exact absurd hi (by rw [show markN (fun _ => false) 0 t = false from if_neg e]; decide)
    subst h0
    exact ⟨rfl, (fun x hx => by cases hx), by rw [cntN_mark rfl N hN]; exact Nat.succ_pos _⟩
  todoIn := fun t ht => by rw [List.mem_singleton.1 ht]; exact ⟨hN, rfl⟩
  done := fun t _ hi hn => by
    have h0 : t = 0 := by
      by_cases e : t = 0
      · exact e
      · exact absurd hi (by rw [show markN (fun _ => false) 0 t = false from if_neg e]; decide)
    exact absurd (List.mem_singleton.2 h0) hn
theorem SrP.pop (h : SrP es N S inn ways (q :: todo) N 0) : SrP es N S inn ways todo q 0 where
  zero := h.zero
  way := h.way
  todoIn := fun t ht => h.todoIn t (List.mem_cons_of_mem _ ht)
  done := fun t ht hi hn j hj hq => by
    by_cases e : t = q
    · exact absurd (hq e) (Nat.not_lt_zero _)
    · exact h.done t ht hi (fun hm => (List.mem_cons.1 hm).elim e hn) j hj (fun h1 => absurd ht (by omega))
theorem SrP.skip (h : SrP es N S inn ways todo q i) (hx : inn ((es.getD q []).getD i (0, 0)).2 = true) : SrP es N S inn ways todo q (i + 1) where
  zero := h.zero
  way := h.way
  todoIn := h.todoIn
  done := fun t ht hi hn j hj hq => by
    by_cases e : t = q ∧ j = i
    · obtain ⟨rfl, rfl⟩ := e; exact hx
    · exact h.done t ht hi hn j hj (fun h1 => by have := hq h1; have : j ≠ i := fun h2 => e ⟨h1, h2⟩; omega)
theorem SrP.add (h : SrP es N S inn ways todo q i) (hq : q < N) (hqi : inn q = true) {s t : Nat} (hx : (es.getD q []).getD i (0, 0) = (s, t)) (hs : s < S) (ht : t < N) (hno : inn t = false) (hl : leadA es ((q : Int), (s : Int)) = some (t : Int)) : SrP es N S (markN inn t) (fun u => if u = t then ways q ++ [(s : Int)] else ways u) (todo ++ [t]) q (i + 1) := by
  have hc := cntN_mark hno N ht
  have hold : ∀ u, inn u = true → markN inn t u = true := fun u hu => by
    unfold markN
    by_cases e : u = t
    · rw [if_pos e]
    · rw [if_neg e]; exact hu
  refine ⟨hold 0 h.zero, fun u hu hi => ?_, fun u hu => ?_, fun u hu hi hn j hj hjq => ?_⟩
  · by_cases e : u = t
    · subst e
      rw [if_pos rfl]
      obtain ⟨w1, w2, w3⟩ := h.way q hq hqi
      refine ⟨by rw [wayF_append, w1]; exact hl, fun x hx => ?_, by rw [List.length_append, List.length_singleton]; omega⟩
      rcases List.mem_append.1 hx with hx | hx
      · exact w2 x hx
      · rw [List.mem_singleton.1 hx]; omega
    · rw [if_neg e]
      obtain ⟨w1, w2, w3⟩ := h.way u hu (by rw [show markN inn t u = inn u from if_neg e] at hi; exact hi)
      exact ⟨w1, w2, by omega⟩
  · rcases List.mem_append.1 hu with hu | hu
    · exact ⟨(h.todoIn u hu).1, hold u (h.todoIn u hu).2⟩
    · rw [List.mem_singleton.1 hu]; exact ⟨ht, if_pos rfl⟩
  · have e : u ≠ t := fun e => hn (List.mem_append_right _ (List.mem_singleton.2 e))
    rw [show markN inn t u = inn u from if_neg e] at hi
    by_cases e2 : u = q ∧ j = i
    · obtain ⟨rfl, rfl⟩ := e2
      rw [hx]; exact if_pos rfl
    · exact hold _ (h.done u hu hi (fun hm => hn (List.mem_append_left _ hm)) j hj (fun h1 => by have := hjq h1; have : j ≠ i := fun h2 => e2 ⟨h1, h2⟩; omega))
theorem SrP.left (h : SrP es N S inn ways todo q i) (hi : (es.getD q []).length ≤ i) : SrP es N S inn ways todo N 0 where
  zero := h.zero
  way := h.way
  todoIn := h.todoIn
  done := fun t ht hin hn j hj _ => h.done t ht hin hn j hj (fun e => by subst e; omega)
/-- All are found in the end. -/
theorem SrP.all (h : SrP es N S inn ways [] N 0) (hnew : ∀ t, 0 < t → t < N → ∃ p, p < t ∧ ∃ x ∈ es.getD p [], x.2 = t) : ∀ (m t : Nat), t < m → t < N → inn t = true
  | 0, _, hm, _ => absurd hm (Nat.not_lt_zero _)
  | m + 1, t, hm, ht => by
    by_cases e : t = 0
    · subst e; exact h.zero
    · obtain ⟨p, h1, x, hx, h2⟩ := hnew t (by omega) ht
      have hp := SrP.all h hnew m p (by omega) (by omega)
      obtain ⟨j, hj, h3⟩ := List.getElem_of_mem hx
      have h4 := h.done p (by omega) hp (by simp) j hj (fun h5 => by omega)
      rw [List.getD_eq_getElem?_getD, List.getElem?_eq_getElem hj, h3] at h4
      simp only [Option.getD_some] at h4
      rw [h2] at h4
      exact h4
end

end Go.Proofs.Ytfllgmbnljfboaa.J

/-
  trans: the law TransReached, where there is no automaton.
-/
namespace Go.Proofs.Ytfllgmbnljfboaa.J
open Go.RowKit Go.Maps Go.Shelf

attribute [local go_sem] Oper.semAt_some

section
variable (ta na la pa : Option Addr) (tc nc lc pc : Nat) (n : Nat) (st : Int) (w : World) (tn nn ln : Nat)
set_option maxRecDepth 100000 in
set_option maxHeartbeats 4000000 in
theorem reached_bad (ec : Int) (hec : ec = 1 ∨ ec = 11) (hO : OfBad ta na la pa tc nc lc pc n st w tn nn ln ec)
    (hBU : ∀ X, w.grownBy X none → Calls Try.prog 13 #[.agg #[.slice ta tn tc, .slice na nn nc, .slice la ln lc, .int .i64 st, .slice pa n pc]] X fun e y => e = .returned (.tuple #[.agg #[.slice none 0 0, .int .i64 0, .int .i64 0], .int .i64 ec]) ∧ X.grownBy y none) :
    Calls Try.prog 7 #[.agg #[.slice ta tn tc, .slice na nn nc, .slice la ln lc, .int .i64 st, .slice pa n pc]] w fun e w' => e = .returned (.bool true) ∧ w.grownBy w' none := by
  have HBU := show Hid _ from hBU
  have HWX : Hid (∀ X, w.grownBy X none → Calls Try.prog 10 #[.agg #[.slice ta tn tc, .slice na nn nc, .slice la ln lc, .int .i64 st, .slice pa n pc], .int .i64 0, .slice none 0 0] X fun e y => e = .returned (.tuple #[.int .i64 0, .int .i64 ec]) ∧ X.grownBy y none) := fun X hX => walkX_bad ta na la pa tc nc lc pc n st X tn nn ln ec hec (fun Y hY => hO Y (grown_trans hX hY)) 0 none 0 0
  have HX0 : Hid (PhAt w (w.alloc (.cells #[.slice ta tn tc, .slice na nn nc, .slice la ln lc, .int .i64 st, .slice pa n pc] 27)) w.heap.size #[.slice ta tn tc, .slice na nn nc, .slice la ln lc, .int .i64 st, .slice pa n pc]) := ⟨World.grownBy_alloc _ _ none, heap_alloc_last w _⟩
  have hne : (ec != 0) = true := bne_iff_ne.2 (by omega)
  have hee : (ec == ec) = true := beq_self_eq_true _
  clear hBU hO hec
  go_enter Try.func7, Try.ntmps7
  go_wp2_with fail
  refine Calls.mono (awake_any _) ?_
  rintro e w1 ⟨rfl, hg1⟩
  have HX1 : Hid (PhAt w w1 w.heap.size #[.slice ta tn tc, .slice na nn nc, .slice la ln lc, .int .i64 st, .slice pa n pc]) := HX0.out.kept hg1
  clear hg1 HX0
  obtain ⟨k0, k1, k2, k3, k4⟩ := HX1.out.cells
  go_wp2_with fail
  refine Calls.mono (HBU.out _ HX1.out.grown) ?_
  rintro e w2 ⟨rfl, hg2⟩
  have HX2 : Hid (PhAt w (w2.alloc (.cells #[.slice none 0 0, .int .i64 0, .int .i64 0] 42)) w.heap.size #[.slice ta tn tc, .slice na nn nc, .slice la ln lc, .int .i64 st, .slice pa n pc]) := HX1.out.kept (grown_trans hg2 (World.grownBy_alloc _ _ none))
  clear hg2 HX1 k0 k1 k2 k3 k4
  obtain ⟨k0, k1, k2, k3, k4⟩ := HX2.out.cells
  go_wp2_with fail
  refine Calls.mono (HWX.out _ HX2.out.grown) ?_
  rintro e w3 ⟨rfl, hg3⟩
  have HG3 : Hid (w.grownBy w3 none) := grown_trans HX2.out.grown hg3
  clear hg3 HX2 k0 k1 k2 k3 k4
  go_wp2_with fail
  go_ret
  exact ⟨rfl, HG3.out⟩
end

end Go.Proofs.Ytfllgmbnljfboaa.J

/-
  trans: the search of the law TransReached, in memory.
-/
namespace Go.Proofs.Ytfllgmbnljfboaa.J
open Go.RowKit Go.Maps Go.Shelf

def natI (l : List Nat) : List Int := l.map fun (i : Nat) => (i : Int)
theorem natI_len (l : List Nat) : (natI l).length = l.length := by unfold natI; rw [List.length_map]
theorem natI_snoc (l : List Nat) (t : Nat) : natI (l ++ [t]) = natI l ++ [(t : Int)] := by unfold natI; rw [List.map_append]; rfl

theorem ints_ofR {X : World} {B c : Nat} {a : Option Addr} {l : List Int} (h : X.ownsRow B 3 1 (.slice a l.length c) l.length (intV l)) : IntsAt X a l := by
  rcases h.2 with ⟨_, h0⟩ | ⟨g, cap, cur, hv, hB, hh, hn, hm, hs, ht⟩
  · exact .inl (List.eq_nil_of_length_eq_zero h0)
  · simp only [Value.slice.injEq] at hv
    refine .inr ⟨g, 0, hv.1, fun i hi => ?_⟩
    rw [cell_of_row _ _ _ _ _ _ hh, Nat.zero_add]
    have h1 : (cur.toList.take (l.length * 1))[i]? = (intV l)[i]? := by rw [ht]
    rw [List.getElem?_take, if_pos (by omega)] at h1
    rw [← Array.getElem?_toList, h1]
    unfold intV
    rw [List.getElem?_map, List.getElem?_eq_getElem hi, List.getD_eq_getElem?_getD, List.getElem?_eq_getElem hi]; rfl
theorem ints_nil {X : World} {B e n c : Nat} {a : Option Addr} {xs : List Value} (h : X.ownsRow B e 1 (.slice a n c) n xs) : a = none → n = 0 ∧ c = 0 := fun e => by
  rcases h.2 with ⟨h1, h2⟩ | ⟨g, cap, cur, h1, _⟩
  · simp only [Value.slice.injEq] at h1
    exact ⟨h2, h1.2.2⟩
  · simp only [Value.slice.injEq] at h1
    rw [e] at h1
    cases h1.1

/-- The search under way, in memory. -/
structure RcAt (P X : World) (wb ib N : Nat) (inn : Nat → Bool) (ways : Nat → List Int) (ua : Nat → Option Addr) (uc : Nat → Nat) (a : Option Addr) (cap : Nat) (todo : List Int) : Prop where
  grown : P.grownBy X none
  wv : ValAt X wb N 24 (fun k => .slice (ua k) (ways k).length (uc k))
  iv : ValAt X ib N 4 (fun k => .bool (inn k))
  que : QueAt X P.heap.size a cap todo
  own : ∀ k, k < N → X.ownsRow P.heap.size 3 1 (.slice (ua k) (ways k).length (uc k)) (ways k).length (intV (ways k))
  sep : cap ≠ 0 → ∀ g off, a = some ⟨g, off, none⟩ → ∀ k, k < N → (Value.slice (ua k) (ways k).length (uc k)).ownBlock ≠ some g
  lo : P.heap.size ≤ wb ∧ P.heap.size ≤ ib
section
variable {P X Y : World} {wb ib N : Nat} {inn : Nat → Bool} {ways : Nat → List Int} {ua : Nat → Option Addr} {uc : Nat → Nat} {a : Option Addr} {cap : Nat} {todo : List Int}
theorem RcAt.kept (h : RcAt P X wb ib N inn ways ua uc a cap todo) (hg : X.grownBy Y none) : RcAt P Y wb ib N inn ways ua uc a cap todo :=
  ⟨grown_trans h.grown hg, h.wv.kept hg, h.iv.kept hg, h.que.kept hg, fun k hk => keep0 (h.own k hk) hg, h.sep, h.lo⟩
theorem val_ne {k k' len len' : Nat} {t t' : TypeId} {c c' : Nat → Value} (h : ValAt X k len t c) (h' : ValAt X k' len' t' c') (ht : t ≠ t') : k ≠ k' := fun e => by
  subst e
  unfold ValAt at h h'
  rw [h] at h'
  simp only [Option.some.injEq, Obj.cells.injEq] at h'
  exact ht h'.2.1
theorem RcAt.mark (h : RcAt P X wb ib N inn ways ua uc a cap todo) (t : Nat) : RcAt P (X.setCell ⟨ib, t, none⟩ (.bool true)) wb ib N (markN inn t) ways ua uc a cap todo := by
  have hg : X.grownBy (X.setCell ⟨ib, t, none⟩ (.bool true)) (some ib) := grown_setCell _ _ _
  refine ⟨grown_new h.grown hg h.lo.2, h.wv.at hg (val_ne h.wv h.iv (by decide)), ?_, h.que.other hg h.iv (by decide), fun k hk => (h.own k hk).kept hg (owns_nebox (h.own k hk) h.iv (by decide)), h.sep, h.lo⟩
  refine (h.iv.set t (.bool true)).ext fun i _ => ?_
  unfold put markN
  by_cases e : i = t
  · rw [if_pos e, if_pos e]
  · rw [if_neg e, if_neg e]
theorem RcAt.pop {x : Int} {ys : List Int} {g off : Nat} (h : RcAt P X wb ib N inn ways ua uc (some ⟨g, off, none⟩) cap (x :: ys)) (a' : Option Addr) (ha : 1 < cap → a' = some ⟨g, off + 1, none⟩) : RcAt P X wb ib N inn ways ua uc a' (cap - 1) ys :=
  ⟨h.grown, h.wv, h.iv, h.que.tail a' ha, h.own, fun hc g' off' e k hk => by
    rw [ha (by omega)] at e
    simp only [Option.some.injEq, Addr.mk.injEq] at e
    obtain ⟨rfl, _⟩ := e
    exact h.sep (by omega) g off rfl k hk, h.lo⟩
/-- The way of a state. -/
theorem RcAt.add (h : RcAt P X wb ib N inn ways ua uc a cap todo) {t g c : Nat} {l : List Int} (hg : X.grownBy Y none) (ho : Y.ownsRow X.heap.size 3 1 (.slice (some ⟨g, 0, none⟩) l.length c) l.length (intV l)) : RcAt P (Y.setCell ⟨wb, t, none⟩ (.slice (some ⟨g, 0, none⟩) l.length c)) wb ib N inn (fun u => if u = t then l else ways u) (updL ua t (some ⟨g, 0, none⟩)) (updL uc t c) a cap todo := by
  have h2 := h.kept hg
  have hs : Y.grownBy (Y.setCell ⟨wb, t, none⟩ (.slice (some ⟨g, 0, none⟩) l.length c)) (some wb) := grown_setCell _ _ _
  refine ⟨grown_new h2.grown hs h.lo.1, ?_, h2.iv.at hs (val_ne h2.iv h2.wv (by decide)), h2.que.other hs h2.wv (by decide), fun k hk => ?_, fun hc g' off' e k hk => ?_, h.lo⟩
  · refine (h2.wv.set t _).ext fun i _ => ?_
    unfold put updL
    by_cases e : i = t
    · simp only [if_pos e]
    · simp only [if_neg e]
  · unfold updL
    by_cases e : k = t
    · simp only [if_pos e]
      exact (owns_base ho h.grown.size).kept hs (owns_nebox ho h2.wv (by decide))
    · simp only [if_neg e]
      exact (h2.own k hk).kept hs (owns_nebox (h2.own k hk) h2.wv (by decide))
  · unfold updL
    by_cases e2 : k = t
    · simp only [if_pos e2]
      intro e3
      have e4 : g = g' := by simpa [Value.ownBlock] using e3
      have h5 := (ho.lt g rfl).1
      obtain ⟨g2, off2, cur, h6, _, h7, _⟩ := h.que.2 hc
      rw [e] at h6
      simp only [Option.some.injEq, Addr.mk.injEq] at h6
      have h8 := (Array.getElem?_eq_some_iff.1 h7).1
      omega
    · simp only [if_neg e2]
      exact h.sep hc g' off' e k hk
theorem RcAt.push (h : RcAt P X wb ib N inn ways ua uc a cap todo) {a' : Option Addr} {cap' : Nat} {x : Int} (hq : QueAt Y P.heap.size a' cap' (todo ++ [x])) (hg : QueTo X a cap a' Y) : RcAt P Y wb ib N inn ways ua uc a' cap' (todo ++ [x]) := by
  rcases hg with ⟨hg, e⟩ | ⟨g, off, hc, e, e', hg⟩
  · have h2 := h.kept hg
    refine ⟨h2.grown, h2.wv, h2.iv, hq, h2.own, fun _ g off e2 k hk e3 => ?_, h.lo⟩
    rw [e] at e2
    simp only [Option.some.injEq, Addr.mk.injEq] at e2
    have := ((h.own k hk).lt g e3).2
    omega
  · obtain ⟨g2, off2, cur, h6, hlo, h7, _⟩ := h.que.2 hc
    rw [e] at h6
    simp only [Option.some.injEq, Addr.mk.injEq] at h6
    obtain ⟨rfl, _⟩ := h6
    have n1 : wb ≠ g := fun e9 => by
      have h9 := h.wv
      unfold ValAt at h9
      rw [e9, h7] at h9
      simp only [Option.some.injEq, Obj.cells.injEq] at h9
      exact absurd h9.2.1 (by decide)
    have n2 : ib ≠ g := fun e9 => by
      have h9 := h.iv
      unfold ValAt at h9
      rw [e9, h7] at h9
      simp only [Option.some.injEq, Obj.cells.injEq] at h9
      exact absurd h9.2.1 (by decide)
    refine ⟨grown_new h.grown hg hlo, h.wv.at hg n1, h.iv.at hg n2, hq, fun k hk => (h.own k hk).kept hg (.inr (h.sep hc g off e k hk)), fun _ g' off' e2 k hk => ?_, h.lo⟩
    rw [e'] at e2
    simp only [Option.some.injEq, Addr.mk.injEq] at e2
    obtain ⟨rfl, _⟩ := e2
    exact h.sep hc g off e k hk
end

end Go.Proofs.Ytfllgmbnljfboaa.J

/-
  trans: the law TransReached: a way more, a declaration of its own (printed by tools/trreggen.py).
-/
namespace Go.Proofs.Ytfllgmbnljfboaa.J
open Go.RowKit Go.Maps Go.Shelf

attribute [local go_sem] Oper.semAt_some

noncomputable def trR : Code := ((Try.f7.body.map (regionsJ 25)).getD []).getD 0 .skip

set_option maxRecDepth 100000 in
set_option maxHeartbeats 8000000 in
theorem tr_way {K : Act → World → Prop} {Z : World} {B wb eb N s t lq lc : Nat} {la : Option Addr} {ut : Value} {xs : List Value}
    {v0 v1 v2 v3 v4 v5 v6 v7 v9 v10 v11 v12 v15 v16 v17 v18 v19 v20 v21 v22 v23 v24 v25 v26 v27 v28 v29 v30 v31 v32 v33 v34 v35 v36 v37 v38 v39 v40 v41 v42 v43 v44 v45 v46 v47 v48 v49 v50 v51 v52 v53 v54 v55 v56 v57 v58 v59 v60 v61 v62 v63 v64 v65 v66 v67 v68 v69 v70 v71 v72 v73 v74 v75 v76 v77 v78 v79 v80 v81 v82 v83 v84 v85 v86 v87 v88 v89 v90 v91 v92 v93 v94 v95 v96 v97 v98 v99 v100 v101 v102 v103 v104 v105 v106 v107 v108 v109 v110 v111 v112 v113 v114 v115 v116 v117 v118 v119 v120 v121 v122 v123 v124 v125 v126 v127 v128 v129 v130 v131 v132 v133 v134 v135 v136 v137 v138 v139 v140 v141 v142 v143 v144 v145 v146 v147 v148 v149 v150 v151 v152 v153 v154 v155 v156 v157 v158 v159 v160 v161 v162 v163 v164 v165 v166 v167 v168 v169 : Value}
    (x1 : Z.cell? ⟨eb, 0, none⟩ = some (.int .i64 (s : Int))) (x2 : Z.cell? ⟨eb, 1, none⟩ = some (.int .i64 (t : Int)))
    (x4 : ∀ o, (Z.alloc o).cell? ⟨eb, 1, none⟩ = some (.int .i64 (t : Int)))
    (htN : (t : Int) < (N : Int)) (hlq : lq ≤ 1000)
    (hOW : ∀ Y, Z.grownBy Y none → Y.ownsRow B 3 1 (.slice la lq lc) lq xs) (hBS : ∀ Y, Z.grownBy Y none → B ≤ Y.heap.size)
    (hfin : ∀ (Y V : World) (g c' : Nat), Z.grownBy Y none → Y.grownBy V (Value.slice la lq lc).ownBlock → V.ownsRow B 3 1 (.slice (some ⟨g, 0, none⟩) (lq + 1) c') (lq + 1) (xs ++ [.int .i64 (s : Int)]) → V.cell? ⟨wb, t, none⟩ = some ut ∧ V.frozen? ⟨wb, t, none⟩ = false ∧ V.cell? ⟨eb, 1, none⟩ = some (.int .i64 (t : Int)) ∧ ∀ u111 u112 u113 u114 u115 u116 u117 u118 u119 : Value, K ⟨List.toArray (v0 :: v1 :: v2 :: v3 :: v4 :: v5 :: v6 :: v7 :: .slice (some ⟨wb, 0, none⟩) N N :: v9 :: v10 :: v11 :: v12 :: .pointer (some ⟨eb, 0, none⟩) :: .slice la lq lc :: v15 :: v16 :: v17 :: v18 :: v19 :: v20 :: v21 :: v22 :: v23 :: v24 :: v25 :: v26 :: v27 :: v28 :: v29 :: v30 :: v31 :: v32 :: v33 :: v34 :: v35 :: v36 :: v37 :: v38 :: v39 :: v40 :: v41 :: v42 :: v43 :: v44 :: v45 :: v46 :: v47 :: v48 :: v49 :: v50 :: v51 :: v52 :: v53 :: v54 :: v55 :: v56 :: v57 :: v58 :: v59 :: v60 :: v61 :: v62 :: v63 :: v64 :: v65 :: v66 :: v67 :: v68 :: v69 :: v70 :: v71 :: v72 :: v73 :: v74 :: v75 :: v76 :: v77 :: v78 :: v79 :: v80 :: v81 :: v82 :: v83 :: v84 :: v85 :: v86 :: v87 :: v88 :: v89 :: v90 :: v91 :: v92 :: v93 :: v94 :: v95 :: v96 :: v97 :: v98 :: v99 :: v100 :: v101 :: v102 :: v103 :: v104 :: v105 :: v106 :: v107 :: v108 :: v109 :: v110 :: u111 :: u112 :: u113 :: u114 :: u115 :: u116 :: u117 :: u118 :: u119 :: v120 :: v121 :: v122 :: v123 :: v124 :: v125 :: v126 :: v127 :: v128 :: v129 :: v130 :: v131 :: v132 :: v133 :: v134 :: v135 :: v136 :: v137 :: v138 :: v139 :: v140 :: v141 :: v142 :: v143 :: v144 :: v145 :: v146 :: v147 :: v148 :: v149 :: v150 :: v151 :: v152 :: v153 :: v154 :: v155 :: v156 :: v157 :: v158 :: v159 :: v160 :: v161 :: v162 :: v163 :: v164 :: v165 :: v166 :: v167 :: v168 :: v169 :: []), []⟩ (V.setCell ⟨wb, t, none⟩ (.slice (some ⟨g, 0, none⟩) (lq + 1) c'))) :
    Code.wp Try.prog trR (OnEndJ K) ⟨List.toArray (v0 :: v1 :: v2 :: v3 :: v4 :: v5 :: v6 :: v7 :: .slice (some ⟨wb, 0, none⟩) N N :: v9 :: v10 :: v11 :: v12 :: .pointer (some ⟨eb, 0, none⟩) :: .slice la lq lc :: v15 :: v16 :: v17 :: v18 :: v19 :: v20 :: v21 :: v22 :: v23 :: v24 :: v25 :: v26 :: v27 :: v28 :: v29 :: v30 :: v31 :: v32 :: v33 :: v34 :: v35 :: v36 :: v37 :: v38 :: v39 :: v40 :: v41 :: v42 :: v43 :: v44 :: v45 :: v46 :: v47 :: v48 :: v49 :: v50 :: v51 :: v52 :: v53 :: v54 :: v55 :: v56 :: v57 :: v58 :: v59 :: v60 :: v61 :: v62 :: v63 :: v64 :: v65 :: v66 :: v67 :: v68 :: v69 :: v70 :: v71 :: v72 :: v73 :: v74 :: v75 :: v76 :: v77 :: v78 :: v79 :: v80 :: v81 :: v82 :: v83 :: v84 :: v85 :: v86 :: v87 :: v88 :: v89 :: v90 :: v91 :: v92 :: v93 :: v94 :: v95 :: v96 :: v97 :: v98 :: v99 :: v100 :: v101 :: v102 :: v103 :: v104 :: v105 :: v106 :: v107 :: v108 :: v109 :: v110 :: v111 :: v112 :: v113 :: v114 :: v115 :: v116 :: v117 :: v118 :: v119 :: v120 :: v121 :: v122 :: v123 :: v124 :: v125 :: v126 :: v127 :: v128 :: v129 :: v130 :: v131 :: v132 :: v133 :: v134 :: v135 :: v136 :: v137 :: v138 :: v139 :: v140 :: v141 :: v142 :: v143 :: v144 :: v145 :: v146 :: v147 :: v148 :: v149 :: v150 :: v151 :: v152 :: v153 :: v154 :: v155 :: v156 :: v157 :: v158 :: v159 :: v160 :: v161 :: v162 :: v163 :: v164 :: v165 :: v166 :: v167 :: v168 :: v169 :: []), []⟩ Z := by
  obtain ⟨i3, hi3, hv0, hv1, hv2⟩ := info_parts infoInt
  have HOW : Hid (∀ Y, Z.grownBy Y none → Y.ownsRow B 3 1 (.slice la lq lc) lq xs) := hOW
  have HPS : Hid (∀ Y, Z.grownBy Y none → B ≤ Y.heap.size) := hBS
  have HFIN := show Hid _ from hfin
  have ht0 : (0 : Int) ≤ (t : Int) := by omega
  clear hOW hBS hfin
  conv => arg 2; whnf
  go_region_law (first
    | (refine step_append_liesW _ rfl (.tmp 114) (.tmp 117) 24 rfl B 3 i3 (.int .i64 0) 1 8 Try.underlying24 hi3 hv0 hv1 hv2 rfl (by decide) (.slice la lq lc) lq xs (by simp [Act.eval]) (HOW.out _ (grown_trans (World.grownBy_alloc _ _ none) (grown_drewN _ 1))) ⟨Z.heap.size, 0, none⟩ 1 1 [.int .i64 (s : Int)] (by simp [Act.eval]) rfl (World.news_of_block (heap_alloc_last Z _)) (by simp [Value.oneCell']) (by decide) (by unfold maxLen; omega) (by omega) (HPS.out _ (grown_trans (World.grownBy_alloc _ _ none) (grown_drewN _ 1))) ?_; intro g7 c7 wC hoC hgC _; obtain ⟨q2, q3, q4, q1⟩ := HFIN.out _ wC g7 c7 (grown_trans (World.grownBy_alloc _ _ none) (grown_drewN _ 1)) hgC hoC; have HQ9 := show Hid _ from q1; clear q1 hoC hgC)
    | fail)
  all_goals exact HQ9.out _ _ _ _ _ _ _ _ _

theorem tr_wayq {Q0 : Exit → Act → World → Prop} {Z : World} {B wb eb N s t lq lc : Nat} {la : Option Addr} {ut : Value} {xs : List Value}
    {v0 v1 v2 v3 v4 v5 v6 v7 v9 v10 v11 v12 v15 v16 v17 v18 v19 v20 v21 v22 v23 v24 v25 v26 v27 v28 v29 v30 v31 v32 v33 v34 v35 v36 v37 v38 v39 v40 v41 v42 v43 v44 v45 v46 v47 v48 v49 v50 v51 v52 v53 v54 v55 v56 v57 v58 v59 v60 v61 v62 v63 v64 v65 v66 v67 v68 v69 v70 v71 v72 v73 v74 v75 v76 v77 v78 v79 v80 v81 v82 v83 v84 v85 v86 v87 v88 v89 v90 v91 v92 v93 v94 v95 v96 v97 v98 v99 v100 v101 v102 v103 v104 v105 v106 v107 v108 v109 v110 v111 v112 v113 v114 v115 v116 v117 v118 v119 v120 v121 v122 v123 v124 v125 v126 v127 v128 v129 v130 v131 v132 v133 v134 v135 v136 v137 v138 v139 v140 v141 v142 v143 v144 v145 v146 v147 v148 v149 v150 v151 v152 v153 v154 v155 v156 v157 v158 v159 v160 v161 v162 v163 v164 v165 v166 v167 v168 v169 : Value}
    (x1 : Z.cell? ⟨eb, 0, none⟩ = some (.int .i64 (s : Int))) (x2 : Z.cell? ⟨eb, 1, none⟩ = some (.int .i64 (t : Int)))
    (x4 : ∀ o, (Z.alloc o).cell? ⟨eb, 1, none⟩ = some (.int .i64 (t : Int)))
    (htN : (t : Int) < (N : Int)) (hlq : lq ≤ 1000)
    (hOW : ∀ Y, Z.grownBy Y none → Y.ownsRow B 3 1 (.slice la lq lc) lq xs) (hBS : ∀ Y, Z.grownBy Y none → B ≤ Y.heap.size)
    (hfin : ∀ (Y V : World) (g c' : Nat), Z.grownBy Y none → Y.grownBy V (Value.slice la lq lc).ownBlock → V.ownsRow B 3 1 (.slice (some ⟨g, 0, none⟩) (lq + 1) c') (lq + 1) (xs ++ [.int .i64 (s : Int)]) → V.cell? ⟨wb, t, none⟩ = some ut ∧ V.frozen? ⟨wb, t, none⟩ = false ∧ V.cell? ⟨eb, 1, none⟩ = some (.int .i64 (t : Int)) ∧ ∀ u111 u112 u113 u114 u115 u116 u117 u118 u119 : Value, Q0 .normal ⟨List.toArray (v0 :: v1 :: v2 :: v3 :: v4 :: v5 :: v6 :: v7 :: .slice (some ⟨wb, 0, none⟩) N N :: v9 :: v10 :: v11 :: v12 :: .pointer (some ⟨eb, 0, none⟩) :: .slice la lq lc :: v15 :: v16 :: v17 :: v18 :: v19 :: v20 :: v21 :: v22 :: v23 :: v24 :: v25 :: v26 :: v27 :: v28 :: v29 :: v30 :: v31 :: v32 :: v33 :: v34 :: v35 :: v36 :: v37 :: v38 :: v39 :: v40 :: v41 :: v42 :: v43 :: v44 :: v45 :: v46 :: v47 :: v48 :: v49 :: v50 :: v51 :: v52 :: v53 :: v54 :: v55 :: v56 :: v57 :: v58 :: v59 :: v60 :: v61 :: v62 :: v63 :: v64 :: v65 :: v66 :: v67 :: v68 :: v69 :: v70 :: v71 :: v72 :: v73 :: v74 :: v75 :: v76 :: v77 :: v78 :: v79 :: v80 :: v81 :: v82 :: v83 :: v84 :: v85 :: v86 :: v87 :: v88 :: v89 :: v90 :: v91 :: v92 :: v93 :: v94 :: v95 :: v96 :: v97 :: v98 :: v99 :: v100 :: v101 :: v102 :: v103 :: v104 :: v105 :: v106 :: v107 :: v108 :: v109 :: v110 :: u111 :: u112 :: u113 :: u114 :: u115 :: u116 :: u117 :: u118 :: u119 :: v120 :: v121 :: v122 :: v123 :: v124 :: v125 :: v126 :: v127 :: v128 :: v129 :: v130 :: v131 :: v132 :: v133 :: v134 :: v135 :: v136 :: v137 :: v138 :: v139 :: v140 :: v141 :: v142 :: v143 :: v144 :: v145 :: v146 :: v147 :: v148 :: v149 :: v150 :: v151 :: v152 :: v153 :: v154 :: v155 :: v156 :: v157 :: v158 :: v159 :: v160 :: v161 :: v162 :: v163 :: v164 :: v165 :: v166 :: v167 :: v168 :: v169 :: []), []⟩ (V.setCell ⟨wb, t, none⟩ (.slice (some ⟨g, 0, none⟩) (lq + 1) c'))) :
    Code.wp Try.prog trR Q0 ⟨List.toArray (v0 :: v1 :: v2 :: v3 :: v4 :: v5 :: v6 :: v7 :: .slice (some ⟨wb, 0, none⟩) N N :: v9 :: v10 :: v11 :: v12 :: .pointer (some ⟨eb, 0, none⟩) :: .slice la lq lc :: v15 :: v16 :: v17 :: v18 :: v19 :: v20 :: v21 :: v22 :: v23 :: v24 :: v25 :: v26 :: v27 :: v28 :: v29 :: v30 :: v31 :: v32 :: v33 :: v34 :: v35 :: v36 :: v37 :: v38 :: v39 :: v40 :: v41 :: v42 :: v43 :: v44 :: v45 :: v46 :: v47 :: v48 :: v49 :: v50 :: v51 :: v52 :: v53 :: v54 :: v55 :: v56 :: v57 :: v58 :: v59 :: v60 :: v61 :: v62 :: v63 :: v64 :: v65 :: v66 :: v67 :: v68 :: v69 :: v70 :: v71 :: v72 :: v73 :: v74 :: v75 :: v76 :: v77 :: v78 :: v79 :: v80 :: v81 :: v82 :: v83 :: v84 :: v85 :: v86 :: v87 :: v88 :: v89 :: v90 :: v91 :: v92 :: v93 :: v94 :: v95 :: v96 :: v97 :: v98 :: v99 :: v100 :: v101 :: v102 :: v103 :: v104 :: v105 :: v106 :: v107 :: v108 :: v109 :: v110 :: v111 :: v112 :: v113 :: v114 :: v115 :: v116 :: v117 :: v118 :: v119 :: v120 :: v121 :: v122 :: v123 :: v124 :: v125 :: v126 :: v127 :: v128 :: v129 :: v130 :: v131 :: v132 :: v133 :: v134 :: v135 :: v136 :: v137 :: v138 :: v139 :: v140 :: v141 :: v142 :: v143 :: v144 :: v145 :: v146 :: v147 :: v148 :: v149 :: v150 :: v151 :: v152 :: v153 :: v154 :: v155 :: v156 :: v157 :: v158 :: v159 :: v160 :: v161 :: v162 :: v163 :: v164 :: v165 :: v166 :: v167 :: v168 :: v169 :: []), []⟩ Z :=
  wp_mono (tr_way (K := fun a w => Q0 .normal a w) x1 x2 x4 htN hlq hOW hBS hfin) fun e a w h => by
    cases e <;> first | exact h | exact h.elim

end Go.Proofs.Ytfllgmbnljfboaa.J

/-
  trans: the law TransReached, where there is an automaton.
-/
namespace Go.Proofs.Ytfllgmbnljfboaa.J
open Go.RowKit Go.Maps Go.Shelf

attribute [local go_sem] Oper.semAt_some

theorem ints_cells {w : World} {a : Option Addr} {l : List Int} (h : IntsAt w a l) : ∀ x, a = some x → ∀ j u, (intV l)[j]? = some u → w.cell? (x.add j) = some u := by
  intro x hx j u hu
  have hj : j < l.length := by have := (List.getElem?_eq_some_iff.1 hu).1; unfold intV at this; simpa using this
  rcases h with h | ⟨b, off, e, hc⟩
  · rw [h] at hj; cases hj
  · rw [hx] at e
    simp only [Option.some.injEq] at e
    subst e
    rw [Addr.add_mid, hc j hj, ← hu]
    unfold intV
    rw [List.getElem?_map, List.getElem?_eq_getElem hj, List.getD_eq_getElem?_getD, List.getElem?_eq_getElem hj]; rfl
theorem box_other {X Y : World} {b r : Nat} {cs cs' : Array Value} {t t' : TypeId} (h : X.heap[b]? = some (.cells cs t (0, 0))) (hr : X.heap[r]? = some (.cells cs' t' (0, 0))) (ht : t ≠ t') (hg : X.grownBy Y (some r)) : Y.heap[b]? = some (.cells cs t (0, 0)) := by
  refine (hg.block b (Array.getElem?_eq_some_iff.1 h).1 ?_).trans h
  intro e
  have e2 : b = r := by simpa using e
  subst e2
  rw [h] at hr
  simp only [Option.some.injEq, Obj.cells.injEq] at hr
  exact ht hr.2.1
theorem edge_at {es : List (List (Nat × Nat))} {q i : Nat} {ea : Option Addr} {X : World} (h : ItsAt X ea (elF es q)) (hi : i < (es.getD q []).length) : ∃ eb eo, ea = some ⟨eb, eo, none⟩ ∧ X.cell? ⟨eb, eo + i * 2, none⟩ = some (.int .i64 ((((es.getD q []).getD i (0, 0)).1 : Nat) : Int)) ∧ X.cell? ⟨eb, eo + i * 2 + 1, none⟩ = some (.int .i64 ((((es.getD q []).getD i (0, 0)).2 : Nat) : Int)) := by
  obtain ⟨eb, eo, e, c0, c1⟩ := h.cellAt (i := i) (by rw [elF_len]; exact hi)
  rw [(elF_at hi).2] at c0 c1
  exact ⟨eb, eo, e, c0, c1⟩
theorem fst_inj {l : List (Nat × Nat)} (hnd : (l.map Prod.fst).Nodup) {i j : Nat} (hij : i < j) (hj : j < l.length) : (l.getD i (0, 0)).1 ≠ (l.getD j (0, 0)).1 := by
  have h := (List.pairwise_iff_getElem.1 hnd) i j (by rw [List.length_map]; omega) (by rw [List.length_map]; omega) hij
  rw [List.getElem_map, List.getElem_map] at h
  rw [List.getD_eq_getElem?_getD, List.getElem?_eq_getElem (show i < l.length by omega), List.getD_eq_getElem?_getD, List.getElem?_eq_getElem hj]
  exact h
theorem lead_of {ks : List (List It)} {es : List (List (Nat × Nat))} (hE : EsOK ks es) {q i s t : Nat} (hq : q < ks.length) (hi : i < (es.getD q []).length) (hx : (es.getD q []).getD i (0, 0) = (s, t)) : leadA es ((q : Int), (s : Int)) = some (t : Int) := by
  rw [leadA_at es (by rw [hE.len]; exact hq)]
  have h1 := nextL_found (l := es.getD q []) (s := (s : Int)) hi (by rw [hx]) (fun j hj h2 => by
    have h3 := fst_inj (hE.each q hq).2.1 hj hi
    rw [hx] at h3
    exact h3 (by omega))
  rw [h1, hx]

section
variable (ta na la pa : Option Addr) (tc nc lc pc : Nat) (n : Nat) (st : Int) (w : World) (tn nn ln : Nat)
set_option maxRecDepth 100000 in
set_option maxHeartbeats 8000000 in
theorem reached_ok (N ask : Nat) (ks : List (List It)) (es : List (List (Nat × Nat))) (hN : N = ks.length) (hpos : 0 < N) (htn : tn ≤ 65) (hnn : nn ≤ 65) (hE : EsOK ks es) (hO : OfOk ta na la pa tc nc lc pc n st w tn nn ln ks es)
    (hsy : ∀ q, q < N → ∀ x ∈ es.getD q [], x.1 < tn + nn) (hnew : ∀ t, 0 < t → t < N → ∃ p, p < t ∧ ∃ x ∈ es.getD p [], x.2 = t)
    (hBU : ∀ X, w.grownBy X none → Calls Try.prog 13 #[.agg #[.slice ta tn tc, .slice na nn nc, .slice la ln lc, .int .i64 st, .slice pa n pc]] X fun e y => ∃ sa sc kv ev, e = .returned (.tuple #[.agg #[.slice sa N sc, .int .i64 (ask : Int), .int .i64 (N : Int)], .int .i64 0]) ∧ AutP X.heap.size y (.slice sa ks.length sc) ks (elF es) kv ev ∧ X.grownBy y none) :
    Calls Try.prog 7 #[.agg #[.slice ta tn tc, .slice na nn nc, .slice la ln lc, .int .i64 st, .slice pa n pc]] w fun e w' => e = .returned (.bool true) ∧ w.grownBy w' none := by
  have HBU := show Hid _ from hBU
  have hN256 : N ≤ 256 := by rw [hN]; exact hE.le
  obtain ⟨S, hS⟩ : ∃ S, S = tn + nn := ⟨_, rfl⟩
  have HWX : Hid (∀ X ra rc (row : List Int) (q : Nat), w.grownBy X none → IntsAt X ra row → row.length ≤ 256 → (∀ x ∈ row, 0 ≤ x ∧ x < (S : Int)) → wayF es (some 0) row = some (q : Int) → Calls Try.prog 10 #[.agg #[.slice ta tn tc, .slice na nn nc, .slice la ln lc, .int .i64 st, .slice pa n pc], .int .i64 0, .slice ra row.length rc] X fun e y => e = .returned (.tuple #[.int .i64 (q : Int), .int .i64 0]) ∧ X.grownBy y none) := fun X ra rc row q hX hr hrb hrow hway => by
    have h := walkX_ok ta na la pa tc nc lc pc n st X tn nn ln ks es htn hnn hE.le hE.ok (fun Y hY => hO Y (grown_trans hX hY)) 0 (by rw [← hN]; exact hpos) ra rc row hr (by omega) (fun x hx => by
      unfold noB
      have h9 := hrow x hx
      rw [hS] at h9
      have h10 : x < (tn : Int) + (nn : Int) := by omega
      simp [h9.1, h10])
    have e0 : wayF es (some ((0 : Nat) : Int)) row = some (q : Int) := hway
    rw [e0] at h
    exact h
  have HEI : Hid (∀ q i s t, q < N → i < (es.getD q []).length → (es.getD q []).getD i (0, 0) = (s, t) → s < S ∧ t < N ∧ leadA es ((q : Int), (s : Int)) = some (t : Int)) := fun q i s t hq hi hx => by
    have hm : (es.getD q []).getD i (0, 0) ∈ es.getD q [] := by
      generalize es.getD q [] = l at hi ⊢
      rw [List.getD_eq_getElem?_getD, List.getElem?_eq_getElem hi]; exact List.getElem_mem hi
    have h1 := hsy q hq _ hm
    have h2 := ((hE.each q (by rw [← hN]; exact hq)).2.2 _ hm).2
    rw [hx] at h1 h2
    exact ⟨by rw [hS]; exact h1, by rw [hN]; exact h2, lead_of hE (by rw [← hN]; exact hq) hi hx⟩
  have HEL : Hid (∀ q, (es.getD q []).length ≤ 130) := hE.short
  have HNW : Hid (∀ t, 0 < t → t < N → ∃ p, p < t ∧ ∃ x ∈ es.getD p [], x.2 = t) := hnew
  have HN : Hid (N = ks.length) := hN
  have HX0 : Hid (PhAt w (w.alloc (.cells #[.slice ta tn tc, .slice na nn nc, .slice la ln lc, .int .i64 st, .slice pa n pc] 27)) w.heap.size #[.slice ta tn tc, .slice na nn nc, .slice la ln lc, .int .i64 st, .slice pa n pc]) := ⟨World.grownBy_alloc _ _ none, heap_alloc_last w _⟩
  have hN0 : ((N : Int) == 0) = false := beq_eq_false_iff_ne.2 (by omega)
  have hN1 : (N == 0) = false := beq_eq_false_iff_ne.2 (by omega)
  have infoInts : (Try.prog.info? 24).map (fun i => (i.zero, i.size, i.bytes)) = some (some (.slice none 0 0), 1, 24) := by kernel_rfl
  obtain ⟨i1, hi1, hy0, hy1, hy2⟩ := info_parts infoInts
  obtain ⟨i4, hi4, hx0, hx1, hx2⟩ := info_parts infoBool
  obtain ⟨i5, hi5, hw0, hw1, hw2⟩ := info_parts infoInt
  clear hBU hO hsy hnew hN hE infoInts hS
  go_enter Try.func7, Try.ntmps7
  go_wp2_with fail
  refine Calls.mono (awake_any _) ?_
  rintro e w1 ⟨rfl, hg1⟩
  have HX1 : Hid (PhAt w w1 w.heap.size #[.slice ta tn tc, .slice na nn nc, .slice la ln lc, .int .i64 st, .slice pa n pc]) := HX0.out.kept hg1
  clear hg1 HX0
  obtain ⟨k0, k1, k2, k3, k4⟩ := HX1.out.cells
  go_wp2_with fail
  refine Calls.mono (HBU.out _ HX1.out.grown) ?_
  rintro e w2 ⟨sa, sc, kv, ev, rfl, hAP, hg2⟩
  obtain ⟨ab, hab⟩ : ∃ b, b = w2.heap.size := ⟨_, rfl⟩
  obtain ⟨W, hW⟩ : ∃ W, W = w2.alloc (.cells #[.slice sa N sc, .int .i64 (ask : Int), .int .i64 (N : Int)] 42) := ⟨_, rfl⟩
  have hgW : w2.grownBy W none := by rw [hW]; exact World.grownBy_alloc _ _ none
  have HXW : Hid (PhAt w W w.heap.size #[.slice ta tn tc, .slice na nn nc, .slice la ln lc, .int .i64 st, .slice pa n pc]) := HX1.out.kept (grown_trans hg2 hgW)
  have HAW : Hid (W.heap[ab]? = some (.cells #[.slice sa N sc, .int .i64 (ask : Int), .int .i64 (N : Int)] 42 (0, 0))) := by rw [hW, hab]; exact heap_alloc_last w2 _
  have HWE := show Hid _ from hW
  have HBE := show Hid _ from hab
  have hPW := hAP.kept hgW
  obtain ⟨sb, sc', hsv, -, -⟩ := hPW.st (q := 0) (by rw [← HN.out]; exact hpos)
  simp only [Value.slice.injEq] at hsv
  obtain ⟨rfl, _, rfl⟩ := hsv
  have HST : Hid (∀ q, q < N → ∃ ea ec, ∀ Y, W.grownBy Y none → Y.cell? ⟨sb, q * 2 + 1, none⟩ = some (.slice ea (es.getD q []).length ec) ∧ ItsAt Y ea (elF es q)) := fun q hq => by
    obtain ⟨sb2, sc2, hsv2, _, hs2⟩ := hPW.st (q := q) (by rw [← HN.out]; exact hq)
    simp only [Value.slice.injEq, Option.some.injEq, Addr.mk.injEq] at hsv2
    obtain ⟨⟨rfl, _⟩, _⟩ := hsv2
    obtain ⟨ea, ec, h1, h2⟩ := hPW.edgAt (q := q) (by rw [← HN.out]; exact hq)
    rw [h1, elF_len] at hs2
    exact ⟨ea, ec, fun Y hY => ⟨hY.cell hs2 (by simp), h2.kept hY⟩⟩
  have HCE : Hid (∀ Y, W.grownBy Y none → Y.cell? ⟨ab, 0, none⟩ = some (.slice (some ⟨sb, 0, none⟩) N sc)) := fun Y hY => by rw [cell_of_row _ _ _ _ _ _ (box_kept HAW.out hY)]; rfl
  clear hg2 hAP HX1 k0 k1 k2 k3 k4 hW hab hgW hPW HAW
  have y0 := HCE.out W (grown_refl _ _)
  rw [HWE.out, HBE.out] at y0
  go_wp2_with (at_make; rw [← HWE.out]; refine wpList_make_full _ rfl _ _ 65 rfl W.heap.size 24 i1 (.slice none 0 0) 1 Try.underlying65 hi1 hy0 hy1 .i64 .i64 _ _ N rfl rfl (by simp) (by simp) (by rw [hy2]; omega) (by unfold maxLen; omega) (by simp) ?_)
  intro w3 hown3 hgr3
  have hval3 : ValAt w3 W.heap.size N 24 (fun _ => .slice none 0 0) := made_rowK (B := W.heap.size) rfl (by simpa [Value.cells] using hown3)
  obtain ⟨wb, hwb⟩ : ∃ b, b = W.heap.size := ⟨_, rfl⟩
  rw [← hwb] at hval3
  try rw [← hwb]
  try rw [← HBE.out]
  have HG3 : Hid (W.grownBy w3 none) := hgr3
  have HV3 : Hid (ValAt w3 wb N 24 (fun _ => .slice none 0 0)) := hval3
  have HWB : Hid (W.heap.size ≤ wb) := by show _ ≤ _; omega
  clear hown3 hgr3 hval3 hwb y0
  have y0 := HCE.out w3 HG3.out
  go_wp2_with (at_make; refine wpList_make_full _ rfl _ _ 66 rfl w3.heap.size 4 i4 (.bool false) 1 Try.underlying66 hi4 hx0 hx1 .i64 .i64 _ _ N rfl rfl (by simp) (by simp) (by rw [hx2]; omega) (by unfold maxLen; omega) (by simp) ?_)
  intro w4 hown4 hgr4
  have hval4 : ValAt w4 w3.heap.size N 4 (fun _ => .bool false) := made_rowK (B := w3.heap.size) rfl (by simpa [Value.cells] using hown4)
  obtain ⟨ib, hib⟩ : ∃ b, b = w3.heap.size := ⟨_, rfl⟩
  rw [← hib] at hval4
  try rw [← hib]
  have HR4 : Hid (RcAt W (w4.alloc (.cells #[.int .i64 0] 3)) wb ib N (fun _ => false) (fun _ => []) (fun _ => none) (fun _ => 0) (some ⟨w4.heap.size, 0, none⟩) 1 (natI [0])) := by
    have g4 := grown_trans HG3.out hgr4
    refine ⟨grown_trans g4 (World.grownBy_alloc _ _ none), (HV3.out.kept hgr4).kept (World.grownBy_alloc _ _ none), hval4.kept (World.grownBy_alloc _ _ none), ⟨Nat.le_refl _, fun _ => ⟨w4.heap.size, 0, _, rfl, g4.size, heap_alloc_last w4 _, Nat.le_refl _, fun j hj => ?_⟩⟩, fun k hk => World.ownsRow_nil _ _ _ _, fun _ g off _ k hk => (by simp [Value.ownBlock]), HWB.out, by have := HG3.out.size; omega⟩
    have hj0 : j = 0 := by simpa [natI] using hj
    subst hj0; rfl
  have HR5 : Hid (RcAt W ((w4.alloc (.cells #[.int .i64 0] 3)).setCell ⟨ib, 0, none⟩ (.bool true)) wb ib N (markN (fun _ => false) 0) (fun _ => []) (fun _ => none) (fun _ => 0) (some ⟨w4.heap.size, 0, none⟩) 1 (natI [0])) := HR4.out.mark 0
  have m0 := HR4.out.iv.cell 0 hpos
  have mf := HR4.out.iv.free 0
  clear y0
  have y0 := HCE.out _ HR4.out.grown
  have y1 := HCE.out w4 (grown_trans HG3.out hgr4)
  have hp1 : (0 : Int) < (N : Int) := by omega
  clear hown4 hgr4 hval4 hib HR4
  go_wp2_with fail
  obtain ⟨qb, hqb⟩ : ∃ b, b = w4.heap.size := ⟨_, rfl⟩
  obtain ⟨X5, hX5⟩ : ∃ X, X = (w4.alloc (.cells #[.int .i64 0] 3)).setCell ⟨ib, 0, none⟩ (.bool true) := ⟨_, rfl⟩
  rw [← hX5, ← hqb] at HR5
  try rw [← hX5]
  try rw [← hqb]
  have HS0 : Hid (SrP es N S (markN (fun _ => false) 0) (fun _ => []) [0] N 0) := SrP.start hpos
  obtain ⟨M0, hM0⟩ : ∃ m, m = 1 + (N - cntN (markN (fun _ => false) 0) N) := ⟨_, rfl⟩
  have HM0 : Hid (M0 = 1 + (N - cntN (markN (fun _ => false) 0) N)) := hM0
  have HZN : Hid (N ≤ N) := Nat.le_refl _
  clear hX5 hqb hM0 m0 mf y0 y1 HV3 HG3 HWB
  go_loopg [10] M0 (fun gk v10 wr => ∃ (k cap : Nat) (a : Option Addr) (inn : Nat → Bool) (ways : Nat → List Int) (ua : Nat → Option Addr) (uc : Nat → Nat) (todo : List Nat), v10 = .slice a k cap ∧ k = todo.length ∧ gk = k + (N - cntN inn N) ∧ gk ≤ N + 1 ∧ SrP es N S inn ways todo N 0 ∧ RcAt W wr wb ib N inn ways ua uc a cap (natI todo))
  case atStart => exact ⟨1, 1, _, _, _, _, _, [0], rfl, rfl, HM0.out, by have := HM0.out; omega, HS0.out, HR5.out⟩
  case round =>
    obtain ⟨k, cap, a, inn, ways, ua, uc, todo, rfl, hk, hgk, hgb, hSr, hRc⟩ := hrel
    have HGB : Hid (gk ≤ N + 1) := hgb
    have HGK : Hid (gk = k + (N - cntN inn N)) := hgk
    have HSR : Hid (SrP es N S inn ways todo N 0) := hSr
    have HRC : Hid (RcAt W wr wb ib N inn ways ua uc a cap (natI todo)) := hRc
    have HK : Hid (k = todo.length) := hk
    have hkN : k ≤ 257 := by omega
    clear hgk hgb hSr hRc HS0 HR5 HM0
    cases todo with
    | cons q0 rest =>
      have hq0 := HSR.out.todoIn q0 List.mem_cons_self
      have hq0N : q0 < N := hq0.1
      obtain ⟨g, off, rfl, hcz⟩ := HRC.out.que.head
      have hk1 : 1 ≤ k := by rw [hk]; simp
      have hkc : k ≤ cap := by have := HRC.out.que.1; rw [natI_len] at this; omega
      have hkd : decide (0 < k) = true := decide_eq_true (by omega)
      have hkd2 : decide ((0 : Int) < (k : Int)) = true := decide_eq_true (by omega)
      have hki : (1 : Int) ≤ (k : Int) := by omega
      have hki2 : (0 : Int) < (k : Int) := by omega
      obtain ⟨k2, hk2⟩ : ∃ k2, k = k2 + 1 := ⟨k - 1, by omega⟩
      have HK2 : Hid (k2 = rest.length) := by have := HK.out; simp at this; show _ = _; omega
      have HSP : Hid (SrP es N S inn ways rest q0 0) := HSR.out.pop
      have HINQ : Hid (inn q0 = true) := hq0.2
      obtain ⟨ea, ec, hst⟩ := HST.out q0 hq0N
      obtain ⟨E, hE⟩ : ∃ E, E = (es.getD q0 []).length := ⟨_, rfl⟩
      have HE : Hid (E = (es.getD q0 []).length) := hE
      have hEb : E ≤ 130 := by rw [hE]; exact HEL.out q0
      have HST0 : Hid (∀ Y, W.grownBy Y none → Y.cell? ⟨sb, q0 * 2 + 1, none⟩ = some (.slice ea E ec) ∧ ItsAt Y ea (elF es q0)) := by rw [hE]; exact hst
      obtain ⟨M1, hM1⟩ : ∃ m, m = k2 + (N - cntN inn N) := ⟨_, rfl⟩
      have HM1 : Hid (M1 = k2 + (N - cntN inn N)) := hM1
      have HGK1 : Hid (gk = M1 + 1) := by have h1 := HGK.out; show _ = _; omega
      have hq00 : (0 : Int) ≤ (q0 : Int) := by omega
      have hq01 : (q0 : Int) < (N : Int) := by omega
      generalize hwr : wr = W0 at *
      have hM1b : M1 ≤ N := by have h1 := HGB.out; have h2 := HGK1.out; omega
      clear hwr hk hq0 hst hE hM1 hkd HGK HK HSR
      subst hk2
      by_cases hcp : cap = 1
      case' pos =>
        have HT : Hid (RcAt W W0 wb ib N inn ways ua uc (some ⟨g, off, none⟩) 0 (natI rest)) := by
          have := HRC.out.pop (some ⟨g, off, none⟩) (fun h => by omega)
          rwa [hcp] at this
        subst hcp
        obtain rfl : k2 = 0 := by omega
        go_wp2_with fail
      case' neg =>
        have hcp1 : 1 < cap := by omega
        have HT : Hid (RcAt W W0 wb ib N inn ways ua uc (some ⟨g, off + 1, none⟩) (cap - 1) (natI rest)) := HRC.out.pop _ (fun _ => rfl)
        have hcd : decide (1 < cap) = true := decide_eq_true hcp1
        go_wp2_with fail
      all_goals
        have HW0 : Hid (W.grownBy W0 none) := HRC.out.grown
        clear HRC hcz
        go_loopg [10, 12] E (fun gi v10 v12 wr => ∃ (i k cap : Nat) (a : Option Addr) (inn : Nat → Bool) (ways : Nat → List Int) (ua : Nat → Option Addr) (uc : Nat → Nat) (todo : List Nat), i ≤ E ∧ gi = E - i ∧ v10 = .slice a k cap ∧ v12 = .int .i64 i ∧ k = todo.length ∧ k + (N - cntN inn N) = M1 ∧ inn q0 = true ∧ SrP es N S inn ways todo q0 i ∧ RcAt W wr wb ib N inn ways ua uc a cap (natI todo))
        case atStart => exact ⟨0, _, _, _, _, _, _, _, rest, Nat.zero_le _, rfl, rfl, rfl, HK2.out, HM1.out.symm, HINQ.out, HSP.out, HT.out⟩
        case round =>
          obtain ⟨i, k, cap, a, inn, ways, ua, uc, todo, hi, hgi, rfl, rfl, hk, hms, hiq, hSr, hRc⟩ := hrel
          have HGI : Hid (gk = E - i) := hgi
          have HK : Hid (k = todo.length) := hk
          have HMS : Hid (k + (N - cntN inn N) = M1) := hms
          have HIQ : Hid (inn q0 = true) := hiq
          have HSR : Hid (SrP es N S inn ways todo q0 i) := hSr
          have HRC : Hid (RcAt W wr wb ib N inn ways ua uc a cap (natI todo)) := hRc
          have hkb : k ≤ 257 := by omega
          clear hgi hk hms hiq hSr hRc HT HSP HINQ HM1 HK2
          have y0 := HCE.out wr HRC.out.grown
          have s0 := (HST0.out wr HRC.out.grown).1
          by_cases hlt : i < E
          · have hid : decide (i < E) = true := decide_eq_true hlt
            have hi0 : (0 : Int) ≤ (i : Int) := by omega
            have hi1 : (i : Int) < (E : Int) := by omega
            have hil : i < (es.getD q0 []).length := by rw [← HE.out]; exact hlt
            obtain ⟨eb0, eo, rfl, e0, e1⟩ := edge_at (HST0.out wr HRC.out.grown).2 hil
            obtain ⟨s, hs⟩ : ∃ s : Nat, s = ((es.getD q0 []).getD i (0, 0)).1 := ⟨_, rfl⟩
            obtain ⟨t, ht⟩ : ∃ t : Nat, t = ((es.getD q0 []).getD i (0, 0)).2 := ⟨_, rfl⟩
            have hx : (es.getD q0 []).getD i (0, 0) = (s, t) := by rw [hs, ht]
            have HX : Hid ((es.getD q0 []).getD i (0, 0) = (s, t)) := hx
            obtain ⟨hsS, htN, hld⟩ := HEI.out q0 i s t hq0N hil hx
            have HLD : Hid (s < S ∧ leadA es ((q0 : Int), (s : Int)) = some (t : Int)) := ⟨hsS, hld⟩
            rw [← hs] at e0
            rw [← ht] at e1
            obtain ⟨eb, heb⟩ : ∃ b, b = wr.heap.size := ⟨_, rfl⟩
            obtain ⟨Y0, hY0⟩ : ∃ Y, Y = wr.alloc (.cells #[.int .i64 (s : Int), .int .i64 (t : Int)] 60) := ⟨_, rfl⟩
            have HY0 : Hid (Y0 = wr.alloc (.cells #[.int .i64 (s : Int), .int .i64 (t : Int)] 60)) := hY0
            have HEB : Hid (eb = wr.heap.size) := heb
            have hgY : wr.grownBy Y0 none := by rw [hY0]; exact World.grownBy_alloc _ _ none
            have HBX : Hid (Y0.heap[eb]? = some (.cells #[.int .i64 (s : Int), .int .i64 (t : Int)] 60 (0, 0))) := by rw [hY0, heb]; exact heap_alloc_last wr _
            have HRY : Hid (RcAt W Y0 wb ib N inn ways ua uc a cap (natI todo)) := HRC.out.kept hgY
            have ht0 : (0 : Int) ≤ (t : Int) := by omega
            have ht1 : (t : Int) < (N : Int) := by omega
            have htd : decide ((t : Int) < 0) = false := decide_eq_false (by omega)
            have htd2 : decide ((N : Int) ≤ (t : Int)) = false := decide_eq_false (by omega)
            have htd3 : decide (N ≤ t) = false := decide_eq_false (by omega)
            have y1 := HCE.out Y0 HRY.out.grown
            have b1 : Y0.cell? ⟨eb, 1, none⟩ = some (.int .i64 (t : Int)) := by rw [cell_of_row _ _ _ _ _ _ HBX.out]; rfl
            have n0 := HRY.out.iv.cell t htN
            have nf := HRY.out.iv.free t
            obtain ⟨bt, hbt⟩ : ∃ b, b = inn t := ⟨_, rfl⟩
            have HBT : Hid (bt = inn t) := hbt
            rw [← hbt] at n0
            rw [hY0] at y1 b1 n0 nf
            rw [heb] at b1
            clear hil hs ht hx hsS hld hY0 hgY hbt heb
            cases bt with
            | true =>
              have HSK : Hid (SrP es N S inn ways todo q0 (i + 1)) := HSR.out.skip (by rw [HX.out]; exact HBT.out.symm)
              clear HBT
              go_wp2_with fail
              try rw [← HY0.out]
              go_roundg (E - (i + 1))
              case measure => have := HGI.out; omega
              case rel => exact ⟨i + 1, k, cap, a, inn, ways, ua, uc, todo, by omega, rfl, rfl, by go_num, HK.out, HMS.out, HIQ.out, HSK.out, HRY.out⟩
            | false =>
              have HR1 : Hid (RcAt W (Y0.setCell ⟨ib, t, none⟩ (.bool true)) wb ib N (markN inn t) ways ua uc a cap (natI todo)) := HRY.out.mark t
              have HB1 : Hid ((Y0.setCell ⟨ib, t, none⟩ (.bool true)).heap[eb]? = some (.cells #[.int .i64 (s : Int), .int .i64 (t : Int)] 60 (0, 0))) := box_other HBX.out HRY.out.iv (by decide) (grown_setCell _ _ _)
              have HSA : Hid (SrP es N S (markN inn t) (fun u => if u = t then ways q0 ++ [(s : Int)] else ways u) (todo ++ [t]) q0 (i + 1)) := HSR.out.add hq0N HIQ.out HX.out HLD.out.1 htN HBT.out.symm HLD.out.2
              have HMS1 : Hid (k + 1 + (N - cntN (markN inn t) N) = M1) := by
                have h1 := cntN_mark HBT.out.symm N htN
                have h2 := cntN_le (markN inn t) N
                have h3 := HMS.out
                show _ = _
                omega
              have HIQ1 : Hid (markN inn t q0 = true) := by
                show _ = _
                unfold markN
                by_cases e : q0 = t
                · rw [if_pos e]
                · rw [if_neg e]; exact HIQ.out
              obtain ⟨lq, hlq⟩ : ∃ l, l = (ways q0).length := ⟨_, rfl⟩
              have HLQ : Hid (lq = (ways q0).length) := hlq
              have hlqb : lq ≤ 256 := by
                have h1 := (HSR.out.way q0 hq0N HIQ.out).2.2
                have h2 := cntN_le inn N
                omega
              obtain ⟨Y1, hY1⟩ : ∃ Y, Y = Y0.setCell ⟨ib, t, none⟩ (.bool true) := ⟨_, rfl⟩
              have HY1 : Hid (Y1 = Y0.setCell ⟨ib, t, none⟩ (.bool true)) := hY1
              rw [← hY1] at HR1 HB1
              have wq := HR1.out.wv.cell q0 hq0N
              have hoq := HR1.out.own q0 hq0N
              obtain ⟨uq, huq⟩ : ∃ u, u = ua q0 := ⟨_, rfl⟩
              obtain ⟨cq, hcq⟩ : ∃ c, c = uc q0 := ⟨_, rfl⟩
              rw [← huq, ← hcq] at wq hoq
              have HIQ9 : Hid (IntsAt Y1 uq (ways q0)) := ints_ofR hoq
              have HNQ : Hid (uq = none → lq = 0 ∧ cq = 0) := by rw [hlq]; exact ints_nil hoq
              have HVL : Hid ((intV (ways q0)).length = lq * 1) := by show _ = _; unfold intV; rw [List.length_map, hlq]; omega
              have HV1 : Hid (∀ u ∈ intV (ways q0), u.oneCell' = true) := fun u h => by
                unfold intV at h
                obtain ⟨i, _, rfl⟩ := List.mem_map.1 h
                rfl
              rw [← hlq] at wq
              rw [hY1, HY0.out] at wq
              clear hlq hoq huq hcq hY1 HBT HRY HBX HSR HRC HIQ HMS
              go_wp2_with (at_builtin; rw [← HY0.out, ← HY1.out]; refine wpList_append_srcW rfl (.tmp 105) (.tmp 109) 24 rfl Y1.heap.size 3 i5 (.int .i64 0) 1 8 Try.underlying24 hi5 hw0 hw1 hw2 rfl (by decide) (.slice none 0 0) 0 [] rfl (World.ownsRow_nil _ _ _ _) uq lq cq (intV (ways q0)) rfl HNQ.out HVL.out (fun ad e => ints_cells HIQ9.out ad e) HV1.out (by unfold maxLen; omega) (by omega) (Nat.le_refl _) ?_)
              intro v9 Z hoZ hgZ
              obtain ⟨lA, lC, rfl⟩ := owns_cut hoZ
              have HGZ : Hid (Y1.grownBy Z none) := hgZ
              have HOZ : Hid (Z.ownsRow Y1.heap.size 3 1 (.slice lA lq lC) lq (intV (ways q0))) := hoZ
              have HBZ : Hid (Z.heap[eb]? = some (.cells #[.int .i64 (s : Int), .int .i64 (t : Int)] 60 (0, 0))) := box_kept HB1.out hgZ
              have hbc : ∀ Y, Z.grownBy Y none → Y.cell? ⟨wr.heap.size, 0, none⟩ = some (.int .i64 (s : Int)) ∧ Y.cell? ⟨wr.heap.size, 1, none⟩ = some (.int .i64 (t : Int)) := fun Y hY => by
                have h := box_kept HBZ.out hY
                rw [HEB.out] at h
                exact ⟨by rw [cell_of_row _ _ _ _ _ _ h]; rfl, by rw [cell_of_row _ _ _ _ _ _ h]; rfl⟩
              have HBC := show Hid _ from hbc
              obtain ⟨x1, x2⟩ := hbc Z (grown_refl _ _)
              have x4 : ∀ o, (Z.alloc o).cell? ⟨wr.heap.size, 1, none⟩ = some (.int .i64 (t : Int)) := fun o => (HBC.out _ (World.grownBy_alloc _ _ none)).2
              obtain ⟨ut, hut⟩ : ∃ u, u = Value.slice (ua t) (ways t).length (uc t) := ⟨_, rfl⟩
              have HUT : Hid (ut = Value.slice (ua t) (ways t).length (uc t)) := hut
              clear hoZ hgZ hbc wq n0 nf y1 b1 hut s0 e0 e1 y0
              go_wp2_with fail
              refine tr_wayq (Z := Z) (B := Y1.heap.size) (wb := wb) (eb := wr.heap.size) (N := N) (s := s) (t := t) (lq := lq) (lc := lC) (la := lA) (ut := ut) (xs := intV (ways q0)) x1 x2 x4 ht1 (by omega) (fun Y hY => keep0 HOZ.out hY) (fun Y hY => Nat.le_trans HGZ.out.size hY.size) ?_
              intro Y9 V g9 c9 hY9 hg9 ho9
              have hgV : Y1.grownBy V none := grown_owned (grown_trans HGZ.out hY9) (keep0 HOZ.out hY9) (Nat.le_refl _) hg9
              have hRV := HR1.out.kept hgV
              have hl9 : (ways q0 ++ [(s : Int)]).length = lq + 1 := by rw [List.length_append, ← HLQ.out]; rfl
              have hv9 : intV (ways q0 ++ [(s : Int)]) = intV (ways q0) ++ [.int .i64 (s : Int)] := by unfold intV; rw [List.map_append]; rfl
              have hRA := HR1.out.add (t := t) (g := g9) (c := c9) (l := ways q0 ++ [(s : Int)]) hgV (by rw [hl9, hv9]; exact ho9)
              rw [hl9] at hRA
              have hbV : V.heap[eb]? = some (.cells #[.int .i64 (s : Int), .int .i64 (t : Int)] 60 (0, 0)) := box_kept HB1.out hgV
              refine ⟨by rw [HUT.out]; exact hRV.wv.cell t htN, hRV.wv.free t, by rw [← HEB.out, cell_of_row _ _ _ _ _ _ hbV]; rfl, ?_⟩
              intro u111 u112 u113 u114 u115 u116 u117 u118 u119
              obtain ⟨V9, hV9⟩ : ∃ X, X = V.setCell ⟨wb, t, none⟩ (.slice (some ⟨g9, 0, none⟩) (lq + 1) c9) := ⟨_, rfl⟩
              have hbV9 : V9.heap[eb]? = some (.cells #[.int .i64 (s : Int), .int .i64 (t : Int)] 60 (0, 0)) := by rw [hV9]; exact box_other hbV hRV.wv (by decide) (grown_setCell _ _ _)
              rw [← hV9] at hRA
              rw [← hV9]
              have HRA := show Hid _ from hRA
              have HQA := show Hid _ from (hRA.kept (World.grownBy_alloc V9 (.cells #[.int .i64 (t : Int)] 3) none)).que
              have HSZ : Hid (W.heap.size ≤ (V9.alloc (.cells #[.int .i64 (t : Int)] 3)).heap.size) := (hRA.kept (World.grownBy_alloc V9 (.cells #[.int .i64 (t : Int)] 3) none)).grown.size
              have HNC : Hid ((V9.alloc (.cells #[.int .i64 (t : Int)] 3)).cell? ⟨V9.heap.size, 0, none⟩ = some (.int .i64 (t : Int))) := by
                show _ = _
                rw [cell_of_row _ _ _ _ _ _ (heap_alloc_last V9 _)]; rfl
              have z1 : V9.cell? ⟨wr.heap.size, 1, none⟩ = some (.int .i64 (t : Int)) := by rw [← HEB.out, cell_of_row _ _ _ _ _ _ hbV9]; rfl
              clear hV9 hbV hbV9 hRA hRV hgV hY9 hg9 ho9 hl9 hv9 x1 x2 x4
              go_wp2_with (at_builtin; refine wpList_append_que _ rfl (.tmp 120) (.tmp 123) 24 rfl W.heap.size i5 Try.underlying24 hi5 hw0 hw1 hw2 a k cap (natI todo) rfl (by rw [natI_len]; exact HK.out) HQA.out HSZ.out V9.heap.size (t : Int) 1 rfl HNC.out (by omega) ?_)
              intro a8 cap8 w8 hq8 hg8
              have HR8 : Hid (RcAt W w8 wb ib N (markN inn t) (fun u => if u = t then ways q0 ++ [(s : Int)] else ways u) (updL ua t (some ⟨g9, 0, none⟩)) (updL uc t c9) a8 cap8 (natI (todo ++ [t]))) := by
                show RcAt _ _ _ _ _ _ _ _ _ _ _ _
                rw [natI_snoc]
                exact (HRA.out.kept (World.grownBy_alloc V9 (.cells #[.int .i64 (t : Int)] 3) none)).push hq8 hg8
              clear hq8 hg8 HRA HQA HSZ HNC z1
              go_wp2_with fail
              go_roundg (E - (i + 1))
              case measure => have := HGI.out; omega
              case rel => exact ⟨i + 1, k + 1, cap8, a8, _, _, _, _, todo ++ [t], by omega, rfl, rfl, by go_num, by rw [List.length_append, ← HK.out]; rfl, HMS1.out, HIQ1.out, HSA.out, HR8.out⟩
          · have hiE : E = i := by omega
            subst hiE
            have hid : decide (E < E) = false := decide_eq_false (by omega)
            have HSL : Hid (SrP es N S inn ways todo N 0) := HSR.out.left (by rw [← HE.out]; exact Nat.le_refl _)
            go_wp2_with fail
            go_roundg M1
            case measure => have := HGK1.out; omega
            case rel => exact ⟨k, cap, a, inn, ways, ua, uc, todo, rfl, HK.out, HMS.out.symm, by omega, HSL.out, HRC.out⟩
    | nil =>
      obtain rfl : k = 0 := by rw [hk]; rfl
      have HALL : Hid (∀ t, t < N → inn t = true) := fun t ht => HSR.out.all HNW.out (t + 1) t (Nat.lt_succ_self _) ht
      have HWAY : Hid (∀ t, t < N → wayF es (some 0) (ways t) = some (t : Int) ∧ (∀ x ∈ ways t, 0 ≤ x ∧ x < (S : Int)) ∧ (ways t).length < N) := fun t ht => by
        obtain ⟨h1, h2, h3⟩ := HSR.out.way t ht (HALL.out t ht)
        have h4 := cntN_le inn N
        exact ⟨h1, h2, by omega⟩
      generalize wr = W0 at *
      clear hk HK HGK HGB HSR
      go_wp2_with fail
      go_loopg [15] N (fun gk v15 wr => ∃ q : Nat, q ≤ N ∧ gk = N - q ∧ v15 = .int .i64 q ∧ W0.grownBy wr none)
      case atStart => exact ⟨0, Nat.zero_le _, rfl, rfl, grown_refl _ _⟩
      case round =>
        obtain ⟨q, hq, hgq, rfl, hg⟩ := hrel
        have HGQ : Hid (gk = N - q) := hgq
        have HG : Hid (W0.grownBy wr none) := hg
        clear hgq hg
        by_cases hlt : q < N
        · have hqd : decide (q < N) = true := decide_eq_true hlt
          by_cases h40 : q < 40
          · have hqe : decide (q < 40) = true := decide_eq_true h40
            have hqe2 : decide ((q : Int) < 40) = true := decide_eq_true (by omega)
            have hq0 : (0 : Int) ≤ (q : Int) := by omega
            have hq1 : (q : Int) < (N : Int) := by omega
            have HRW : Hid (RcAt W wr wb ib N inn ways ua uc a cap (natI [])) := HRC.out.kept HG.out
            have wq := HRW.out.wv.cell q hlt
            have hoq := HRW.out.own q hlt
            obtain ⟨lq, hlq⟩ : ∃ l, l = (ways q).length := ⟨_, rfl⟩
            obtain ⟨uq, huq⟩ : ∃ u, u = ua q := ⟨_, rfl⟩
            obtain ⟨cq, hcq⟩ : ∃ c, c = uc q := ⟨_, rfl⟩
            rw [← huq, ← hcq] at wq hoq
            obtain ⟨h1, h2, h3⟩ := HWAY.out q hlt
            have HCC : Hid (∀ Y, wr.grownBy Y none → Calls Try.prog 10 #[.agg #[.slice ta tn tc, .slice na nn nc, .slice la ln lc, .int .i64 st, .slice pa n pc], .int .i64 0, .slice uq lq cq] Y fun e y => e = .returned (.tuple #[.int .i64 (q : Int), .int .i64 0]) ∧ Y.grownBy y none) := fun Y hY => by
              rw [hlq]
              exact HWX.out Y uq cq (ways q) q (grown_trans HXW.out.grown (grown_trans HRW.out.grown hY)) ((ints_ofR hoq).kept hY) (by omega) h2 h1
            have hlqN : lq < N := by omega
            have hld : decide ((N : Int) ≤ (lq : Int)) = false := decide_eq_false (by omega)
            have hld2 : decide (N ≤ lq) = false := decide_eq_false (by omega)
            rw [← hlq] at wq
            have HIV : Hid (∀ Y, wr.grownBy Y none → Y.cell? ⟨ib, q, none⟩ = some (.bool true)) := fun Y hY => by
              have h := (HRW.out.kept hY).iv.cell q hlt
              rw [HALL.out q hlt] at h
              exact h
            have HKS : Hid (∀ Y, wr.grownBy Y none → (Y.cell? ⟨w.heap.size, 0, none⟩ = some (.slice ta tn tc) ∧ Y.cell? ⟨w.heap.size, 1, none⟩ = some (.slice na nn nc) ∧ Y.cell? ⟨w.heap.size, 2, none⟩ = some (.slice la ln lc) ∧ Y.cell? ⟨w.heap.size, 3, none⟩ = some (.int .i64 st) ∧ Y.cell? ⟨w.heap.size, 4, none⟩ = some (.slice pa n pc)) ∧ Y.cell? ⟨wb, q, none⟩ = some (.slice uq lq cq)) := fun Y hY => ⟨(HXW.out.kept (grown_trans HRW.out.grown hY)).cells, hY.cell wq (by simp)⟩
            have HUP : Hid (wr.grownBy wr.drew none) := grown_drewN _ 1
            clear wq hoq hlq huq hcq h1 h2 h3
            go_wp2_with fail
            go_region_held3 (fun Y => (Y.cell? ⟨w.heap.size, 0, none⟩ = some (.slice ta tn tc) ∧ Y.cell? ⟨w.heap.size, 1, none⟩ = some (.slice na nn nc) ∧ Y.cell? ⟨w.heap.size, 2, none⟩ = some (.slice la ln lc) ∧ Y.cell? ⟨w.heap.size, 3, none⟩ = some (.int .i64 st) ∧ Y.cell? ⟨w.heap.size, 4, none⟩ = some (.slice pa n pc)) ∧ Y.cell? ⟨wb, q, none⟩ = some (.slice uq lq cq)) (first | exact HKS.out _ HUP.out | exact HKS.out _ HG4.out | go_keep)
              ((first
                | (go_at_call 10; refine Calls.mono (HCC.out _ HUP.out) ?_; rintro e w5 ⟨rfl, hg5⟩; have HG4 : Hid (wr.grownBy w5 none) := grown_trans HUP.out hg5; clear hg5)
                | fail))
            have z0 := HCE.out w5 (grown_trans HRW.out.grown HG4.out)
            have z1 := HIV.out w5 HG4.out
            obtain ⟨_, z2⟩ := HKS.out w5 HG4.out
            have hqq : ((q : Int) != (q : Int)) = false := bne_self_eq_false _
            have hqq2 : (q != q) = false := bne_self_eq_false _
            go_wp2_with fail
            go_quiet (fail)
            go_wp2_with fail
            go_roundg (N - (q + 1))
            case measure => have := HGQ.out; omega
            case rel => exact ⟨q + 1, by omega, rfl, by go_num, by first | exact grown_trans HG.out HG4.out | exact grown_trans HG.out (grown_trans HG4.out (grown_drewN _ _))⟩
          · have hqe : decide (q < 40) = false := decide_eq_false h40
            have hqe2 : decide ((q : Int) < 40) = false := decide_eq_false (by omega)
            go_wp2_with fail
            go_ret
            exact ⟨rfl, grown_trans HXW.out.grown (grown_trans HRC.out.grown HG.out)⟩
        · have hqN : N = q := by omega
          subst hqN
          have hqd : decide (N < N) = false := decide_eq_false (by omega)
          go_wp2_with fail
          go_ret
          exact ⟨rfl, grown_trans HXW.out.grown (grown_trans HRC.out.grown HG.out)⟩
end

end Go.Proofs.Ytfllgmbnljfboaa.J

/-
  trans: the law TransReached, for every input.
-/
namespace Go.Proofs.Ytfllgmbnljfboaa.J
open Go.RowKit Go.Maps Go.Shelf

theorem reached_core (ta na la pa : Option Addr) (tc nc lc pc : Nat) (ts : List (ByteArray × Int)) (ns : List ByteArray) (lv : List Int) (n : Nat) (L : Nat → Int) (R : Nat → List Int) (ra : Nat → Option Addr) (rc : Nat → Nat) (V : Nat → Int) (st : Int) (w : World) (tn nn ln : Nat) (hlen : ts.length = tn ∧ ns.length = nn ∧ lv.length = ln) (hG : GAt w ta na la pa tc nc lc pc ts ns lv n L R ra rc V) : Calls Try.prog 7 #[.agg #[.slice ta tn tc, .slice na nn nc, .slice la ln lc, .int .i64 st, .slice pa n pc]] w fun e w' => e = .returned (.bool true) ∧ w.grownBy w' none := by
  by_cases hc : closedOK ts ns lv st n L R V
  · have hM : MayOK tn nn n st L R true := by obtain ⟨rfl, rfl, rfl⟩ := hlen; exact mayOK_closed hc
    cases hau : autoF (GG tn n L R) (tn + nn) 256 with
    | none => exact reached_bad ta na la pa tc nc lc pc n st w tn nn ln 11 (.inr rfl) (ofBad11 ta na la pa tc nc lc pc ts ns lv n L R ra rc V st w tn nn ln hlen hG hc hau) (build_none ta na la pa tc nc lc pc ts ns lv n L R ra rc V st w tn nn ln hlen hG hc hau)
    | some p =>
      obtain ⟨ks, es⟩ := p
      obtain ⟨hO, hE⟩ := ofOk ta na la pa tc nc lc pc ts ns lv n L R ra rc V st w tn nn ln hlen hG hc hau
      have hA := autF hM.p0 hau
      exact reached_ok ta na la pa tc nc lc pc n st w tn nn ln ks.length (askN es) ks es rfl hA.pos hM.tmax hM.nmax hE hO (fun q hq x hx => (hA.snd q hq x hx).1) (auto_new 256 hau) (build_some ta na la pa tc nc lc pc ts ns lv n L R ra rc V st w tn nn ln hlen hG hc hau)
  · exact reached_bad ta na la pa tc nc lc pc n st w tn nn ln 1 (.inl rfl) (ofBad1 ta na la pa tc nc lc pc ts ns lv n L R ra rc V st w tn nn ln hlen hG hc) (fun X hX => buildBad ta na la pa tc nc lc pc ts ns lv n L R ra rc V st X tn nn ln hlen (hG.kept hX) hc)

end Go.Proofs.Ytfllgmbnljfboaa.J
