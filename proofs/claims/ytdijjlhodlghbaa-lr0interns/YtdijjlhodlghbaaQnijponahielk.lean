import Derived.Test.YtdijjlhodlghbaaQioidpefdiagi
import Derived.Test.YtdijjlhodlghbaaQeilfjmhbcjdj
import Derived.BigQuiet

/-
  lr0: what the law Lr0Interns asks of an automaton, pure.
-/
namespace Go.Proofs.Ytdijjlhodlghbaa.J
open Go.RowKit Go.Maps Go.Shelf

/-- The symbol right ahead of the dot of a kernel's first item. -/
def syT (R : Nat → List Int) (k : List It) : Int := ((k.head?).map fun x => (R x.1.toNat).getD (x.2 - 1).toNat 0).getD 0
/-- What the items behind a symbol are. -/
theorem ker_sym {n : Nat} {R : Nat → List Int} {l : List It} (h : ∀ x ∈ l, itB n R x = true) {s : Nat} : ∀ x ∈ kerT R l (s : Int), itB n R x = true ∧ 1 ≤ x.2 ∧ (R x.1.toNat).getD (x.2 - 1).toNat 0 = (s : Int) := by
  intro x hx
  refine ⟨kerT_item h x hx, ?_⟩
  unfold kerT at hx
  obtain ⟨y, hy, rfl⟩ := List.mem_map.1 hx
  obtain ⟨hy1, hy2⟩ := List.mem_filter.1 hy
  have h1 := h y hy1
  have h2 : aheadV R y = (s : Int) := by simpa using hy2
  unfold itB at h1
  simp only [Bool.and_eq_true, decide_eq_true_eq] at h1
  obtain ⟨⟨⟨a1, a2⟩, a3⟩, a4⟩ := h1
  refine ⟨by show 1 ≤ y.2 + 1; omega, ?_⟩
  show (R y.1.toNat).getD (y.2 + 1 - 1).toNat 0 = _
  rw [show y.2 + 1 - 1 = y.2 by omega]
  unfold aheadV at h2
  by_cases e : y.2 = ((R y.1.toNat).length : Int)
  · rw [if_pos e] at h2; omega
  · rw [if_neg e] at h2; exact h2
theorem CLo_item {tn n : Nat} {L : Nat → Int} {R : Nat → List Int} {k : List It} (hk : ∀ x ∈ k, itB n R x = true) : ∀ x ∈ CLo tn n L R k, itB n R x = true := by
  unfold CLo
  by_cases hh : ∃ l, IsClo tn n L R k l ∧ l.length ≤ k.length + 13000
  · rw [dif_pos hh]
    have h1 := Classical.choose_spec hh
    exact fun x hx => ((h1.1.mem x).1 hx).item hk
  · rw [dif_neg hh]
    exact fun x hx => absurd hx (by simp)

section
variable {tn nn n : Nat} {L : Nat → Int} {R : Nat → List Int} {ks : List (List It)} {es : List (List (Nat × Nat))}
/-- The kernel that an edge leads to. -/
theorem edge_ker (hA : AutF (GG tn n L R) n R (tn + nn) ks es) (hR : ∀ k, k < n → ∀ x ∈ R k, (0 : Int) < x) {q : Nat} (hq : q < ks.length) {s t : Nat} (hx : (s, t) ∈ es.getD q []) : 0 < s ∧ s < tn + nn ∧ 0 < t ∧ t < ks.length ∧ ks.getD t [] ≠ [] ∧ ∀ x ∈ ks.getD t [], itB n R x = true ∧ 1 ≤ x.2 ∧ (R x.1.toNat).getD (x.2 - 1).toNat 0 = (s : Int) := by
  obtain ⟨h1, h2, h3⟩ := hA.snd q hq _ hx
  simp only at h1 h2 h3
  have hit := (hA.kok.each q hq).1
  have hne : GG tn n L R (ks.getD q []) s ≠ [] := by
    have h4 : s ∈ (es.getD q []).map Prod.fst := List.mem_map.2 ⟨(s, t), hx, rfl⟩
    rw [hA.fst q hq] at h4
    exact (mem_symsT.1 h4).2
  have hall : ∀ x ∈ ks.getD t [], itB n R x = true ∧ 1 ≤ x.2 ∧ (R x.1.toNat).getD (x.2 - 1).toNat 0 = (s : Int) := by
    rw [h3]
    exact ker_sym (CLo_item hit)
  refine ⟨?_, h1, ?_, h2, by rw [h3]; exact hne, hall⟩
  · rcases Nat.eq_zero_or_pos s with e | e
    · subst e
      exact absurd (GG_zero' hit hR) hne
    · exact e
  · rcases Nat.eq_zero_or_pos t with e | e
    · subst e
      rw [hA.head] at hall
      have := (hall (0, 0) (by simp)).2.1
      simp at this
    · exact e
theorem edge_sy (hA : AutF (GG tn n L R) n R (tn + nn) ks es) (hR : ∀ k, k < n → ∀ x ∈ R k, (0 : Int) < x) {q : Nat} (hq : q < ks.length) {s t : Nat} (hx : (s, t) ∈ es.getD q []) : syT R (ks.getD t []) = (s : Int) := by
  obtain ⟨_, _, _, _, hne, hall⟩ := edge_ker hA hR hq hx
  unfold syT
  cases hk : ks.getD t [] with
  | nil => exact absurd hk hne
  | cons x k =>
    rw [hk] at hall
    exact (hall x (List.mem_cons_self ..)).2.2
end

/-- A kernel that leaving a state brought has an edge from it. -/
theorem leave_newJ {G : Nat → List It} {ks : List (List It)} : ∀ (s : Nat) {ks' : List (List It)} {ed : List (Nat × Nat)}, leaveF G ks s = some (ks', ed) → ∀ t, ks.length ≤ t → t < ks'.length → ∃ x ∈ ed, x.2 = t
  | 0, ks', ed, e, t, h1, h2 => by
    unfold leaveF at e
    cases e
    omega
  | s + 1, ks', ed, e, t, h1, h2 => by
    unfold leaveF at e
    cases h3 : leaveF G ks s with
    | none => rw [h3] at e; cases e
    | some q =>
      obtain ⟨k1, e1⟩ := q
      rw [h3] at e
      simp only at e
      by_cases hg : G s = []
      · rw [if_pos hg] at e
        cases e
        exact leave_newJ s h3 t h1 h2
      · rw [if_neg hg] at e
        cases h4 : askF k1 (G s) with
        | none => rw [h4] at e; cases e
        | some q2 =>
          obtain ⟨u, k2⟩ := q2
          rw [h4] at e
          cases e
          by_cases h5 : t < k1.length
          · obtain ⟨x, hx, h6⟩ := leave_newJ s h3 t h1 h5
            exact ⟨x, List.mem_append_left _ hx, h6⟩
          · refine ⟨(s, u), List.mem_append_right _ (List.mem_singleton.2 rfl), ?_⟩
            unfold askF at h4
            by_cases hk : G s ∈ k1
            · rw [if_pos hk] at h4
              cases h4
              omega
            · rw [if_neg hk] at h4
              by_cases hl : k1.length < 256
              · rw [if_pos hl] at h4
                cases h4
                rw [List.length_append, List.length_singleton] at h2
                show k1.length = t
                omega
              · rw [if_neg hl] at h4; cases h4
/-- Each state but the first has an edge from one below it. -/
theorem auto_newJ {G : List It → Nat → List It} {S : Nat} : ∀ (i : Nat) {ks : List (List It)} {es : List (List (Nat × Nat))}, autoF G S i = some (ks, es) → ∀ t, 0 < t → t < ks.length → ∃ p, p < t ∧ ∃ x ∈ es.getD p [], x.2 = t
  | 0, ks, es, e, t, h1, h2 => by
    unfold autoF at e
    cases e
    simp only [List.length_singleton] at h2
    omega
  | i + 1, ks', es', e, t, h1, h2 => by
    cases h3 : autoF G S i with
    | none => have := autoF_none h3 1; rw [this] at e; cases e
    | some q =>
      obtain ⟨ks, es⟩ := q
      have ih := auto_newJ i h3
      have ha := autoOK (P := fun _ _ => True) trivial (fun _ _ _ _ _ _ => trivial) i h3
      by_cases hi : i < ks.length
      · rw [autoF_step h3 hi] at e
        have hes : es.length = i := by rw [ha.len]; omega
        cases h4 : leaveF (G (ks.getD i [])) ks S with
        | none => rw [h4] at e; cases e
        | some q2 =>
          obtain ⟨k2, ed⟩ := q2
          rw [h4] at e
          cases e
          by_cases h5 : t < ks.length
          · obtain ⟨p, h6, x, hx, h7⟩ := ih t h1 h5
            have hp : p < es.length := by
              refine Nat.lt_of_not_le fun h8 => ?_
              rw [List.getD_eq_getElem?_getD, List.getElem?_eq_none h8] at hx
              simp at hx
            exact ⟨p, h6, x, by rw [getD_snoc_old hp]; exact hx, h7⟩
          · obtain ⟨x, hx, h6⟩ := leave_newJ S h4 t (by omega) h2
            exact ⟨i, by omega, x, by rw [← hes, getD_snoc_new]; exact hx, h6⟩
      · have := autoF_stay h3 (Nat.le_of_not_lt hi) 1
        rw [this] at e
        cases e
        exact ih t h1 h2

/-- How many below m are marked. -/
def cntJ (f : Nat → Bool) : Nat → Nat
  | 0 => 0
  | m + 1 => cntJ f m + (if f m = true then 1 else 0)
def markJ (f : Nat → Bool) (t : Nat) : Nat → Bool := fun x => if x = t then true else f x
theorem cntJ_le (f : Nat → Bool) : ∀ m, cntJ f m ≤ m
  | 0 => Nat.le_refl _
  | m + 1 => by
    unfold cntJ
    have := cntJ_le f m
    by_cases h : f m = true
    · rw [if_pos h]; omega
    · rw [if_neg h]; omega
theorem cntJ_far (f : Nat → Bool) (t : Nat) : ∀ m, m ≤ t → cntJ (markJ f t) m = cntJ f m
  | 0, _ => rfl
  | m + 1, h => by
    unfold cntJ
    rw [cntJ_far f t m (by omega), show markJ f t m = f m from if_neg (by omega)]
theorem cntJ_mark {f : Nat → Bool} {t : Nat} (ht : f t = false) : ∀ m, t < m → cntJ (markJ f t) m = cntJ f m + 1
  | 0, h => absurd h (Nat.not_lt_zero _)
  | m + 1, h => by
    unfold cntJ
    by_cases e : t = m
    · subst e
      rw [cntJ_far f t t (Nat.le_refl _), show markJ f t t = true from if_pos rfl, ht]
      rfl
    · rw [cntJ_mark ht m (by omega), show markJ f t m = f m from if_neg (fun h => e h.symm)]
      omega

/-- The search under way: of state q the edges below i are done (q = N: of none are some left). -/
structure SrJ (es : List (List (Nat × Nat))) (N : Nat) (inn : Nat → Bool) (todo : List Nat) (q i : Nat) : Prop where
  zero : inn 0 = true
  todoIn : ∀ t ∈ todo, t < N ∧ inn t = true
  done : ∀ t, t < N → inn t = true → t ∉ todo → ∀ j, j < (es.getD t []).length → (t = q → j < i) → inn ((es.getD t []).getD j (0, 0)).2 = true
section
variable {es : List (List (Nat × Nat))} {N : Nat} {inn : Nat → Bool} {todo : List Nat} {q i : Nat}
theorem SrJ.start (hN : 0 < N) : SrJ es N (markJ (fun _ => false) 0) [0] N 0 where
  zero := rfl
  todoIn := fun t ht => by rw [List.mem_singleton.1 ht]; exact ⟨hN, rfl⟩
  done := fun t _ hi hn => by
    have h0 : t = 0 := by
      by_cases e : t = 0
      · exact e
      · exact absurd hi (by rw [show markJ (fun _ => false) 0 t = false from if_neg e]; decide)
    exact absurd (List.mem_singleton.2 h0) hn
theorem SrJ.pop (h : SrJ es N inn (q :: todo) N 0) : SrJ es N inn todo q 0 where
  zero := h.zero
  todoIn := fun t ht => h.todoIn t (List.mem_cons_of_mem _ ht)
  done := fun t ht hi hn j hj hq => by
    by_cases e : t = q
    · exact absurd (hq e) (Nat.not_lt_zero _)
    · exact h.done t ht hi (fun hm => (List.mem_cons.1 hm).elim e hn) j hj (fun h1 => absurd ht (by omega))
theorem SrJ.skip (h : SrJ es N inn todo q i) (hx : inn ((es.getD q []).getD i (0, 0)).2 = true) : SrJ es N inn todo q (i + 1) where
  zero := h.zero
  todoIn := h.todoIn
  done := fun t ht hi hn j hj hq => by
    by_cases e : t = q ∧ j = i
    · obtain ⟨rfl, rfl⟩ := e; exact hx
    · exact h.done t ht hi hn j hj (fun h1 => by have := hq h1; have : j ≠ i := fun h2 => e ⟨h1, h2⟩; omega)
theorem SrJ.add (h : SrJ es N inn todo q i) {s t : Nat} (hx : (es.getD q []).getD i (0, 0) = (s, t)) (ht : t < N) : SrJ es N (markJ inn t) (todo ++ [t]) q (i + 1) := by
  have hold : ∀ u, inn u = true → markJ inn t u = true := fun u hu => by
    unfold markJ
    by_cases e : u = t
    · rw [if_pos e]
    · rw [if_neg e]; exact hu
  refine ⟨hold 0 h.zero, fun u hu => ?_, fun u hu hi hn j hj hjq => ?_⟩
  · rcases List.mem_append.1 hu with hu | hu
    · exact ⟨(h.todoIn u hu).1, hold u (h.todoIn u hu).2⟩
    · rw [List.mem_singleton.1 hu]; exact ⟨ht, if_pos rfl⟩
  · have e : u ≠ t := fun e => hn (List.mem_append_right _ (List.mem_singleton.2 e))
    rw [show markJ inn t u = inn u from if_neg e] at hi
    by_cases e2 : u = q ∧ j = i
    · obtain ⟨rfl, rfl⟩ := e2
      rw [hx]; exact if_pos rfl
    · exact hold _ (h.done u hu hi (fun hm => hn (List.mem_append_left _ hm)) j hj (fun h1 => by have := hjq h1; have : j ≠ i := fun h2 => e2 ⟨h1, h2⟩; omega))
theorem SrJ.left (h : SrJ es N inn todo q i) (hi : (es.getD q []).length ≤ i) : SrJ es N inn todo N 0 where
  zero := h.zero
  todoIn := h.todoIn
  done := fun t ht hin hn j hj _ => h.done t ht hin hn j hj (fun e => by subst e; omega)
theorem SrJ.all (h : SrJ es N inn [] N 0) (hnew : ∀ t, 0 < t → t < N → ∃ p, p < t ∧ ∃ x ∈ es.getD p [], x.2 = t) : ∀ (m t : Nat), t < m → t < N → inn t = true
  | 0, _, hm, _ => absurd hm (Nat.not_lt_zero _)
  | m + 1, t, hm, ht => by
    by_cases e : t = 0
    · subst e; exact h.zero
    · obtain ⟨p, h1, x, hx, h2⟩ := hnew t (by omega) ht
      have hp := SrJ.all h hnew m p (by omega) (by omega)
      obtain ⟨j, hj, h3⟩ := List.getElem_of_mem hx
      have h4 := h.done p (by omega) hp (by simp) j hj (fun h5 => by omega)
      rw [List.getD_eq_getElem?_getD, List.getElem?_eq_getElem hj, h3] at h4
      simp only [Option.getD_some] at h4
      rw [h2] at h4
      exact h4
end
/-- By which symbols the states were reached. -/
def byF (sy : Nat → Int) (inn : Nat → Bool) (t : Nat) : Int := if t = 0 then 0 else if inn t = true then sy t else 0
theorem byF_mark {sy : Nat → Int} {inn : Nat → Bool} {t : Nat} (ht : 0 < t) : (fun u => if u = t then sy t else byF sy inn u) = byF sy (markJ inn t) := funext fun u => by
  unfold byF markJ
  by_cases e : u = t
  · subst e
    rw [if_pos rfl, if_neg (by omega), if_pos rfl, if_pos rfl]
  · rw [if_neg e, if_neg e]
theorem byF_same {sy : Nat → Int} {inn : Nat → Bool} {t : Nat} (ht : 0 < t) (hi : inn t = true) : (fun u => if u = t then sy t else byF sy inn u) = byF sy inn := funext fun u => by
  by_cases e : u = t
  · subst e
    unfold byF
    rw [if_pos rfl, if_neg (by omega), if_pos hi]
  · rw [if_neg e]
/-- The sum of the edges. -/
def sumE (es : List (List (Nat × Nat))) : Nat → Nat
  | 0 => 0
  | i + 1 => sumE es i + (es.getD i []).length
theorem sumE_take (es : List (List (Nat × Nat))) : ∀ i, i ≤ es.length → sumE es i = ((es.take i).map List.length).sum
  | 0, _ => rfl
  | i + 1, h => by
    unfold sumE
    rw [sumE_take es i (by omega), List.take_add_one, List.getElem?_eq_getElem (show i < es.length by omega), List.map_append, List.sum_append]
    have e : es.getD i [] = es[i] := by rw [List.getD_eq_getElem?_getD, List.getElem?_eq_getElem (show i < es.length by omega)]; rfl
    rw [e]
    simp
theorem askN_sum (es : List (List (Nat × Nat))) : askN es = 1 + sumE es es.length := by
  unfold askN
  rw [sumE_take es es.length (Nat.le_refl _), List.take_length]

end Go.Proofs.Ytdijjlhodlghbaa.J

/-
  lr0: Build.
-/
namespace Go.Proofs.Ytdijjlhodlghbaa.J
open Go.RowKit Go.Maps Go.Shelf

attribute [local go_sem] Oper.semAt_some

theorem results_build (tmps : Array Value) (w : World) (g : Nat) (cs : Array Value) (x : Value) (h2 : tmps.getD 2 undef = .pointer (some ⟨g, 0, none⟩)) (h3 : tmps.getD 3 undef = x) (hg : w.heap[g]? = some (.cells cs 32 (0, 0))) (hs : cs.size = 3) :
    (results Try.f12 tmps).run Try.prog w = .ok (.tuple #[.agg cs, x]) w := by
  have h2' : tmps[2]?.getD undef = .pointer (some ⟨g, 0, none⟩) := by simpa using h2
  have h3' : tmps[3]?.getD undef = x := by simpa using h3
  have hl := run_loadVar_row (P := Try.prog) w g 32 32 cs (0, 0) _ hg Try.underlying32 rfl (by rw [hs]; kernel_rfl)
  simp [results, Try.results12, h2', h3', asAddr, hl]

/-- The maker as newMaker leaves it. -/
theorem mk_new {w X : World} {mb bm : Nat} {c0 c1 c2 c3 c4 : Value} (hg : w.grownBy X none) (hb : X.heap[mb]? = some (.cells #[c0, c1, c2, c3, c4, .slice none 0 0, .int .i64 0, .int .i64 0, .map (some bm)] 82 (0, 0))) (hm : MpAt X bm 0 (fun _ => .slice none 0 0)) (h1 : w.heap.size ≤ bm) (h2 : bm < mb) : MkAt w X mb bm c0 c1 c2 c3 c4 [] 0 (fun _ => []) 0 :=
  ⟨none, 0, fun _ => undef, fun _ => undef, 0, fun _ => .slice none 0 0, ⟨hg, hb, World.ownsRow_nil _ _ _ _, fun i hi => absurd hi (Nat.not_lt_zero _), fun i hi => absurd hi (Nat.not_lt_zero _), hm, fun x => by rw [begI_nil]; exact World.ownsRow_nil _ _ _ _, fun x y _ => .inl rfl, ⟨h1, by omega⟩, fun i hi => absurd hi (Nat.not_lt_zero _)⟩, Nat.le_refl _⟩

section
variable (ta na la pa : Option Addr) (tc nc lc pc : Nat) (ts : List (ByteArray × Int)) (ns : List ByteArray) (lv : List Int) (n : Nat) (L : Nat → Int) (R : Nat → List Int) (ra : Nat → Option Addr) (rc : Nat → Nat) (V : Nat → Int) (st : Int) (w : World) (tn nn ln : Nat) (hlen : ts.length = tn ∧ ns.length = nn ∧ lv.length = ln) (hG : GAt w ta na la pa tc nc lc pc ts ns lv n L R ra rc V)
include hlen hG
set_option maxRecDepth 100000 in
theorem buildBad (hb : ¬ closedOK ts ns lv st n L R V) : Calls Try.prog 12 #[.agg #[.slice ta tn tc, .slice na nn nc, .slice la ln lc, .int .i64 st, .slice pa n pc]] w fun e y => e = .returned (.tuple #[.agg #[.slice none 0 0, .int .i64 0, .int .i64 0], .int .i64 1]) ∧ w.grownBy y none := by
  have HCL : Hid (∀ X, w.grownBy X none → Calls Try.prog 30 #[.agg #[.slice ta tn tc, .slice na nn nc, .slice la ln lc, .int .i64 st, .slice pa n pc]] X fun e w' => e = .returned (.bool false) ∧ X.grownBy w' none) := fun X hX => by
    have := closed_any ta na la pa tc nc lc pc ts ns lv n L R ra rc V st X (hG.kept hX) false ⟨(fun h => by cases h), fun h => absurd h hb⟩
    rwa [hlen.1, hlen.2.1, hlen.2.2] at this
  have HX0 : Hid (w.grownBy ((w.alloc (.cells #[.slice ta tn tc, .slice na nn nc, .slice la ln lc, .int .i64 st, .slice pa n pc] 27)).alloc (.cells #[.slice none 0 0, .int .i64 0, .int .i64 0] 32)) none) := grown_trans (World.grownBy_alloc _ _ none) (World.grownBy_alloc _ _ none)
  have HB0 : Hid (((w.alloc (.cells #[.slice ta tn tc, .slice na nn nc, .slice la ln lc, .int .i64 st, .slice pa n pc] 27)).alloc (.cells #[.slice none 0 0, .int .i64 0, .int .i64 0] 32)).heap[w.heap.size + 1]? = some (.cells #[.slice none 0 0, .int .i64 0, .int .i64 0] 32 (0, 0))) := by
    have h := heap_alloc_last (w.alloc (.cells #[.slice ta tn tc, .slice na nn nc, .slice la ln lc, .int .i64 st, .slice pa n pc] 27)) (.cells #[.slice none 0 0, .int .i64 0, .int .i64 0] 32)
    rw [World.size_alloc] at h; exact h
  clear hlen hG hb
  go_enter Try.func12, Try.ntmps12
  go_wp2_with fail
  refine Calls.mono (HCL.out _ HX0.out) ?_
  rintro e w1 ⟨rfl, hg1⟩
  have HB1 : Hid (w1.heap[w.heap.size + 1]? = some (.cells #[.slice none 0 0, .int .i64 0, .int .i64 0] 32 (0, 0))) := box_kept HB0.out hg1
  have HG1 : Hid (w.grownBy w1 none) := grown_trans HX0.out hg1
  clear hg1 HB0 HX0
  have k0 := cell_of_row w1 (w.heap.size + 1) 0 _ _ _ HB1.out
  have k1 := cell_of_row w1 (w.heap.size + 1) 1 _ _ _ HB1.out
  have k2 := cell_of_row w1 (w.heap.size + 1) 2 _ _ _ HB1.out
  have kf := fun j => frozen_of_row w1 (w.heap.size + 1) j _ _ HB1.out
  simp only [List.getElem?_toArray, List.getElem?_cons_zero, List.getElem?_cons_succ] at k0 k1 k2
  go_wp2_with fail
  refine bodyPost_ret (v := .tuple #[.agg #[.slice none 0 0, .int .i64 0, .int .i64 0], .int .i64 1]) ?_ rfl ?_
  · exact results_build _ _ (w.heap.size + 1) _ _ rfl rfl (set3_heap HB1.out _ _ _) rfl
  · exact ⟨rfl, grown_new HG1.out (set3_grown _ _ _ _ _) (by omega)⟩

set_option maxRecDepth 100000 in
theorem buildOk (hc : closedOK ts ns lv st n L R V) : Calls Try.prog 12 #[.agg #[.slice ta tn tc, .slice na nn nc, .slice la ln lc, .int .i64 st, .slice pa n pc]] w fun e y => AutTold w tn n (tn + nn) L R e y := by
  have hM : MayOK tn nn n st L R true := by obtain ⟨rfl, rfl, rfl⟩ := hlen; exact mayOK_closed hc
  have HCL : Hid (∀ X, w.grownBy X none → Calls Try.prog 30 #[.agg #[.slice ta tn tc, .slice na nn nc, .slice la ln lc, .int .i64 st, .slice pa n pc]] X fun e w' => e = .returned (.bool true) ∧ X.grownBy w' none) := fun X hX => by
    have := closed_any ta na la pa tc nc lc pc ts ns lv n L R ra rc V st X (hG.kept hX) true ⟨fun _ => hc, fun _ => rfl⟩
    rwa [hlen.1, hlen.2.1, hlen.2.2] at this
  have HAU : Hid (∀ X Y mb bm E, w.grownBy X none → MkAt X Y mb bm (.slice ta tn tc) (.slice na nn nc) (.slice la ln lc) (.int .i64 st) (.slice pa n pc) [] 0 (fun _ => []) E → Calls Try.prog 32 #[.pointer (some ⟨mb, 0, none⟩)] Y fun e y => AutTold X tn n (tn + nn) L R e y) := fun X Y mb bm E hX hmk => automaton_any ta na la pa tc nc lc pc n L R ra rc V st X Y tn nn ln (prods_kept hG.prods hX) hM.pmax hM.p0 hM.tmax hM.nmax (fun k hk x hx => ⟨by have := hM.right k hk x hx; omega, (hM.right k hk x hx).2⟩) (fun k hk => ⟨by have := hM.left k hk; omega, (hM.left k hk).2⟩) (gright hG.prods) mb bm E hmk
  have HX0 : Hid (w.grownBy ((w.alloc (.cells #[.slice ta tn tc, .slice na nn nc, .slice la ln lc, .int .i64 st, .slice pa n pc] 27)).alloc (.cells #[.slice none 0 0, .int .i64 0, .int .i64 0] 32)) none) := grown_trans (World.grownBy_alloc _ _ none) (World.grownBy_alloc _ _ none)
  have HP0 : Hid (PhAt w ((w.alloc (.cells #[.slice ta tn tc, .slice na nn nc, .slice la ln lc, .int .i64 st, .slice pa n pc] 27)).alloc (.cells #[.slice none 0 0, .int .i64 0, .int .i64 0] 32)) w.heap.size #[.slice ta tn tc, .slice na nn nc, .slice la ln lc, .int .i64 st, .slice pa n pc]) := PhAt.kept ⟨World.grownBy_alloc _ _ none, heap_alloc_last w _⟩ (World.grownBy_alloc _ _ none)
  have HB0 : Hid (((w.alloc (.cells #[.slice ta tn tc, .slice na nn nc, .slice la ln lc, .int .i64 st, .slice pa n pc] 27)).alloc (.cells #[.slice none 0 0, .int .i64 0, .int .i64 0] 32)).heap[w.heap.size + 1]? = some (.cells #[.slice none 0 0, .int .i64 0, .int .i64 0] 32 (0, 0))) := by
    have h := heap_alloc_last (w.alloc (.cells #[.slice ta tn tc, .slice na nn nc, .slice la ln lc, .int .i64 st, .slice pa n pc] 27)) (.cells #[.slice none 0 0, .int .i64 0, .int .i64 0] 32)
    rw [World.size_alloc] at h; exact h
  clear hlen hG hc hM
  obtain ⟨S, hS⟩ : ∃ S, S = tn + nn := ⟨_, rfl⟩
  rw [← hS] at HAU
  rw [← hS]
  clear hS
  go_enter Try.func12, Try.ntmps12
  go_wp2_with fail
  refine Calls.mono (HCL.out _ HX0.out) ?_
  rintro e w1 ⟨rfl, hg1⟩
  have HB1 : Hid (w1.heap[w.heap.size + 1]? = some (.cells #[.slice none 0 0, .int .i64 0, .int .i64 0] 32 (0, 0))) := box_kept HB0.out hg1
  have HP1 : Hid (PhAt w w1 w.heap.size #[.slice ta tn tc, .slice na nn nc, .slice la ln lc, .int .i64 st, .slice pa n pc]) := HP0.out.kept hg1
  clear hg1 HB0 HX0 HP0
  obtain ⟨k0, k1, k2, k3, k4⟩ := HP1.out.cells
  go_wp2_with fail
  refine Calls.mono (newMaker_any ta na la pa tc nc lc pc n st w1 tn nn ln) ?_
  rintro e w2 ⟨mb, bm, rfl, hbx, hmp, h1, h2, hg2⟩
  have HMK : Hid (MkAt w1 w2 mb bm (.slice ta tn tc) (.slice na nn nc) (.slice la ln lc) (.int .i64 st) (.slice pa n pc) [] 0 (fun _ => []) 0) := mk_new hg2 hbx hmp h1 h2
  clear hbx hmp h1 h2 hg2 k0 k1 k2 k3 k4
  go_wp2_with fail
  refine Calls.mono (HAU.out w1 w2 mb bm 0 HP1.out.grown HMK.out) ?_
  rintro e w3 (⟨ks, es, sa, sc, kv, ev, hau, rfl, hAP, hg3⟩ | ⟨hau, rfl, hg3⟩)
  · have HB3 : Hid (w3.heap[w.heap.size + 1]? = some (.cells #[.slice none 0 0, .int .i64 0, .int .i64 0] 32 (0, 0))) := box_kept HB1.out hg3
    have HG3 : Hid (w.grownBy w3 none) := grown_trans HP1.out.grown hg3
    have HAP : Hid (AutP w.heap.size w3 (.slice sa ks.length sc) ks (elF es) kv ev) := ⟨owns_base hAP.row HP1.out.grown.size, fun i hi => owns_base (hAP.ker i hi) HP1.out.grown.size, fun i hi => owns_base (hAP.edg i hi) HP1.out.grown.size⟩
    have HA : Hid (autoF (GG tn n L R) S 256 = some (ks, es)) := hau
    have k0 := cell_of_row w3 (w.heap.size + 1) 0 _ _ _ HB3.out
    have k1 := cell_of_row w3 (w.heap.size + 1) 1 _ _ _ HB3.out
    have k2 := cell_of_row w3 (w.heap.size + 1) 2 _ _ _ HB3.out
    have kf := fun j => frozen_of_row w3 (w.heap.size + 1) j _ _ HB3.out
    simp only [List.getElem?_toArray, List.getElem?_cons_zero, List.getElem?_cons_succ] at k0 k1 k2
    obtain ⟨ask, hask⟩ : ∃ a, a = (askN es : Int) := ⟨_, rfl⟩
    have HASK : Hid (ask = (askN es : Int)) := hask
    obtain ⟨N, hN⟩ : ∃ a, a = ks.length := ⟨_, rfl⟩
    have HN : Hid (N = ks.length) := hN
    rw [← hask, ← hN]
    clear hask hN hau hAP hg3
    go_wp2_with fail
    refine bodyPost_ret (v := .tuple #[.agg #[.slice sa N sc, .int .i64 ask, .int .i64 (N : Int)], .int .i64 0]) ?_ rfl ?_
    · exact results_build _ _ (w.heap.size + 1) _ _ rfl rfl (set3_heap HB3.out _ _ _) rfl
    · refine .inl ⟨ks, es, sa, sc, kv, ev, HA.out, ?_, ?_, grown_new HG3.out (set3_grown _ _ _ _ _) (by omega)⟩
      · rw [HASK.out, ← HN.out]
      · exact HAP.out.box HB3.out (by decide) (by decide) (by decide) (set3_grown _ _ _ _ _)
  · have HB3 : Hid (w3.heap[w.heap.size + 1]? = some (.cells #[.slice none 0 0, .int .i64 0, .int .i64 0] 32 (0, 0))) := box_kept HB1.out hg3
    have HG3 : Hid (w.grownBy w3 none) := grown_trans HP1.out.grown hg3
    have HA : Hid (autoF (GG tn n L R) S 256 = none) := hau
    have k0 := cell_of_row w3 (w.heap.size + 1) 0 _ _ _ HB3.out
    have k1 := cell_of_row w3 (w.heap.size + 1) 1 _ _ _ HB3.out
    have k2 := cell_of_row w3 (w.heap.size + 1) 2 _ _ _ HB3.out
    have kf := fun j => frozen_of_row w3 (w.heap.size + 1) j _ _ HB3.out
    simp only [List.getElem?_toArray, List.getElem?_cons_zero, List.getElem?_cons_succ] at k0 k1 k2
    clear hau hg3
    go_wp2_with fail
    refine bodyPost_ret (v := .tuple #[.agg #[.slice none 0 0, .int .i64 0, .int .i64 0], .int .i64 11]) ?_ rfl ?_
    · exact results_build _ _ (w.heap.size + 1) _ _ rfl rfl (set3_heap HB3.out _ _ _) rfl
    · exact .inr ⟨HA.out, rfl, grown_new HG3.out (set3_grown _ _ _ _ _) (by omega)⟩
end

end Go.Proofs.Ytdijjlhodlghbaa.J

/-
  lr0: an automaton in memory, read.
-/
namespace Go.Proofs.Ytdijjlhodlghbaa.J
open Go.RowKit Go.Maps Go.Shelf

theorem own_nil {X : World} {B e s n c : Nat} {a : Option Addr} {xs : List Value} (h : X.ownsRow B e s (.slice a n c) n xs) : a = none → n = 0 ∧ c = 0 := fun e => by
  rcases h.2 with ⟨h1, h2⟩ | ⟨g, cap, cur, h1, _⟩
  · simp only [Value.slice.injEq] at h1
    exact ⟨h2, h1.2.2⟩
  · simp only [Value.slice.injEq] at h1
    rw [e] at h1
    cases h1.1
theorem ItsAt.cellAt {X : World} {a : Option Addr} {l : List It} (h : ItsAt X a l) {i : Nat} (hi : i < l.length) : ∃ b off, a = some ⟨b, off, none⟩ ∧ X.cell? ⟨b, off + i * 2, none⟩ = some (.int .i64 (l.getD i (0, 0)).1) ∧ X.cell? ⟨b, off + i * 2 + 1, none⟩ = some (.int .i64 (l.getD i (0, 0)).2) := by
  rcases h with h | ⟨b, off, e, h⟩
  · rw [h] at hi; cases hi
  · exact ⟨b, off, e, h i hi⟩
theorem ItsAt.ofT {X : World} {B c e : Nat} {a : Option Addr} {l : List It} (h : X.ownsRow B e 2 (.slice a l.length c) l.length (itsV l)) : ItsAt X a l := by
  rcases h.2 with ⟨h', h2⟩ | ⟨g, cap, cur, hv, hB, hh, _, _, hs, ht⟩
  · left
    exact List.eq_nil_of_length_eq_zero h2
  · right
    simp only [Value.slice.injEq] at hv
    refine ⟨g, 0, hv.1, fun i hi => ?_⟩
    obtain ⟨h3, h4⟩ := itsV_at l i hi
    rw [← ht, List.getElem?_take, if_pos (by omega)] at h3 h4
    rw [Nat.zero_add, cell_of_row _ _ _ _ _ _ hh, cell_of_row _ _ _ _ _ _ hh]
    exact ⟨by simpa using h3, by simpa using h4⟩
/-- The cells of an automaton that is read. -/
theorem AutP.st {B : Nat} {X : World} {v : Value} {ks : List (List It)} {el : Nat → List It} {kv ev : Nat → Value} (h : AutP B X v ks el kv ev) {q : Nat} (hq : q < ks.length) : ∃ g c, v = .slice (some ⟨g, 0, none⟩) ks.length c ∧ X.cell? ⟨g, q * 2, none⟩ = some (kv q) ∧ X.cell? ⟨g, q * 2 + 1, none⟩ = some (ev q) := by
  obtain ⟨g, c, e, h1⟩ := owns_at h.row (by omega)
  exact ⟨g, c, e, h1 _ _ (stV_at kv ev _ q hq).1, h1 _ _ (stV_at kv ev _ q hq).2⟩
theorem AutP.kerAt {B : Nat} {X : World} {v : Value} {ks : List (List It)} {el : Nat → List It} {kv ev : Nat → Value} (h : AutP B X v ks el kv ev) {q : Nat} (hq : q < ks.length) : ∃ a c, kv q = .slice a (ks.getD q []).length c ∧ ItsAt X a (ks.getD q []) ∧ (a = none → (ks.getD q []).length = 0 ∧ c = 0) := by
  have h1 := h.ker q hq
  obtain ⟨a, c, e⟩ := owns_cut h1
  rw [e] at h1
  exact ⟨a, c, e, ItsAt.of h1, own_nil h1⟩
theorem AutP.edgAt {B : Nat} {X : World} {v : Value} {ks : List (List It)} {el : Nat → List It} {kv ev : Nat → Value} (h : AutP B X v ks el kv ev) {q : Nat} (hq : q < ks.length) : ∃ a c, ev q = .slice a (el q).length c ∧ ItsAt X a (el q) := by
  have h1 := h.edg q hq
  obtain ⟨a, c, e⟩ := owns_cut h1
  rw [e] at h1
  exact ⟨a, c, e, ItsAt.ofT h1⟩
theorem elF_at {es : List (List (Nat × Nat))} {q i : Nat} (hi : i < (es.getD q []).length) : (elF es q).length = (es.getD q []).length ∧ (elF es q).getD i (0, 0) = (((((es.getD q []).getD i (0, 0)).1 : Nat) : Int), ((((es.getD q []).getD i (0, 0)).2 : Nat) : Int)) := by
  unfold elF
  generalize es.getD q [] = l at hi ⊢
  refine ⟨edI_len l, ?_⟩
  unfold edI
  rw [List.getD_eq_getElem?_getD, List.getD_eq_getElem?_getD, List.getElem?_map, List.getElem?_eq_getElem hi]; rfl
theorem elF_len (es : List (List (Nat × Nat))) (q : Nat) : (elF es q).length = (es.getD q []).length := edI_len _

theorem AutP.base {B B' : Nat} {X : World} {v : Value} {ks : List (List It)} {el : Nat → List It} {kv ev : Nat → Value} (h : AutP B X v ks el kv ev) (hb : B' ≤ B) : AutP B' X v ks el kv ev :=
  ⟨owns_base h.row hb, fun i hi => owns_base (h.ker i hi) hb, fun i hi => owns_base (h.edg i hi) hb⟩
theorem PJ.len {n : Nat} {R : Nat → List Int} {i : Nat} {k : List It} (h : PJ n R i k) (hi : i ≤ 257) : k.length ≤ 3341001 := by
  have h1 := h.2
  have h2 : 13000 * i ≤ 13000 * 257 := Nat.mul_le_mul_left _ hi
  omega
section
variable (ta na la pa : Option Addr) (tc nc lc pc : Nat) (ts : List (ByteArray × Int)) (ns : List ByteArray) (lv : List Int) (n : Nat) (L : Nat → Int) (R : Nat → List Int) (ra : Nat → Option Addr) (rc : Nat → Nat) (V : Nat → Int) (st : Int) (w : World) (tn nn ln : Nat) (hlen : ts.length = tn ∧ ns.length = nn ∧ lv.length = ln) (hG : GAt w ta na la pa tc nc lc pc ts ns lv n L R ra rc V)
include hlen hG
/-- Build, where there is an automaton: one for all worlds. -/
theorem build_some (hc : closedOK ts ns lv st n L R V) {ks : List (List It)} {es : List (List (Nat × Nat))} (h : autoF (GG tn n L R) (tn + nn) 256 = some (ks, es)) (X : World) (hX : w.grownBy X none) : Calls Try.prog 12 #[.agg #[.slice ta tn tc, .slice na nn nc, .slice la ln lc, .int .i64 st, .slice pa n pc]] X fun e y => ∃ sa sc kv ev, e = .returned (.tuple #[.agg #[.slice sa ks.length sc, .int .i64 (askN es : Int), .int .i64 (ks.length : Int)], .int .i64 0]) ∧ AutP X.heap.size y (.slice sa ks.length sc) ks (elF es) kv ev ∧ X.grownBy y none := by
  refine (buildOk ta na la pa tc nc lc pc ts ns lv n L R ra rc V st X tn nn ln hlen (hG.kept hX) hc).mono ?_
  rintro e y (⟨ks', es', sa, sc, kv, ev, hau, rfl, hA, hg⟩ | ⟨hau, _⟩)
  · have h2 := h.symm.trans hau
    simp only [Option.some.injEq, Prod.mk.injEq] at h2
    obtain ⟨rfl, rfl⟩ := h2
    exact ⟨sa, sc, kv, ev, rfl, hA, hg⟩
  · have h2 := h.symm.trans hau
    cases h2
theorem build_none (hc : closedOK ts ns lv st n L R V) (h : autoF (GG tn n L R) (tn + nn) 256 = none) (X : World) (hX : w.grownBy X none) : Calls Try.prog 12 #[.agg #[.slice ta tn tc, .slice na nn nc, .slice la ln lc, .int .i64 st, .slice pa n pc]] X fun e y => e = .returned (.tuple #[.agg #[.slice none 0 0, .int .i64 0, .int .i64 0], .int .i64 11]) ∧ X.grownBy y none := by
  refine (buildOk ta na la pa tc nc lc pc ts ns lv n L R ra rc V st X tn nn ln hlen (hG.kept hX) hc).mono ?_
  rintro e y (⟨ks', es', sa, sc, kv, ev, hau, rfl, hA, hg⟩ | ⟨hau, rfl, hg⟩)
  · have h2 := h.symm.trans hau
    cases h2
  · exact ⟨rfl, hg⟩
end

end Go.Proofs.Ytdijjlhodlghbaa.J

/-
  lr0: the search of the law Lr0Interns, in memory.
-/
namespace Go.Proofs.Ytdijjlhodlghbaa.J
open Go.RowKit Go.Maps Go.Shelf

def natJ (l : List Nat) : List Int := l.map fun (i : Nat) => (i : Int)
theorem natJ_len (l : List Nat) : (natJ l).length = l.length := by unfold natJ; rw [List.length_map]
theorem natJ_snoc (l : List Nat) (t : Nat) : natJ (l ++ [t]) = natJ l ++ [(t : Int)] := by unfold natJ; rw [List.map_append]; rfl

theorem QueAt.apart {X Y : World} {B cap b : Nat} {a : Option Addr} {xs : List Int} (h : QueAt X B a cap xs) (hg : X.grownBy Y (some b)) (hne : cap ≠ 0 → ∀ g off, a = some ⟨g, off, none⟩ → g ≠ b) : QueAt Y B a cap xs := by
  refine ⟨h.1, fun hc => ?_⟩
  obtain ⟨g, off, cur, h1, h2, h3, h4⟩ := h.2 hc
  exact ⟨g, off, cur, h1, h2, (hg.block g (Array.getElem?_eq_some_iff.1 h3).1 (by simpa using hne hc g off h1)).trans h3, h4⟩

/-- The search under way, in memory. -/
structure RbAt (P X : World) (ib bb N : Nat) (inn : Nat → Bool) (by_ : Nat → Int) (a : Option Addr) (cap : Nat) (todo : List Int) : Prop where
  grown : P.grownBy X none
  iv : ValAt X ib N 4 (fun k => .bool (inn k))
  bv : ValAt X bb N 3 (fun k => .int .i64 (by_ k))
  que : QueAt X P.heap.size a cap todo
  sep : cap ≠ 0 → ∀ g off, a = some ⟨g, off, none⟩ → g ≠ bb
  lo : P.heap.size ≤ ib ∧ P.heap.size ≤ bb
section
variable {P X Y : World} {ib bb N : Nat} {inn : Nat → Bool} {by_ : Nat → Int} {a : Option Addr} {cap : Nat} {todo : List Int}
theorem RbAt.kept (h : RbAt P X ib bb N inn by_ a cap todo) (hg : X.grownBy Y none) : RbAt P Y ib bb N inn by_ a cap todo :=
  ⟨grown_trans h.grown hg, h.iv.kept hg, h.bv.kept hg, h.que.kept hg, h.sep, h.lo⟩
theorem RbAt.ne (h : RbAt P X ib bb N inn by_ a cap todo) : ib ≠ bb := fun e => by
  have h1 := h.iv
  have h2 := h.bv
  unfold ValAt at h1 h2
  rw [e, h2] at h1
  simp only [Option.some.injEq, Obj.cells.injEq] at h1
  exact absurd h1.2.1 (by decide)
theorem RbAt.mark (h : RbAt P X ib bb N inn by_ a cap todo) (t : Nat) : RbAt P (X.setCell ⟨ib, t, none⟩ (.bool true)) ib bb N (markJ inn t) by_ a cap todo := by
  have hg : X.grownBy (X.setCell ⟨ib, t, none⟩ (.bool true)) (some ib) := grown_setCell _ _ _
  refine ⟨grown_new h.grown hg h.lo.1, ?_, h.bv.at hg (fun e => h.ne e.symm), h.que.other hg h.iv (by decide), h.sep, h.lo⟩
  refine (h.iv.set t (.bool true)).ext fun i _ => ?_
  unfold put markJ
  by_cases e : i = t
  · rw [if_pos e, if_pos e]
  · rw [if_neg e, if_neg e]
theorem RbAt.setBy (h : RbAt P X ib bb N inn by_ a cap todo) (t : Nat) (v : Int) : RbAt P (X.setCell ⟨bb, t, none⟩ (.int .i64 v)) ib bb N inn (fun u => if u = t then v else by_ u) a cap todo := by
  have hg : X.grownBy (X.setCell ⟨bb, t, none⟩ (.int .i64 v)) (some bb) := grown_setCell _ _ _
  refine ⟨grown_new h.grown hg h.lo.2, h.iv.at hg h.ne, ?_, h.que.apart hg h.sep, h.sep, h.lo⟩
  refine (h.bv.set t (.int .i64 v)).ext fun i _ => ?_
  unfold put
  by_cases e : i = t
  · rw [if_pos e, if_pos e]
  · rw [if_neg e, if_neg e]
theorem RbAt.pop {x : Int} {ys : List Int} {g off : Nat} (h : RbAt P X ib bb N inn by_ (some ⟨g, off, none⟩) cap (x :: ys)) (a' : Option Addr) (ha : 1 < cap → a' = some ⟨g, off + 1, none⟩) : RbAt P X ib bb N inn by_ a' (cap - 1) ys :=
  ⟨h.grown, h.iv, h.bv, h.que.tail a' ha, fun hc g' off' e => by
    rw [ha (by omega)] at e
    simp only [Option.some.injEq, Addr.mk.injEq] at e
    obtain ⟨rfl, _⟩ := e
    exact h.sep (by omega) g off rfl, h.lo⟩
theorem RbAt.push (h : RbAt P X ib bb N inn by_ a cap todo) {a' : Option Addr} {cap' : Nat} {x : Int} (hq : QueAt Y P.heap.size a' cap' (todo ++ [x])) (hg : QueTo X a cap a' Y) : RbAt P Y ib bb N inn by_ a' cap' (todo ++ [x]) := by
  rcases hg with ⟨hg, e⟩ | ⟨g, off, hc, e, e', hg⟩
  · have h2 := h.kept hg
    refine ⟨h2.grown, h2.iv, h2.bv, hq, fun _ g off e2 => ?_, h.lo⟩
    rw [e] at e2
    simp only [Option.some.injEq, Addr.mk.injEq] at e2
    have := h.bv.lt
    omega
  · obtain ⟨g2, off2, cur, h6, hlo, h7, _⟩ := h.que.2 hc
    rw [e] at h6
    simp only [Option.some.injEq, Addr.mk.injEq] at h6
    obtain ⟨rfl, _⟩ := h6
    have n1 : bb ≠ g := fun e9 => h.sep hc g off e e9.symm
    have n2 : ib ≠ g := fun e9 => by
      have h9 := h.iv
      unfold ValAt at h9
      rw [e9, h7] at h9
      simp only [Option.some.injEq, Obj.cells.injEq] at h9
      exact absurd h9.2.1 (by decide)
    refine ⟨grown_new h.grown hg hlo, h.iv.at hg n2, h.bv.at hg n1, hq, fun _ g' off' e2 => ?_, h.lo⟩
    rw [e'] at e2
    simp only [Option.some.injEq, Addr.mk.injEq] at e2
    obtain ⟨rfl, _⟩ := e2
    exact fun e9 => n1 e9.symm
end

end Go.Proofs.Ytdijjlhodlghbaa.J

/-
  lr0: the search of the law Lr0Interns, walked.
-/
namespace Go.Proofs.Ytdijjlhodlghbaa.J
open Go.RowKit Go.Maps Go.Shelf

attribute [local go_sem] Oper.semAt_some

theorem box_apart {X Y : World} {b r : Nat} {cs cs' : Array Value} {t t' : TypeId} (h : X.heap[b]? = some (.cells cs t (0, 0))) (hr : X.heap[r]? = some (.cells cs' t' (0, 0))) (ht : t ≠ t') (hg : X.grownBy Y (some r)) : Y.heap[b]? = some (.cells cs t (0, 0)) := by
  refine (hg.block b (Array.getElem?_eq_some_iff.1 h).1 ?_).trans h
  intro e
  have e2 : b = r := by simpa using e
  subst e2
  rw [h] at hr
  simp only [Option.some.injEq, Obj.cells.injEq] at hr
  exact ht hr.2.1

section
variable (ta na la : Option Addr) (tc nc lc pc : Nat) (n : Nat) (L : Nat → Int) (R : Nat → List Int) (ra : Nat → Option Addr) (rc : Nat → Nat) (V : Nat → Int) (st : Int) (w : World) (tn nn ln : Nat) (bp op sb sc N : Nat) (ask nI : Int)
set_option maxRecDepth 100000 in
set_option maxHeartbeats 8000000 in
theorem reachedJ_any (htn : tn ≤ 65) (hnn : nn ≤ 65)
    (hpr : ∀ k, k < n → ∀ X, w.grownBy X none → X.cell? ⟨bp, op + k * 3 + 1, none⟩ = some (.slice (ra k) (R k).length (rc k)) ∧ IntsAt X (ra k) (R k)) (hRb : ∀ k, k < n → (R k).length ≤ 17592186044416)
    (ks : List (List It)) (es : List (List (Nat × Nat))) (hN256 : N ≤ 256) (hpos : 0 < N) (sy : Nat → Int)
    (hst : ∀ q, q < N → ∃ ea ec ka kc, ∀ Y, w.grownBy Y none → (Y.cell? ⟨sb, q * 2 + 1, none⟩ = some (.slice ea (es.getD q []).length ec) ∧ ItsAt Y ea (elF es q)) ∧ Y.cell? ⟨sb, q * 2, none⟩ = some (.slice ka (ks.getD q []).length kc) ∧ ItsAt Y ka (ks.getD q []))
    (hEl : ∀ q, (es.getD q []).length ≤ 130) (hkl : ∀ q, q < N → (ks.getD q []).length ≤ 10000000)
    (hed : ∀ q, q < N → ∀ s t, (s, t) ∈ es.getD q [] → 0 < s ∧ s < tn + nn ∧ 0 < t ∧ t < N ∧ sy t = (s : Int))
    (hke : ∀ q, 0 < q → q < N → ∀ x ∈ ks.getD q [], itB n R x = true ∧ 1 ≤ x.2 ∧ (R x.1.toNat).getD (x.2 - 1).toNat 0 = sy q)
    (hnew : ∀ t, 0 < t → t < N → ∃ p, p < t ∧ ∃ x ∈ es.getD p [], x.2 = t) :
    Calls Try.prog 23 #[.agg #[.slice ta tn tc, .slice na nn nc, .slice la ln lc, .int .i64 st, .slice (some ⟨bp, op, none⟩) n pc], .agg #[.slice (some ⟨sb, 0, none⟩) N sc, .int .i64 ask, .int .i64 nI]] w fun e y => ∃ ib : Nat, e = .returned (.tuple #[.slice (some ⟨ib, 0, none⟩) N N, .bool true]) ∧ ValAt y ib N 4 (fun _ => .bool true) ∧ w.grownBy y none := by
  obtain ⟨S, hS⟩ : ∃ S, S = tn + nn := ⟨_, rfl⟩
  have HSY : Hid (∀ X, Calls Try.prog 24 #[.agg #[.slice ta tn tc, .slice na nn nc, .slice la ln lc, .int .i64 st, .slice (some ⟨bp, op, none⟩) n pc]] X fun e y => e = .returned (.int .i64 (S : Int)) ∧ X.grownBy y none) := fun X => by
    refine (Go.Proofs.Ytdijjlhodlghbaa.symbols_any ta na la (some ⟨bp, op, none⟩) tn nn ln n tc nc lc pc st X (by omega) (by omega)).mono ?_
    rintro e y ⟨rfl, hg⟩
    exact ⟨by rw [hS, Int.natCast_add], hg⟩
  have HPR := show Hid _ from hpr
  have HRB := show Hid _ from hRb
  have HST0 := show Hid _ from hst
  have HEL := show Hid _ from hEl
  have HKL := show Hid _ from hkl
  have HKE := show Hid _ from hke
  have HNW := show Hid _ from hnew
  have HED : Hid (∀ q i s t, q < N → i < (es.getD q []).length → (es.getD q []).getD i (0, 0) = (s, t) → 0 < s ∧ s < S ∧ 0 < t ∧ t < N ∧ sy t = (s : Int)) := fun q i s t hq hi hx => by
    rw [hS]
    refine hed q hq s t ?_
    rw [← hx]
    clear hx
    generalize es.getD q [] = l at hi ⊢
    rw [List.getD_eq_getElem?_getD, List.getElem?_eq_getElem hi]; exact List.getElem_mem hi
  have HX0 : Hid (PhAt w ((w.alloc (.cells #[.slice ta tn tc, .slice na nn nc, .slice la ln lc, .int .i64 st, .slice (some ⟨bp, op, none⟩) n pc] 27)).alloc (.cells #[.slice (some ⟨sb, 0, none⟩) N sc, .int .i64 ask, .int .i64 nI] 32)) w.heap.size #[.slice ta tn tc, .slice na nn nc, .slice la ln lc, .int .i64 st, .slice (some ⟨bp, op, none⟩) n pc]) := PhAt.kept ⟨World.grownBy_alloc _ _ none, heap_alloc_last w _⟩ (World.grownBy_alloc _ _ none)
  have HB0 : Hid (((w.alloc (.cells #[.slice ta tn tc, .slice na nn nc, .slice la ln lc, .int .i64 st, .slice (some ⟨bp, op, none⟩) n pc] 27)).alloc (.cells #[.slice (some ⟨sb, 0, none⟩) N sc, .int .i64 ask, .int .i64 nI] 32)).heap[w.heap.size + 1]? = some (.cells #[.slice (some ⟨sb, 0, none⟩) N sc, .int .i64 ask, .int .i64 nI] 32 (0, 0))) := by
    have h := heap_alloc_last (w.alloc (.cells #[.slice ta tn tc, .slice na nn nc, .slice la ln lc, .int .i64 st, .slice (some ⟨bp, op, none⟩) n pc] 27)) (.cells #[.slice (some ⟨sb, 0, none⟩) N sc, .int .i64 ask, .int .i64 nI] 32)
    rw [World.size_alloc] at h; exact h
  obtain ⟨i4, hi4, hx0, hx1, hx2⟩ := info_parts infoBool
  obtain ⟨i5, hi5, hw0, hw1, hw2⟩ := info_parts infoInt
  obtain ⟨W, hW⟩ : ∃ W, W = ((w.alloc (.cells #[.slice ta tn tc, .slice na nn nc, .slice la ln lc, .int .i64 st, .slice (some ⟨bp, op, none⟩) n pc] 27)).alloc (.cells #[.slice (some ⟨sb, 0, none⟩) N sc, .int .i64 ask, .int .i64 nI] 32)) := ⟨_, rfl⟩
  have HWE := show Hid _ from hW
  rw [← hW] at HX0 HB0
  have HCE : Hid (∀ Y, W.grownBy Y none → Y.cell? ⟨w.heap.size + 1, 0, none⟩ = some (.slice (some ⟨sb, 0, none⟩) N sc)) := fun Y hY => by rw [cell_of_row _ _ _ _ _ _ (box_kept HB0.out hY)]; rfl
  have y0 := HCE.out W (grown_refl _ _)
  rw [hW] at y0
  have hp1 : (0 : Int) < (N : Int) := by omega
  clear hpr hRb hst hEl hkl hed hke hnew hS hW
  go_enter Try.func23, Try.ntmps23
  go_wp2_with (at_make; rw [← HWE.out]; refine wpList_make_full _ rfl _ _ 54 rfl W.heap.size 4 i4 (.bool false) 1 Try.underlying54 hi4 hx0 hx1 .i64 .i64 _ _ N rfl rfl (by simp) (by simp) (by rw [hx2]; omega) (by unfold maxLen; omega) (by simp) ?_)
  intro w3 hown3 hgr3
  have hval3 : ValAt w3 W.heap.size N 4 (fun _ => .bool false) := made_rowK (B := W.heap.size) rfl (by simpa [Value.cells] using hown3)
  obtain ⟨ib, hib⟩ : ∃ b, b = W.heap.size := ⟨_, rfl⟩
  rw [← hib] at hval3
  try rw [← hib]
  have HG3 : Hid (W.grownBy w3 none) := hgr3
  have HV3 : Hid (ValAt w3 ib N 4 (fun _ => .bool false)) := hval3
  have HIB : Hid (W.heap.size ≤ ib) := by show _ ≤ _; omega
  clear hown3 hgr3 hval3 hib y0
  have y0 := HCE.out w3 HG3.out
  go_wp2_with (at_make; refine wpList_make_full _ rfl _ _ 24 rfl w3.heap.size 3 i5 (.int .i64 0) 1 Try.underlying24 hi5 hw0 hw1 .i64 .i64 _ _ N rfl rfl (by simp) (by simp) (by rw [hw2]; omega) (by unfold maxLen; omega) (by simp) ?_)
  intro w4 hown4 hgr4
  have hval4 : ValAt w4 w3.heap.size N 3 (fun _ => .int .i64 0) := made_rowK (B := w3.heap.size) rfl (by simpa [Value.cells] using hown4)
  obtain ⟨bb, hbb⟩ : ∃ b, b = w3.heap.size := ⟨_, rfl⟩
  rw [← hbb] at hval4
  try rw [← hbb]
  have HR4 : Hid (RbAt W (w4.alloc (.cells #[.int .i64 0] 3)) ib bb N (fun _ => false) (fun _ => 0) (some ⟨w4.heap.size, 0, none⟩) 1 (natJ [0])) := by
    have g4 := grown_trans HG3.out hgr4
    refine ⟨grown_trans g4 (World.grownBy_alloc _ _ none), (HV3.out.kept hgr4).kept (World.grownBy_alloc _ _ none), hval4.kept (World.grownBy_alloc _ _ none), ⟨Nat.le_refl _, fun _ => ⟨w4.heap.size, 0, _, rfl, g4.size, heap_alloc_last w4 _, Nat.le_refl _, fun j hj => ?_⟩⟩, fun _ g off e => ?_, HIB.out, by have := HG3.out.size; omega⟩
    · have hj0 : j = 0 := by simpa [natJ] using hj
      subst hj0; rfl
    · simp only [Option.some.injEq, Addr.mk.injEq] at e
      have := hval4.lt
      omega
  have HBY : Hid ((fun _ => (0 : Int)) = byF sy (markJ (fun _ => false) 0)) := funext fun u => by
    unfold byF markJ
    by_cases e : u = 0
    · rw [if_pos e]
    · rw [if_neg e, if_neg e]; rfl
  have HR5 : Hid (RbAt W ((w4.alloc (.cells #[.int .i64 0] 3)).setCell ⟨ib, 0, none⟩ (.bool true)) ib bb N (markJ (fun _ => false) 0) (byF sy (markJ (fun _ => false) 0)) (some ⟨w4.heap.size, 0, none⟩) 1 (natJ [0])) := by
    rw [← HBY.out]
    exact HR4.out.mark 0
  have m0 := HR4.out.iv.cell 0 hpos
  have mf := HR4.out.iv.free 0
  clear hown4 hgr4 hval4 hbb HR4 y0 HBY
  go_wp2_with fail
  obtain ⟨qb, hqb⟩ : ∃ b, b = w4.heap.size := ⟨_, rfl⟩
  obtain ⟨X5, hX5⟩ : ∃ X, X = (w4.alloc (.cells #[.int .i64 0] 3)).setCell ⟨ib, 0, none⟩ (.bool true) := ⟨_, rfl⟩
  rw [← hX5, ← hqb] at HR5
  try rw [← hX5]
  try rw [← hqb]
  have HS0 : Hid (SrJ es N (markJ (fun _ => false) 0) [0] N 0) := SrJ.start hpos
  obtain ⟨M0, hM0⟩ : ∃ m, m = 1 + (N - cntJ (markJ (fun _ => false) 0) N) := ⟨_, rfl⟩
  have HM0 : Hid (M0 = 1 + (N - cntJ (markJ (fun _ => false) 0) N)) := hM0
  clear hX5 hqb hM0 m0 mf HV3 HG3 HIB HWE
  go_loopg [8, 9] M0 (fun gk v8 v9 wr => ∃ (k cap : Nat) (a : Option Addr) (inn : Nat → Bool) (todo : List Nat), v8 = .slice a k cap ∧ v9 = .bool true ∧ k = todo.length ∧ gk = k + (N - cntJ inn N) ∧ gk ≤ N + 1 ∧ SrJ es N inn todo N 0 ∧ RbAt W wr ib bb N inn (byF sy inn) a cap (natJ todo))
  case atStart => exact ⟨1, 1, _, _, [0], rfl, rfl, rfl, HM0.out, by have := HM0.out; omega, HS0.out, HR5.out⟩
  case round =>
    obtain ⟨k, cap, a, inn, todo, rfl, rfl, hk, hgk, hgb, hSr, hRc⟩ := hrel
    have HGB : Hid (gk ≤ N + 1) := hgb
    have HGK : Hid (gk = k + (N - cntJ inn N)) := hgk
    have HSR : Hid (SrJ es N inn todo N 0) := hSr
    have HRC : Hid (RbAt W wr ib bb N inn (byF sy inn) a cap (natJ todo)) := hRc
    have HK : Hid (k = todo.length) := hk
    have hkN : k ≤ 257 := by omega
    clear hgk hgb hSr hRc HS0 HR5 HM0
    cases todo with
    | cons q0 rest =>
      have hq0 := HSR.out.todoIn q0 List.mem_cons_self
      have hq0N : q0 < N := hq0.1
      obtain ⟨g, off, rfl, hcz⟩ := HRC.out.que.head
      have hk1 : 1 ≤ k := by rw [hk]; simp
      have hkc : k ≤ cap := by have := HRC.out.que.1; rw [natJ_len] at this; omega
      have hkd : decide (0 < k) = true := decide_eq_true (by omega)
      have hkd2 : decide ((0 : Int) < (k : Int)) = true := decide_eq_true (by omega)
      have hki : (1 : Int) ≤ (k : Int) := by omega
      have hki2 : (0 : Int) < (k : Int) := by omega
      obtain ⟨k2, hk2⟩ : ∃ k2, k = k2 + 1 := ⟨k - 1, by omega⟩
      have HK2 : Hid (k2 = rest.length) := by have := HK.out; simp at this; show _ = _; omega
      have HSP : Hid (SrJ es N inn rest q0 0) := HSR.out.pop
      obtain ⟨ea, ec, _, _, hst⟩ := HST0.out q0 hq0N
      obtain ⟨E, hE⟩ : ∃ E, E = (es.getD q0 []).length := ⟨_, rfl⟩
      have HE : Hid (E = (es.getD q0 []).length) := hE
      have hEb : E ≤ 130 := by rw [hE]; exact HEL.out q0
      have HST : Hid (∀ Y, W.grownBy Y none → Y.cell? ⟨sb, q0 * 2 + 1, none⟩ = some (.slice ea E ec) ∧ ItsAt Y ea (elF es q0)) := fun Y hY => by rw [hE]; exact (hst Y (grown_trans HX0.out.grown hY)).1
      obtain ⟨M1, hM1⟩ : ∃ m, m = k2 + (N - cntJ inn N) := ⟨_, rfl⟩
      have HM1 : Hid (M1 = k2 + (N - cntJ inn N)) := hM1
      have HGK1 : Hid (gk = M1 + 1) := by have h1 := HGK.out; show _ = _; omega
      have hq00 : (0 : Int) ≤ (q0 : Int) := by omega
      have hq01 : (q0 : Int) < (N : Int) := by omega
      have hM1b : M1 ≤ N := by have h1 := HGB.out; have h2 := HGK1.out; omega
      generalize hwr : wr = W0 at *
      clear hwr hk hq0 hst hE hM1 hkd HGK HK HSR
      subst hk2
      by_cases hcp : cap = 1
      case' pos =>
        have HT : Hid (RbAt W W0 ib bb N inn (byF sy inn) (some ⟨g, off, none⟩) 0 (natJ rest)) := by
          have := HRC.out.pop (some ⟨g, off, none⟩) (fun h => by omega)
          rwa [hcp] at this
        subst hcp
        obtain rfl : k2 = 0 := by omega
        go_wp2_with fail
      case' neg =>
        have hcp1 : 1 < cap := by omega
        have HT : Hid (RbAt W W0 ib bb N inn (byF sy inn) (some ⟨g, off + 1, none⟩) (cap - 1) (natJ rest)) := HRC.out.pop _ (fun _ => rfl)
        have hcd : decide (1 < cap) = true := decide_eq_true hcp1
        go_wp2_with fail
      all_goals
        clear HRC hcz
        go_loopg [8, 9, 11] E (fun gi v8 v9 v11 wr => ∃ (i k cap : Nat) (a : Option Addr) (inn : Nat → Bool) (todo : List Nat), i ≤ E ∧ gi = E - i ∧ v8 = .slice a k cap ∧ v9 = .bool true ∧ v11 = .int .i64 i ∧ k = todo.length ∧ k + (N - cntJ inn N) = M1 ∧ SrJ es N inn todo q0 i ∧ RbAt W wr ib bb N inn (byF sy inn) a cap (natJ todo))
        case atStart => exact ⟨0, _, _, _, _, rest, Nat.zero_le _, rfl, rfl, rfl, rfl, HK2.out, HM1.out.symm, HSP.out, HT.out⟩
        case round =>
          obtain ⟨i, k, cap, a, inn, todo, hi, hgi, rfl, rfl, rfl, hk, hms, hSr, hRc⟩ := hrel
          have HGI : Hid (gk = E - i) := hgi
          have HK : Hid (k = todo.length) := hk
          have HMS : Hid (k + (N - cntJ inn N) = M1) := hms
          have HSR : Hid (SrJ es N inn todo q0 i) := hSr
          have HRC : Hid (RbAt W wr ib bb N inn (byF sy inn) a cap (natJ todo)) := hRc
          have hkb : k ≤ 257 := by omega
          clear hgi hk hms hSr hRc HT HSP HM1 HK2
          have y0 := HCE.out wr HRC.out.grown
          have s0 := (HST.out wr HRC.out.grown).1
          by_cases hlt : i < E
          · have hid : decide (i < E) = true := decide_eq_true hlt
            have hi0 : (0 : Int) ≤ (i : Int) := by omega
            have hi1 : (i : Int) < (E : Int) := by omega
            have hil : i < (es.getD q0 []).length := by rw [← HE.out]; exact hlt
            obtain ⟨eb0, eo, hea, e0, e1⟩ := (HST.out wr HRC.out.grown).2.cellAt (i := i) (by rw [elF_len]; exact hil)
            subst hea
            rw [(elF_at hil).2] at e0 e1
            obtain ⟨x, hx⟩ : ∃ x, x = (es.getD q0 []).getD i (0, 0) := ⟨_, rfl⟩
            rw [← hx] at e0 e1
            obtain ⟨s, t⟩ := x
            simp only at e0 e1
            have HX : Hid ((es.getD q0 []).getD i (0, 0) = (s, t)) := hx.symm
            obtain ⟨hs0, hsS, ht0, htN, hsy⟩ := HED.out q0 i s t hq0N hil hx.symm
            have HSYT : Hid (sy t = (s : Int)) := hsy
            obtain ⟨eb, heb⟩ : ∃ b, b = wr.heap.size := ⟨_, rfl⟩
            have HEB : Hid (eb = wr.heap.size) := heb
            obtain ⟨Y0, hY0⟩ : ∃ Y, Y = wr.alloc (.cells #[.int .i64 (s : Int), .int .i64 (t : Int)] 59) := ⟨_, rfl⟩
            have HY0 : Hid (Y0 = wr.alloc (.cells #[.int .i64 (s : Int), .int .i64 (t : Int)] 59)) := hY0
            have hgY : wr.grownBy Y0 none := by rw [hY0]; exact World.grownBy_alloc _ _ none
            have HBX : Hid (Y0.heap[eb]? = some (.cells #[.int .i64 (s : Int), .int .i64 (t : Int)] 59 (0, 0))) := by rw [hY0, heb]; exact heap_alloc_last wr _
            have HRY : Hid (RbAt W Y0 ib bb N inn (byF sy inn) a cap (natJ todo)) := HRC.out.kept hgY
            have hA : Y0.grownBy Y0.drew none := grown_drewN _ 1
            haveI hne : Nonempty (WBox (fun y => Y0.grownBy y none)) := ⟨⟨_, hA⟩⟩
            have g0 := fun z : WBox (fun y => Y0.grownBy y none) => (HX0.out.kept (grown_trans HRY.out.grown z.ok)).cells.1
            have g1 := fun z : WBox (fun y => Y0.grownBy y none) => (HX0.out.kept (grown_trans HRY.out.grown z.ok)).cells.2.1
            have g2 := fun z : WBox (fun y => Y0.grownBy y none) => (HX0.out.kept (grown_trans HRY.out.grown z.ok)).cells.2.2.1
            have g3 := fun z : WBox (fun y => Y0.grownBy y none) => (HX0.out.kept (grown_trans HRY.out.grown z.ok)).cells.2.2.2.1
            have g4 := fun z : WBox (fun y => Y0.grownBy y none) => (HX0.out.kept (grown_trans HRY.out.grown z.ok)).cells.2.2.2.2
            have g5 := fun z : WBox (fun y => Y0.grownBy y none) => HCE.out z.w (grown_trans HRY.out.grown z.ok)
            have b0 : ∀ z : WBox (fun y => Y0.grownBy y none), z.w.cell? ⟨eb, 0, none⟩ = some (.int .i64 (s : Int)) := fun z => by rw [cell_of_row _ _ _ _ _ _ (box_kept HBX.out z.ok)]; rfl
            have b1 : ∀ z : WBox (fun y => Y0.grownBy y none), z.w.cell? ⟨eb, 1, none⟩ = some (.int .i64 (t : Int)) := fun z => by rw [cell_of_row _ _ _ _ _ _ (box_kept HBX.out z.ok)]; rfl
            have K1 : Hid (∀ z : WBox (fun y => Y0.grownBy y none), Calls Try.prog 24 #[.agg #[.slice ta tn tc, .slice na nn nc, .slice la ln lc, .int .i64 st, .slice (some ⟨bp, op, none⟩) n pc]] z.w fun e w' => e = .returned (.int .i64 (S : Int)) ∧ ∃ z' : WBox (fun y => Y0.grownBy y none), w' = z'.w) := fun z => calls_class ((HSY.out z.w).mono fun e w' h => ⟨h.1, grown_trans z.ok h.2⟩)
            have t0 : (0 : Int) ≤ (t : Int) := by omega
            have t1 : (t : Int) < (N : Int) := by omega
            have d1 : decide ((t : Int) < 1) = false := decide_eq_false (by omega)
            have d1n : decide (t < 1) = false := decide_eq_false (by omega)
            have d2 : decide ((N : Int) ≤ (t : Int)) = false := decide_eq_false (by omega)
            have d2n : decide (N ≤ t) = false := decide_eq_false (by omega)
            have d3 : decide ((s : Int) < 1) = false := decide_eq_false (by omega)
            have d3n : decide (s < 1) = false := decide_eq_false (by omega)
            have d4 : decide ((S : Int) ≤ (s : Int)) = false := decide_eq_false (by omega)
            have d4n : decide (S ≤ s) = false := decide_eq_false (by omega)
            have d5 : ((s : Int) == 0) = false := beq_eq_false_iff_ne.2 (by omega)
            have d5n : (s == 0) = false := beq_eq_false_iff_ne.2 (by omega)
            have d6 : ((s : Int) == (s : Int)) = true := beq_self_eq_true _
            have d6n : (s == s) = true := beq_self_eq_true _
            have d7 : (t == 0) = false := beq_eq_false_iff_ne.2 (by omega)
            have HT0 : Hid (0 < t) := ht0
            obtain ⟨bt, hbt⟩ : ∃ b, b = inn t := ⟨_, rfl⟩
            have HBT : Hid (bt = inn t) := hbt
            clear hx hil hsy hY0 hgY hbt heb
            go_wp2_with fail
            rw [← HY0.out, ← HEB.out]
            refine wp_region_class (p := fun y => Y0.grownBy y none) (by kernel_rfl) (by kernel_rfl) hA ?_
            repeat (go_big_quiet_step (first | (go_at_call 24; rename_i z; with_reducible exact K1.out z)))
            refine wpQuiet_nil ?_
            rintro _ ⟨z, rfl⟩
            have hok := z.ok
            clear g0 g1 g2 g3 g4 g5 b0 b1 K1 hA
            generalize z.w = Y1 at *
            have HR1 : Hid (RbAt W Y1 ib bb N inn (byF sy inn) a cap (natJ todo)) := HRY.out.kept hok
            have HBX1 : Hid (Y1.heap[eb]? = some (.cells #[.int .i64 (s : Int), .int .i64 (t : Int)] 59 (0, 0))) := box_kept HBX.out hok
            clear hok y0 s0 e0 e1
            have b0 : Y1.cell? ⟨eb, 0, none⟩ = some (.int .i64 (s : Int)) := by rw [cell_of_row _ _ _ _ _ _ HBX1.out]; rfl
            have b1 : Y1.cell? ⟨eb, 1, none⟩ = some (.int .i64 (t : Int)) := by rw [cell_of_row _ _ _ _ _ _ HBX1.out]; rfl
            have n0 := HR1.out.bv.cell t htN
            cases bt with
            | true =>
              have HIT : Hid (inn t = true) := HBT.out.symm
              have HBE : Hid (byF sy inn t = (s : Int)) := by
                show _ = _
                unfold byF
                rw [if_neg (by have := HT0.out; omega), if_pos HBT.out.symm]; exact HSYT.out
              have HSK : Hid (SrJ es N inn todo q0 (i + 1)) := HSR.out.skip (by rw [HX.out]; exact HBT.out.symm)
              have HSM : Hid ((fun u => if u = t then (s : Int) else byF sy inn u) = byF sy inn) := by
                show _ = _
                rw [← HSYT.out]
                exact byF_same HT0.out HBT.out.symm
              rw [HBE.out] at n0
              clear HBT
              go_wp2_with fail
              go_quiet (fail)
              obtain ⟨V1, hV1⟩ : ∃ V, V = Y1.drewN nq := ⟨_, rfl⟩
              have hRV : RbAt W V1 ib bb N inn (byF sy inn) a cap (natJ todo) := by rw [hV1]; exact HR1.out.kept (grown_drewN _ _)
              have hBV : V1.heap[eb]? = some (.cells #[.int .i64 (s : Int), .int .i64 (t : Int)] 59 (0, 0)) := by rw [hV1]; exact box_kept HBX1.out (grown_drewN _ _)
              rw [← hV1]
              clear b0 b1 n0
              have b0 : V1.cell? ⟨eb, 0, none⟩ = some (.int .i64 (s : Int)) := by rw [cell_of_row _ _ _ _ _ _ hBV]; rfl
              have b1 : V1.cell? ⟨eb, 1, none⟩ = some (.int .i64 (t : Int)) := by rw [cell_of_row _ _ _ _ _ _ hBV]; rfl
              have n0 := hRV.bv.cell t htN
              rw [HBE.out] at n0
              have nf := hRV.bv.free t
              have hR2 := hRV.setBy t (s : Int)
              have hB2 : (V1.setCell ⟨bb, t, none⟩ (.int .i64 (s : Int))).heap[eb]? = some (.cells #[.int .i64 (s : Int), .int .i64 (t : Int)] 59 (0, 0)) := box_apart hBV hRV.bv (by decide) (grown_setCell _ _ _)
              have b2 : (V1.setCell ⟨bb, t, none⟩ (.int .i64 (s : Int))).cell? ⟨eb, 1, none⟩ = some (.int .i64 (t : Int)) := by rw [cell_of_row _ _ _ _ _ _ hB2]; rfl
              have i2 : (V1.setCell ⟨bb, t, none⟩ (.int .i64 (s : Int))).cell? ⟨ib, t, none⟩ = some (.bool true) := by
                have h := hR2.iv.cell t htN
                rw [HIT.out] at h
                exact h
              rw [HSM.out] at hR2
              have HR2 : Hid (RbAt W (V1.setCell ⟨bb, t, none⟩ (.int .i64 (s : Int))) ib bb N inn (byF sy inn) a cap (natJ todo)) := hR2
              clear hRV hBV hB2 hR2 hV1
              go_wp2_with fail
              go_roundg (E - (i + 1))
              case measure => have := HGI.out; omega
              case rel => exact ⟨i + 1, k, cap, a, inn, todo, by omega, rfl, rfl, rfl, by go_num, HK.out, HMS.out, HSK.out, HR2.out⟩
            | false =>
              have HIT : Hid (inn t = false) := HBT.out.symm
              have HBE : Hid (byF sy inn t = 0) := by
                show _ = _
                unfold byF
                rw [if_neg (by have := HT0.out; omega), if_neg (by rw [HIT.out]; decide)]
              have HSA : Hid (SrJ es N (markJ inn t) (todo ++ [t]) q0 (i + 1)) := HSR.out.add HX.out htN
              have HSM : Hid ((fun u => if u = t then (s : Int) else byF sy inn u) = byF sy (markJ inn t)) := by
                show _ = _
                rw [← HSYT.out]
                exact byF_mark HT0.out
              have HMS1 : Hid (k + 1 + (N - cntJ (markJ inn t) N) = M1) := by
                have h1 := cntJ_mark HIT.out N htN
                have h2 := cntJ_le (markJ inn t) N
                have h3 := HMS.out
                show _ = _
                omega
              rw [HBE.out] at n0
              clear HBT
              go_wp2_with fail
              go_quiet (fail)
              obtain ⟨V1, hV1⟩ : ∃ V, V = Y1.drewN nq := ⟨_, rfl⟩
              have hRV : RbAt W V1 ib bb N inn (byF sy inn) a cap (natJ todo) := by rw [hV1]; exact HR1.out.kept (grown_drewN _ _)
              have hBV : V1.heap[eb]? = some (.cells #[.int .i64 (s : Int), .int .i64 (t : Int)] 59 (0, 0)) := by rw [hV1]; exact box_kept HBX1.out (grown_drewN _ _)
              rw [← hV1]
              clear b0 b1 n0
              have b0 : V1.cell? ⟨eb, 0, none⟩ = some (.int .i64 (s : Int)) := by rw [cell_of_row _ _ _ _ _ _ hBV]; rfl
              have b1 : V1.cell? ⟨eb, 1, none⟩ = some (.int .i64 (t : Int)) := by rw [cell_of_row _ _ _ _ _ _ hBV]; rfl
              have n0 := hRV.bv.cell t htN
              rw [HBE.out] at n0
              have nf := hRV.bv.free t
              have hR2 := hRV.setBy t (s : Int)
              have hB2 : (V1.setCell ⟨bb, t, none⟩ (.int .i64 (s : Int))).heap[eb]? = some (.cells #[.int .i64 (s : Int), .int .i64 (t : Int)] 59 (0, 0)) := box_apart hBV hRV.bv (by decide) (grown_setCell _ _ _)
              have b2 : (V1.setCell ⟨bb, t, none⟩ (.int .i64 (s : Int))).cell? ⟨eb, 1, none⟩ = some (.int .i64 (t : Int)) := by rw [cell_of_row _ _ _ _ _ _ hB2]; rfl
              have i2 : (V1.setCell ⟨bb, t, none⟩ (.int .i64 (s : Int))).cell? ⟨ib, t, none⟩ = some (.bool false) := by
                have h := hR2.iv.cell t htN
                rw [HIT.out] at h
                exact h
              rw [HSM.out] at hR2
              have hR3 := hR2.mark t
              have hB3 : ((V1.setCell ⟨bb, t, none⟩ (.int .i64 (s : Int))).setCell ⟨ib, t, none⟩ (.bool true)).heap[eb]? = some (.cells #[.int .i64 (s : Int), .int .i64 (t : Int)] 59 (0, 0)) := box_apart hB2 hR2.iv (by decide) (grown_setCell _ _ _)
              have if2 := hR2.iv.free t
              obtain ⟨V3, hV3⟩ : ∃ V, V = (V1.setCell ⟨bb, t, none⟩ (.int .i64 (s : Int))).setCell ⟨ib, t, none⟩ (.bool true) := ⟨_, rfl⟩
              have HV3 := show Hid _ from hV3
              have b3 : V3.cell? ⟨eb, 1, none⟩ = some (.int .i64 (t : Int)) := by rw [hV3, cell_of_row _ _ _ _ _ _ hB3]; rfl
              have HSE : Hid (V3.heap.size = V1.heap.size) := by
                show _ = _
                rw [hV3]; simp
              rw [← hV3] at hR3
              rw [hV3] at b3
              have HR3 : Hid (RbAt W V3 ib bb N (markJ inn t) (byF sy (markJ inn t)) a cap (natJ todo)) := hR3
              have HQA : Hid (QueAt (V3.alloc (.cells #[.int .i64 (t : Int)] 3)) W.heap.size a cap (natJ todo)) := (hR3.kept (World.grownBy_alloc V3 (.cells #[.int .i64 (t : Int)] 3) none)).que
              have HSZ : Hid (W.heap.size ≤ (V3.alloc (.cells #[.int .i64 (t : Int)] 3)).heap.size) := (hR3.kept (World.grownBy_alloc V3 (.cells #[.int .i64 (t : Int)] 3) none)).grown.size
              have HNC : Hid ((V3.alloc (.cells #[.int .i64 (t : Int)] 3)).cell? ⟨V1.heap.size, 0, none⟩ = some (.int .i64 (t : Int))) := by
                show _ = _
                rw [← HSE.out, cell_of_row _ _ _ _ _ _ (heap_alloc_last V3 _)]; rfl
              clear hRV hBV hB2 hR2 hR3 hB3 hV3 hV1
              go_wp2_with (at_builtin; rw [← HV3.out]; refine wpList_append_que _ rfl (.tmp 114) (.tmp 117) 24 rfl W.heap.size i5 Try.underlying24 hi5 hw0 hw1 hw2 a k cap (natJ todo) rfl (by rw [natJ_len]; exact HK.out) HQA.out HSZ.out V1.heap.size (t : Int) 1 rfl HNC.out (by omega) ?_)
              intro a8 cap8 w8 hq8 hg8
              have HR8 : Hid (RbAt W w8 ib bb N (markJ inn t) (byF sy (markJ inn t)) a8 cap8 (natJ (todo ++ [t]))) := by
                show RbAt _ _ _ _ _ _ _ _ _ _
                rw [natJ_snoc]
                exact (HR3.out.kept (World.grownBy_alloc V3 (.cells #[.int .i64 (t : Int)] 3) none)).push hq8 hg8
              clear hq8 hg8 HQA HSZ HNC b0 b1 b2 b3 i2 n0 nf if2
              go_wp2_with fail
              go_roundg (E - (i + 1))
              case measure => have := HGI.out; omega
              case rel => exact ⟨i + 1, k + 1, cap8, a8, _, todo ++ [t], by omega, rfl, rfl, rfl, by go_num, by rw [List.length_append, ← HK.out]; rfl, HMS1.out, HSA.out, HR8.out⟩
          · have hiE : E = i := by omega
            subst hiE
            have hid : decide (E < E) = false := decide_eq_false (by omega)
            have HSL : Hid (SrJ es N inn todo N 0) := HSR.out.left (by rw [← HE.out]; exact Nat.le_refl _)
            go_wp2_with fail
            go_roundg M1
            case measure => have := HGK1.out; omega
            case rel => exact ⟨k, cap, a, inn, todo, rfl, rfl, HK.out, HMS.out.symm, by omega, HSL.out, HRC.out⟩
    | nil =>
      obtain rfl : k = 0 := by rw [hk]; rfl
      have HALL : Hid (∀ t, t < N → inn t = true) := fun t ht => HSR.out.all HNW.out (t + 1) t (Nat.lt_succ_self _) ht
      have HIV : Hid (∀ Y, wr.grownBy Y none → ValAt Y ib N 4 (fun _ => .bool true)) := fun Y hY => (HRC.out.kept hY).iv.ext fun i hi => by rw [HALL.out i hi]
      have HBV : Hid (∀ Y q, wr.grownBy Y none → 0 < q → q < N → Y.cell? ⟨bb, q, none⟩ = some (.int .i64 (sy q))) := fun Y q hY h1 h2 => by
        have h := (HRC.out.kept hY).bv.cell q h2
        unfold byF at h
        rw [if_neg (by omega), if_pos (HALL.out q h2)] at h
        exact h
      have HGW : Hid (W.grownBy wr none) := HRC.out.grown
      generalize wr = W0 at *
      clear hk HK HGK HGB HSR HRC HALL
      go_wp2_with fail
      go_loopg [9, 13] (N - 1) (fun gk v9 v13 wr => ∃ q : Nat, 1 ≤ q ∧ q ≤ N ∧ gk = N - q ∧ v9 = .bool true ∧ v13 = .int .i64 q ∧ W0.grownBy wr none)
      case atStart => exact ⟨1, Nat.le_refl _, by omega, rfl, rfl, rfl, grown_refl _ _⟩
      case round =>
        obtain ⟨q, hq1, hq, hgq, rfl, rfl, hg⟩ := hrel
        have HGQ : Hid (gk = N - q) := hgq
        have HG : Hid (W0.grownBy wr none) := hg
        have y0 := HCE.out wr (grown_trans HGW.out hg)
        clear hgq hg
        by_cases hlt : q < N
        · have hqd : decide (q < N) = true := decide_eq_true hlt
          have hq0' : (0 : Int) ≤ (q : Int) := by omega
          have hq1' : (q : Int) < (N : Int) := by omega
          obtain ⟨_, _, ka, kc, hst⟩ := HST0.out q hlt
          obtain ⟨K, hK⟩ : ∃ K, K = (ks.getD q []).length := ⟨_, rfl⟩
          have HK : Hid (K = (ks.getD q []).length) := hK
          have hKb : K ≤ 10000000 := by rw [hK]; exact HKL.out q hlt
          have HKC : Hid (∀ Y, W0.grownBy Y none → Y.cell? ⟨sb, q * 2, none⟩ = some (.slice ka K kc) ∧ ItsAt Y ka (ks.getD q [])) := fun Y hY => by rw [hK]; exact (hst Y (grown_trans HX0.out.grown (grown_trans HGW.out hY))).2
          have HKI := show Hid _ from HKE.out q (by omega) hlt
          obtain ⟨sq, hsq⟩ : ∃ v, v = sy q := ⟨_, rfl⟩
          have HBQ : Hid (∀ Y, W0.grownBy Y none → Y.cell? ⟨bb, q, none⟩ = some (.int .i64 sq)) := fun Y hY => by rw [hsq]; exact HBV.out Y q hY (by omega) hlt
          rw [← hsq] at HKI
          clear hst hK hsq
          generalize wr = W1 at *
          go_wp2_with fail
          clear y0
          go_loopg [9, 14] K (fun gk v9 v14 wr => ∃ j : Nat, j ≤ K ∧ gk = K - j ∧ v9 = .bool true ∧ v14 = .int .i64 j ∧ W0.grownBy wr none)
          case atStart => exact ⟨0, Nat.zero_le _, rfl, rfl, rfl, HG.out⟩
          case round =>
            obtain ⟨j, hj, hgj, rfl, rfl, hg⟩ := hrel
            have HGJ : Hid (gk = K - j) := hgj
            have HGR : Hid (W0.grownBy wr none) := hg
            have y0 := HCE.out wr (grown_trans HGW.out hg)
            obtain ⟨r0, hit⟩ := HKC.out wr hg
            clear hgj hg
            by_cases hjt : j < K
            · have hjd : decide (j < K) = true := decide_eq_true hjt
              have hj0 : (0 : Int) ≤ (j : Int) := by omega
              have hj1 : (j : Int) < (K : Int) := by omega
              have hjl : j < (ks.getD q []).length := by rw [← HK.out]; exact hjt
              obtain ⟨kb, ko, hka, e0, e1⟩ := hit.cellAt hjl
              subst hka
              have hmem : (ks.getD q []).getD j (0, 0) ∈ ks.getD q [] := by
                clear e0 e1
                generalize ks.getD q [] = l at hjl ⊢
                rw [List.getD_eq_getElem?_getD, List.getElem?_eq_getElem hjl]; exact List.getElem_mem hjl
              obtain ⟨hib, hx1, hxs⟩ := HKI.out _ hmem
              obtain ⟨x, hx⟩ : ∃ x, x = (ks.getD q []).getD j (0, 0) := ⟨_, rfl⟩
              rw [← hx] at e0 e1 hib hx1 hxs
              obtain ⟨p, d⟩ := x
              unfold itB at hib
              simp only [Bool.and_eq_true, decide_eq_true_eq] at hib
              simp only at e0 e1 hx1 hxs
              obtain ⟨⟨⟨a1, a2⟩, a3⟩, a4⟩ := hib
              obtain ⟨pn, rfl⟩ : ∃ pn : Nat, p = (pn : Int) := ⟨p.toNat, by omega⟩
              obtain ⟨dn, rfl⟩ : ∃ dn : Nat, d = (dn : Int) := ⟨d.toNat, by omega⟩
              rw [Int.toNat_natCast] at a4 hxs
              have hpn : pn < n := by omega
              obtain ⟨d1, hd1⟩ : ∃ d1 : Nat, d1 = dn - 1 := ⟨_, rfl⟩
              have hdt : ((dn : Int) - 1).toNat = d1 := by omega
              rw [hdt] at hxs
              obtain ⟨rl, hrl⟩ : ∃ r, r = (R pn).length := ⟨_, rfl⟩
              have hrlb : rl ≤ 17592186044416 := by rw [hrl]; exact HRB.out pn hpn
              have hd1l : d1 < rl := by omega
              have HPC : Hid (∀ Y, W0.grownBy Y none → Y.cell? ⟨bp, op + pn * 3 + 1, none⟩ = some (.slice (ra pn) rl (rc pn)) ∧ IntsAt Y (ra pn) (R pn)) := fun Y hY => by rw [hrl]; exact HPR.out pn hpn Y (grown_trans HX0.out.grown (grown_trans HGW.out hY))
              obtain ⟨rb, ro, hra⟩ : ∃ rb ro, ra pn = some ⟨rb, ro, none⟩ := by
                rcases (HPC.out wr HGR.out).2 with h | ⟨b, off, e, h⟩
                · rw [h] at hrl; simp at hrl; omega
                · exact ⟨b, off, e⟩
              have HRC9 : Hid (∀ Y, W0.grownBy Y none → Y.cell? ⟨bp, op + pn * 3 + 1, none⟩ = some (.slice (some ⟨rb, ro, none⟩) rl (rc pn)) ∧ Y.cell? ⟨rb, ro + d1, none⟩ = some (.int .i64 sq)) := fun Y hY => by
                obtain ⟨h1, h2⟩ := HPC.out Y hY
                rw [hra] at h1 h2
                refine ⟨h1, ?_⟩
                rcases h2 with h | ⟨b, off, e, h⟩
                · rw [h] at hrl; simp at hrl; omega
                · cases e
                  rw [h d1 (by omega), hxs]
              obtain ⟨eb, heb⟩ : ∃ b, b = wr.heap.size := ⟨_, rfl⟩
              have HEB : Hid (eb = wr.heap.size) := heb
              obtain ⟨Y0, hY0⟩ : ∃ Y, Y = wr.alloc (.cells #[.int .i64 (pn : Int), .int .i64 (dn : Int)] 49) := ⟨_, rfl⟩
              have HY0 : Hid (Y0 = wr.alloc (.cells #[.int .i64 (pn : Int), .int .i64 (dn : Int)] 49)) := hY0
              have hgY : wr.grownBy Y0 none := by rw [hY0]; exact World.grownBy_alloc _ _ none
              have HGY : Hid (W0.grownBy Y0 none) := grown_trans HGR.out hgY
              have HBX : Hid (Y0.heap[eb]? = some (.cells #[.int .i64 (pn : Int), .int .i64 (dn : Int)] 49 (0, 0))) := by rw [hY0, heb]; exact heap_alloc_last wr _
              have HFC : Hid (∀ Y, Y0.grownBy Y none → Y.cell? ⟨eb, 0, none⟩ = some (.int .i64 (pn : Int)) ∧ Y.cell? ⟨eb, 1, none⟩ = some (.int .i64 (dn : Int)) ∧ Y.cell? ⟨w.heap.size, 4, none⟩ = some (.slice (some ⟨bp, op, none⟩) n pc) ∧ Y.cell? ⟨bp, op + pn * 3 + 1, none⟩ = some (.slice (some ⟨rb, ro, none⟩) rl (rc pn)) ∧ Y.cell? ⟨rb, ro + d1, none⟩ = some (.int .i64 sq) ∧ Y.cell? ⟨bb, q, none⟩ = some (.int .i64 sq)) := fun Y hY => by
                have h := box_kept HBX.out hY
                obtain ⟨h1, h2⟩ := HRC9.out Y (grown_trans HGY.out hY)
                exact ⟨by rw [cell_of_row _ _ _ _ _ _ h]; rfl, by rw [cell_of_row _ _ _ _ _ _ h]; rfl, (HX0.out.kept (grown_trans HGW.out (grown_trans HGY.out hY))).cells.2.2.2.2, h1, h2, HBQ.out Y (grown_trans HGY.out hY)⟩
              have p0 : (0 : Int) ≤ (pn : Int) := by omega
              have p1 : (pn : Int) < (n : Int) := by omega
              have d1a : decide ((pn : Int) < 0) = false := decide_eq_false (by omega)
              have d2a : decide ((n : Int) ≤ (pn : Int)) = false := decide_eq_false (by omega)
              have d2n : decide (n ≤ pn) = false := decide_eq_false (by omega)
              have d3a : decide ((dn : Int) < 1) = false := decide_eq_false (by omega)
              have d3n : decide (dn < 1) = false := decide_eq_false (by omega)
              have d4a : decide ((rl : Int) < (dn : Int)) = false := decide_eq_false (by omega)
              have d4n : decide (rl < dn) = false := decide_eq_false (by omega)
              have hsb : (dn : Int) - 1 = (d1 : Int) := by omega
              have hwd : IntKind.i64.wrap (d1 : Int) = (d1 : Int) := by rw [IntKind.wrap_i64]; omega
              have hd0 : (0 : Int) ≤ (d1 : Int) := by omega
              have hdl : (d1 : Int) < (rl : Int) := by omega
              have hss : (sq == sq) = true := beq_self_eq_true _
              clear hx hjl hmem hx1 hxs a1 a2 a3 a4 hd1 hdt hrl hra hY0 heb HPC hit
              go_wp2_with fail
              rw [← HY0.out, ← HEB.out]
              obtain ⟨f0, f1, f2, f3, f4, f5⟩ := HFC.out Y0 (grown_refl _ _)
              go_quiet (fail)
              obtain ⟨V1, hV1⟩ : ∃ V, V = Y0.drewN nq := ⟨_, rfl⟩
              have HGV : Hid (Y0.grownBy V1 none) := by rw [hV1]; exact grown_drewN _ _
              rw [← hV1]
              clear f0 f1 f2 f3 f4 f5 hV1
              obtain ⟨f0, f1, f2, f3, f4, f5⟩ := HFC.out V1 HGV.out
              go_wp2_with fail
              go_quiet (fail)
              go_wp2_with fail
              go_roundg (K - (j + 1))
              case measure => have := HGJ.out; omega
              case rel => exact ⟨j + 1, by omega, rfl, rfl, by go_num, by first | exact grown_trans HGY.out HGV.out | exact grown_trans HGY.out (grown_trans HGV.out (grown_drewN _ _))⟩
            · have hjK : K = j := by omega
              subst hjK
              have hjd : decide (K < K) = false := decide_eq_false (by omega)
              go_wp2_with fail
              go_roundg (N - (q + 1))
              case measure => have := HGQ.out; omega
              case rel => exact ⟨q + 1, by omega, by omega, rfl, rfl, by go_num, HGR.out⟩
        · have hqN : N = q := by omega
          subst hqN
          have hqd : decide (N < N) = false := decide_eq_false (by omega)
          go_wp2_with fail
          go_ret2
          exact ⟨ib, rfl, HIV.out _ HG.out, grown_trans HX0.out.grown (grown_trans HGW.out HG.out)⟩
end

end Go.Proofs.Ytdijjlhodlghbaa.J

/-
  lr0: the law's awake.
-/
namespace Go.Proofs.Ytdijjlhodlghbaa.J
open Go.RowKit Go.Maps Go.Shelf

attribute [local go_sem] Oper.semAt_some

theorem k_gg : autoF (GG 3 3 kL kR) 5 256 = some (kKs, kEs) := by
  have h : ∀ k ∈ kKs, IsClo 3 3 kL kR k (CLo 3 3 kL kR k) := fun k hk => by
    have h1 := k_clo k hk
    rw [CLo_eq h1 (by
      simp only [kKs, List.mem_cons, List.not_mem_nil, or_false] at hk
      rcases hk with rfl | rfl | rfl | rfl | rfl <;> decide)]
    exact h1
  exact k_auto h

theorem k_item : ∀ x ∈ [((0 : Int), (0 : Int))], itB 3 kR x = true := by intro x hx; rw [List.mem_singleton.1 hx]; rfl
theorem k_build {w1 X : World} {b1 b2 b6 : Nat} {ra : Nat → Option Addr} {rc : Nat → Nat} (hG1 : GAt w1 (some ⟨b1, 0, none⟩) (some ⟨b2, 0, none⟩) none (some ⟨b6, 0, none⟩) 3 2 0 3 kTs kNs [] 3 kL kR ra rc (fun _ => 0)) (hX : w1.grownBy X none) : Calls Try.prog 12 #[.agg #[.slice (some ⟨b1, 0, none⟩) 3 3, .slice (some ⟨b2, 0, none⟩) 2 2, .slice none 0 0, .int .i64 4, .slice (some ⟨b6, 0, none⟩) 3 3]] X fun e y => ∃ sa sc, e = .returned (.tuple #[.agg #[.slice sa 5 sc, .int .i64 5, .int .i64 5], .int .i64 0]) ∧ X.grownBy y none := by
  refine (buildOk _ _ _ _ _ _ _ _ kTs kNs [] 3 kL kR ra rc (fun _ => 0) 4 X 3 2 0 ⟨rfl, rfl, rfl⟩ (hG1.kept hX) k_closed).mono ?_
  rintro e y (⟨ks, es, sa, sc, kv, ev, hau, rfl, _, hg⟩ | ⟨hau, _⟩)
  · have h := k_gg.symm.trans hau
    simp only [Option.some.injEq, Prod.mk.injEq] at h
    obtain ⟨rfl, rfl⟩ := h
    exact ⟨sa, sc, rfl, hg⟩
  · have h := k_gg.symm.trans hau
    cases h
theorem k_clos {w1 X : World} {b1 b2 b6 : Nat} {ra : Nat → Option Addr} {rc : Nat → Nat} (hG1 : GAt w1 (some ⟨b1, 0, none⟩) (some ⟨b2, 0, none⟩) none (some ⟨b6, 0, none⟩) 3 2 0 3 kTs kNs [] 3 kL kR ra rc (fun _ => 0)) (hX : w1.grownBy X none) (b : Nat) (hI : ItsAt X (some ⟨b, 0, none⟩) [(0, 0)]) : Calls Try.prog 17 #[.agg #[.slice (some ⟨b1, 0, none⟩) 3 3, .slice (some ⟨b2, 0, none⟩) 2 2, .slice none 0 0, .int .i64 4, .slice (some ⟨b6, 0, none⟩) 3 3], .slice (some ⟨b, 0, none⟩) 1 1] X fun e y => ∃ a c, e = .returned (.tuple #[.slice a 3 c, .int .i64 0]) ∧ X.grownBy y none := by
  refine (closureOk _ _ _ _ _ _ _ _ kTs kNs [] 3 kL kR ra rc (fun _ => 0) 4 X 3 2 0 ⟨rfl, rfl, rfl⟩ (hG1.kept hX) (some ⟨b, 0, none⟩) 1 [(0, 0)] hI (by decide) (fun h => by cases h) k_closed k_item).mono ?_
  rintro e y ⟨l, hl, _, a, c, rfl, _, hg⟩
  have h := hl.unique (k_clo [(0, 0)] (by simp [kKs]))
  subst h
  exact ⟨a, c, rfl, hg⟩
theorem k_goto {w1 X : World} {b1 b2 b6 : Nat} {ra : Nat → Option Addr} {rc : Nat → Nat} (hG1 : GAt w1 (some ⟨b1, 0, none⟩) (some ⟨b2, 0, none⟩) none (some ⟨b6, 0, none⟩) 3 2 0 3 kTs kNs [] 3 kL kR ra rc (fun _ => 0)) (hX : w1.grownBy X none) (b : Nat) (hI : ItsAt X (some ⟨b, 0, none⟩) [(0, 0)]) : Calls Try.prog 19 #[.agg #[.slice (some ⟨b1, 0, none⟩) 3 3, .slice (some ⟨b2, 0, none⟩) 2 2, .slice none 0 0, .int .i64 4, .slice (some ⟨b6, 0, none⟩) 3 3], .int .i64 4, .slice (some ⟨b, 0, none⟩) 1 1] X fun e y => ∃ g c, e = .returned (.tuple #[.slice (some ⟨g, 0, none⟩) 2 c, .int .i64 0]) ∧ y.cell? ⟨g, 2, none⟩ = some (.int .i64 1) ∧ y.cell? ⟨g, 3, none⟩ = some (.int .i64 1) ∧ X.grownBy y none := by
  refine (gotoOk _ _ _ _ _ _ _ _ kTs kNs [] 3 kL kR ra rc (fun _ => 0) 4 X 3 2 0 ⟨rfl, rfl, rfl⟩ (hG1.kept hX) (some ⟨b, 0, none⟩) 1 [(0, 0)] hI (by decide) (fun h => by cases h) 4 (by decide) k_closed k_item).mono ?_
  rintro e y ⟨l, hl, _, a, c, rfl, ho, hg⟩
  have h := hl.unique (k_clo [(0, 0)] (by simp [kKs]))
  subst h
  have hk : kerT kR (kCl [(0, 0)]) ((4 : Nat) : Int) = [(0, 1), (1, 1)] := by decide
  rw [hk] at ho ⊢
  obtain ⟨g, c2, he, hcell⟩ := owns_at ho (by decide)
  simp only [Value.slice.injEq] at he
  obtain ⟨rfl, _, rfl⟩ := he
  exact ⟨g, c, rfl, hcell 2 _ rfl, hcell 3 _ rfl, hg⟩
theorem k_its (X : World) : ItsAt (X.alloc (.cells #[.int .i64 0, .int .i64 0] 49)) (some ⟨X.heap.size, 0, none⟩) [(0, 0)] := .inr ⟨X.heap.size, 0, rfl, fun i hi => by
  have h2 : i = 0 := by simp at hi; omega
  subst h2
  exact ⟨by rw [cell_of_row _ _ _ _ _ _ (heap_alloc_last X _)]; rfl, by rw [cell_of_row _ _ _ _ _ _ (heap_alloc_last X _)]; rfl⟩⟩

set_option maxRecDepth 100000 in
set_option maxHeartbeats 2000000 in
theorem awake_any (w : World) : Calls Try.prog 9 #[] w fun e w' => e = .returned (.bool true) ∧ w.grownBy w' none := by
  have hE : ∀ X : World, (binOp .eql 49 (.agg #[.int .i64 1, .int .i64 1]) (.agg #[.int .i64 1, .int .i64 1])).run Try.prog X = .ok (.bool true) X := fun X => eq_item 1 1 1 1 X
  go_enter Try.func9, Try.ntmps9
  go_wp2_with fail
  refine Calls.mono (small_any w) ?_
  rintro e w1 ⟨b1, b2, b6, ra, rc, rfl, hG1, hg1⟩
  have HG1 : Hid (GAt w1 (some ⟨b1, 0, none⟩) (some ⟨b2, 0, none⟩) none (some ⟨b6, 0, none⟩) 3 2 0 3 kTs kNs [] 3 kL kR ra rc (fun _ => 0)) := hG1
  obtain ⟨gb, hgb⟩ : ∃ gb, gb = w1.heap.size := ⟨_, rfl⟩
  obtain ⟨X1, hX1⟩ : ∃ X1, X1 = w1.alloc (.cells #[.slice (some ⟨b1, 0, none⟩) 3 3, .slice (some ⟨b2, 0, none⟩) 2 2, .slice none 0 0, .int .i64 4, .slice (some ⟨b6, 0, none⟩) 3 3] 27) := ⟨_, rfl⟩
  have HP1 : Hid (PhAt w1 X1 gb #[.slice (some ⟨b1, 0, none⟩) 3 3, .slice (some ⟨b2, 0, none⟩) 2 2, .slice none 0 0, .int .i64 4, .slice (some ⟨b6, 0, none⟩) 3 3]) := ⟨by rw [hX1]; exact World.grownBy_alloc _ _ none, by rw [hX1, hgb]; exact heap_alloc_last w1 _⟩
  have HGW : Hid (w.grownBy w1 none) := hg1
  have HXE := show Hid _ from hX1
  have HGE := show Hid _ from hgb
  clear hG1 hg1 hX1 hgb
  go_wp2_with fail
  rw [← HXE.out, ← HGE.out]
  refine Calls.mono (k_build HG1.out HP1.out.grown) ?_
  rintro e w2 ⟨sa, sc, rfl, hg2⟩
  have HP2 : Hid (PhAt w1 (w2.alloc (.cells #[.slice sa 5 sc, .int .i64 5, .int .i64 5] 32)) gb #[.slice (some ⟨b1, 0, none⟩) 3 3, .slice (some ⟨b2, 0, none⟩) 2 2, .slice none 0 0, .int .i64 4, .slice (some ⟨b6, 0, none⟩) 3 3]) := HP1.out.kept (grown_trans hg2 (World.grownBy_alloc _ _ none))
  clear hg2 HP1 HXE HGE
  obtain ⟨k0, k1, k2, k3, k4⟩ := HP2.out.cells
  obtain ⟨ab, hab⟩ : ∃ b, b = w2.heap.size := ⟨_, rfl⟩
  have HAB : Hid ((w2.alloc (.cells #[.slice sa 5 sc, .int .i64 5, .int .i64 5] 32)).heap[ab]? = some (.cells #[.slice sa 5 sc, .int .i64 5, .int .i64 5] 32 (0, 0))) := by rw [hab]; exact heap_alloc_last w2 _
  have HAE := show Hid _ from hab
  clear hab
  have HCL := show Hid _ from k_clos HG1.out (grown_trans HP2.out.grown (World.grownBy_alloc _ (.cells #[.int .i64 0, .int .i64 0] 49) none)) _ (k_its (w2.alloc (.cells #[.slice sa 5 sc, .int .i64 5, .int .i64 5] 32)))
  rw [World.size_alloc] at HCL
  go_wp2_with fail
  refine Calls.mono HCL.out ?_
  rintro e w3 ⟨a3, c3, rfl, hg3⟩
  have HP3 : Hid (PhAt w1 w3 gb #[.slice (some ⟨b1, 0, none⟩) 3 3, .slice (some ⟨b2, 0, none⟩) 2 2, .slice none 0 0, .int .i64 4, .slice (some ⟨b6, 0, none⟩) 3 3]) := HP2.out.kept (grown_trans (World.grownBy_alloc _ _ none) hg3)
  have HA3 : Hid (w3.heap[ab]? = some (.cells #[.slice sa 5 sc, .int .i64 5, .int .i64 5] 32 (0, 0))) := box_kept HAB.out (grown_trans (World.grownBy_alloc _ _ none) hg3)
  rw [← HAE.out]
  clear hg3 HP2 HAB HCL HAE k0 k1 k2 k3 k4
  obtain ⟨k0, k1, k2, k3, k4⟩ := HP3.out.cells
  have HGO := show Hid _ from k_goto HG1.out (grown_trans HP3.out.grown (World.grownBy_alloc _ (.cells #[.int .i64 0, .int .i64 0] 49) none)) _ (k_its w3)
  go_wp2_with fail
  refine Calls.mono HGO.out ?_
  rintro e w4 ⟨g4, c4, rfl, r0, r1, hg4⟩
  have HA4 : Hid (w4.heap[ab]? = some (.cells #[.slice sa 5 sc, .int .i64 5, .int .i64 5] 32 (0, 0))) := box_kept HA3.out (grown_trans (World.grownBy_alloc _ _ none) hg4)
  have HG4 : Hid (w.grownBy w4 none) := grown_trans HGW.out (grown_trans HP3.out.grown (grown_trans (World.grownBy_alloc _ _ none) hg4))
  have q0 := cell_of_row w4 ab 0 _ _ _ HA4.out
  have q1 := cell_of_row w4 ab 1 _ _ _ HA4.out
  have q2 := cell_of_row w4 ab 2 _ _ _ HA4.out
  simp only [List.getElem?_toArray, List.getElem?_cons_zero, List.getElem?_cons_succ] at q0 q1 q2
  clear hg4 HA3 HP3 HGO k0 k1 k2 k3 k4 HG1 HGW
  go_wp2_with fail
  go_ret
  exact ⟨rfl, HG4.out⟩

end Go.Proofs.Ytdijjlhodlghbaa.J

/-
  lr0: the document's Build: an edge more, a declaration of its own (printed by tools/rbedgegen.py).
-/
namespace Go.Proofs.Ytdijjlhodlghbaa.J
open Go.RowKit Go.Maps Go.Shelf

attribute [local go_sem] Oper.semAt_some

noncomputable def rbR : Code := ((Try.f11.body.map (regionsJ 23)).getD []).getD 0 .skip

end Go.Proofs.Ytdijjlhodlghbaa.J

/-
  lr0: the document's Build, walked.
-/
namespace Go.Proofs.Ytdijjlhodlghbaa.J
open Go.RowKit Go.Maps Go.Shelf

attribute [local go_sem] Oper.semAt_some

section
variable (ta na la pa : Option Addr) (tc nc lc pc : Nat) (ts : List (ByteArray × Int)) (ns : List ByteArray) (lv : List Int) (n : Nat) (L : Nat → Int) (R : Nat → List Int) (ra : Nat → Option Addr) (rc : Nat → Nat) (V : Nat → Int) (st : Int) (w : World) (tn nn ln : Nat) (hlen : ts.length = tn ∧ ns.length = nn ∧ lv.length = ln) (hG : GAt w ta na la pa tc nc lc pc ts ns lv n L R ra rc V) (hts : ∀ t ∈ ts, t.1.size ≤ 140737488355328) (hns : ∀ s ∈ ns, s.size ≤ 140737488355328)
include hlen hG hts hns
end

end Go.Proofs.Ytdijjlhodlghbaa.J
