import Derived.Test.YtljlkmiaemkokaaQodlcpcmhmoid

/-
  reach: rulesOf.
-/
namespace Go.Proofs.Ytljlkmiaemkokaa
open Go.RowKit Go.Maps Go.Shelf

attribute [local go_sem] Oper.semAt_some

/-- A row of cells, whole in block k. -/
def ValAt (w : World) (k len : Nat) (t : TypeId) (c : Nat → Value) : Prop := w.heap[k]? = some (.cells ((List.range len).map c).toArray t (0, 0))
section
variable {w w' : World} {k len : Nat} {t : TypeId} {c : Nat → Value}
theorem ValAt.cell (h : ValAt w k len t c) (i : Nat) (hi : i < len) : w.cell? ⟨k, i, none⟩ = some (c i) := by
  rw [cell_of_row _ _ _ _ _ _ h]; simp [hi]
theorem ValAt.free (h : ValAt w k len t c) (i : Nat) : w.frozen? ⟨k, i, none⟩ = false := frozen_of_row _ _ _ _ _ h
theorem ValAt.lt (h : ValAt w k len t c) : k < w.heap.size := (Array.getElem?_eq_some_iff.1 h).1
theorem ValAt.kept (h : ValAt w k len t c) (hg : w.grownBy w' none) : ValAt w' k len t c := (hg.block k h.lt (by simp)).trans h
theorem ValAt.at {b : Nat} (h : ValAt w k len t c) (hg : w.grownBy w' (some b)) (hne : k ≠ b) : ValAt w' k len t c := (hg.block k h.lt (by simpa using hne)).trans h
/-- The cells with one turned. -/
def put (c : Nat → Value) (x : Nat) (v : Value) : Nat → Value := fun i => if i = x then v else c i
theorem ValAt.set (h : ValAt w k len t c) (x : Nat) (v : Value) : ValAt (w.setCell ⟨k, x, none⟩ v) k len t (put c x v) := by
  unfold ValAt
  rw [heap_setCell_same _ _ _ _ _ _ h]
  congr 2
  apply Array.ext'
  apply List.ext_getElem?
  intro i
  simp only [Array.toList_setIfInBounds, List.getElem?_set, List.getElem?_map]
  by_cases hi : i < len
  · by_cases e : x = i
    · subst e; simp [hi, put]
    · have e2 : ¬ i = x := fun h => e h.symm
      simp [e, e2, hi, put]
  · by_cases e : x = i
    · subst e; simp [hi]
    · simp [e, hi]
theorem ValAt.of_cells {cs : List Value} (h : w.heap[k]? = some (.cells cs.toArray t (0, 0))) : ValAt w k cs.length t (fun i => cs.getD i undef) := by
  unfold ValAt
  rw [h]
  congr 2
  apply Array.ext'
  apply List.ext_getElem?
  intro i
  by_cases hi : i < cs.length
  · simp [hi, List.getD]
  · simp [hi]
theorem made_vals {w w1 : World} {B e s n : Nat} {xs : List Value} (h : w1.ownsRow B e s (.slice (some ⟨w.heap.size, 0, none⟩) n n) n xs) : ∃ c, ValAt w1 w.heap.size (n * s) e c := by
  rcases h.2 with ⟨h', _⟩ | ⟨g, cap, cur, hv, _, hh, _, _, hs, ht⟩
  · cases h'
  · simp only [Value.slice.injEq, Option.some.injEq, Addr.mk.injEq, and_true, true_and] at hv
    obtain ⟨rfl, rfl⟩ := hv
    have h2 := ValAt.of_cells (w := w1) (k := w.heap.size) (t := e) (cs := cur.toList) (by simpa using hh)
    have e3 : cur.toList.length = n * s := by simp; omega
    rw [e3] at h2
    exact ⟨_, h2⟩
end

theorem infoRule4 : (Try.prog.info? 78).map (fun i => (i.zero, i.size, i.bytes)) = some (some (.agg #[.int .i64 0, .slice none 0 0, .int .i64 0, .pointer none]), 4, 48) := by kernel_rfl

/-- While rules are made: the grammar's box, the row. -/
structure RuAt (w wr : World) (cs : Array Value) (kb n : Nat) (c : Nat → Value) : Prop where
  ph : PhAt w wr w.heap.size cs
  row : ValAt wr kb (n * 4) 78 c
  lo : w.heap.size + 1 ≤ kb
/-- What the first k rules are. -/
def RuIs (w wr : World) (N k : Nat) (L : Nat → Int) (R : Nat → List Int) (ra : Nat → Option Addr) (rc : Nat → Nat) (V : Nat → Int) (q : Nat → Nat) (c : Nat → Value) : Prop :=
  ∀ j, j < k → c (j * 4) = .int .i64 (L j) ∧ c (j * 4 + 1) = .slice (ra j) (R j).length (rc j) ∧ c (j * 4 + 2) = .int .i64 (V j) ∧ c (j * 4 + 3) = .pointer (some ⟨q j, 0, none⟩) ∧ B.SetM wr (some ⟨q j, 0, none⟩) N (rowB N (R j)) ∧ w.heap.size + 1 ≤ q j
section
variable {w wr wx : World} {cs : Array Value} {kb n : Nat} {c : Nat → Value}
theorem RuIs.kept {N k : Nat} {L : Nat → Int} {R : Nat → List Int} {ra : Nat → Option Addr} {rc : Nat → Nat} {V : Nat → Int} {q : Nat → Nat} (h : RuIs w wr N k L R ra rc V q c) (hg : wr.grownBy wx none) : RuIs w wx N k L R ra rc V q c := fun j hj => by
  obtain ⟨h0, h1, h2, h3, h4, h5⟩ := h j hj
  exact ⟨h0, h1, h2, h3, SetM_kept h4 hg, h5⟩
theorem RuAt.kept (h : RuAt w wr cs kb n c) (hg : wr.grownBy wx none) : RuAt w wx cs kb n c := ⟨h.ph.kept hg, h.row.kept hg, h.lo⟩
theorem RuAt.store (h : RuAt w wr cs kb n c) (x : Nat) (v : Value) : RuAt w (wr.setCell ⟨kb, x, none⟩ v) cs kb n (put c x v) :=
  ⟨h.ph.keptRow (grown_setCell _ _ _) h.lo, h.row.set x v, h.lo⟩

theorem RuAt.push {N k b : Nat} {L : Nat → Int} {R : Nat → List Int} {ra : Nat → Option Addr} {rc : Nat → Nat} {V : Nat → Int} {q : Nat → Nat} (h : RuAt w wr cs kb n c) (hI : RuIs w wr N k L R ra rc V q c) (hkb : kb = w.heap.size + 1) (hS : B.SetM wr (some ⟨b, 0, none⟩) N (rowB N (R k))) (hb : kb < b) :
    ∃ c', RuAt w ((((wr.setCell ⟨kb, k * 4, none⟩ (.int .i64 (L k))).setCell ⟨kb, k * 4 + 1, none⟩ (.slice (ra k) (R k).length (rc k))).setCell ⟨kb, k * 4 + 2, none⟩ (.int .i64 (V k))).setCell ⟨kb, k * 4 + 3, none⟩ (.pointer (some ⟨b, 0, none⟩))) cs kb n c' ∧
      RuIs w ((((wr.setCell ⟨kb, k * 4, none⟩ (.int .i64 (L k))).setCell ⟨kb, k * 4 + 1, none⟩ (.slice (ra k) (R k).length (rc k))).setCell ⟨kb, k * 4 + 2, none⟩ (.int .i64 (V k))).setCell ⟨kb, k * 4 + 3, none⟩ (.pointer (some ⟨b, 0, none⟩))) N (k + 1) L R ra rc V (fun j => if j = k then b else q j) c' := by
  refine ⟨put (put (put (put c (k * 4) (.int .i64 (L k))) (k * 4 + 1) (.slice (ra k) (R k).length (rc k))) (k * 4 + 2) (.int .i64 (V k))) (k * 4 + 3) (.pointer (some ⟨b, 0, none⟩)), ?_, ?_⟩
  · exact (((h.store (k * 4) _).store (k * 4 + 1) _).store (k * 4 + 2) _).store (k * 4 + 3) _
  · intro j hj
    by_cases e : j = k
    · subst e
      simp only [if_true]
      refine ⟨?_, ?_, ?_, ?_, ?_, by omega⟩
      · simp [put]
      · simp [put]
      · simp [put]
      · simp [put]
      · exact SetM_at (SetM_at (SetM_at (SetM_at hS (grown_setCell _ _ _) (by omega)) (grown_setCell _ _ _) (by omega)) (grown_setCell _ _ _) (by omega)) (grown_setCell _ _ _) (by omega)
    · obtain ⟨h0, h1, h2, h3, h4, h5⟩ := hI j (by omega)
      have hjk : j < k := by omega
      have hq : q j ≠ kb := by
        intro e9
        have := SetM_row h4
        have h10 := h.row
        unfold ValAt at h10
        unfold B.RowAt at this
        rw [e9, h10] at this
        simp at this
      simp only [if_neg e]
      refine ⟨?_, ?_, ?_, ?_, ?_, h5⟩
      · unfold put; rw [if_neg (by omega), if_neg (by omega), if_neg (by omega), if_neg (by omega)]; exact h0
      · unfold put; rw [if_neg (by omega), if_neg (by omega), if_neg (by omega), if_neg (by omega)]; exact h1
      · unfold put; rw [if_neg (by omega), if_neg (by omega), if_neg (by omega), if_neg (by omega)]; exact h2
      · unfold put; rw [if_neg (by omega), if_neg (by omega), if_neg (by omega), if_neg (by omega)]; exact h3
      · exact SetM_at (SetM_at (SetM_at (SetM_at h4 (grown_setCell _ _ _) hq) (grown_setCell _ _ _) hq) (grown_setCell _ _ _) hq) (grown_setCell _ _ _) hq
end

set_option maxRecDepth 100000 in
set_option maxHeartbeats 1000000 in
theorem rulesOf_any (ta na la pa : Option Addr) (tn nn ln n tc nc lc pc : Nat) (st : Int) (L : Nat → Int) (R : Nat → List Int) (ra : Nat → Option Addr) (rc : Nat → Nat) (V : Nat → Int) (w : World) (hP : ProdsAt w pa n L R ra rc V) (hn : n ≤ 97) (hz : tn + nn ≤ 1024) :
    Calls Try.prog 40 #[.agg #[.slice ta tn tc, .slice na nn nc, .slice la ln lc, .int .i64 st, .slice pa n pc]] w fun e w' => ∃ k q c, e = .returned (.slice (some ⟨k, 0, none⟩) n n) ∧ w.heap.size ≤ k ∧ ValAt w' k (n * 4) 78 c ∧ RuIs w w' (tn + nn) n L R ra rc V q c ∧ w.grownBy w' none := by
  have HP : Hid (ProdsAt w pa n L R ra rc V) := hP
  have HX0 : Hid (PhAt w (w.alloc (.cells #[.slice ta tn tc, .slice na nn nc, .slice la ln lc, .int .i64 st, .slice pa n pc] 27)) w.heap.size #[.slice ta tn tc, .slice na nn nc, .slice la ln lc, .int .i64 st, .slice pa n pc]) := ⟨World.grownBy_alloc _ _ none, heap_alloc_last w _⟩
  clear hP
  obtain ⟨i0, hi, hz0, hz1, hz2⟩ := info_parts infoRule4
  go_enter Try.func40, Try.ntmps40
  go_wp2_with (at_make; refine wpList_make_full _ rfl _ _ 48 rfl (w.heap.size + 1) 78 i0 (.agg #[.int .i64 0, .slice none 0 0, .int .i64 0, .pointer none]) 4 Try.underlying48 hi hz0 hz1 .i64 .i64 _ _ n rfl rfl (by simp) (by simp) (by rw [hz2]; omega) (by unfold maxLen; omega) (by simp) ?_)
  intro w1 hown hgrow
  have HR1 : Hid (∃ c, RuAt w w1 #[.slice ta tn tc, .slice na nn nc, .slice la ln lc, .int .i64 st, .slice pa n pc] (w.heap.size + 1) n c) := by
    obtain ⟨c, hc⟩ := made_vals (w := w.alloc (.cells #[.slice ta tn tc, .slice na nn nc, .slice la ln lc, .int .i64 st, .slice pa n pc] 27)) (w1 := w1) (B := w.heap.size + 1) (e := 78) (s := 4) (n := n) (by rw [World.size_alloc]; exact hown)
    exact ⟨c, HX0.out.kept hgrow, by simpa using hc, Nat.le_refl _⟩
  obtain ⟨c0, hc0⟩ := HR1.out
  have HRU : Hid (RuAt w w1 #[.slice ta tn tc, .slice na nn nc, .slice la ln lc, .int .i64 st, .slice pa n pc] (w.heap.size + 1) n c0) := hc0
  obtain ⟨k0, k1, k2, k3, k4⟩ := HRU.out.ph.cells
  clear hown hgrow HX0 HR1 hc0 hi hz0 hz1 hz2
  go_wp2_with fail
  go_loopg [4, 5, 13] n (fun gk a b i wr => ∃ (k : Nat) (q : Nat → Nat) (c : Nat → Value), k ≤ n ∧ gk = n - k ∧ i = .int .i64 k ∧ RuAt w wr #[.slice ta tn tc, .slice na nn nc, .slice la ln lc, .int .i64 st, .slice pa n pc] (w.heap.size + 1) n c ∧ RuIs w wr (tn + nn) k L R ra rc V q c)
  case atStart => exact ⟨0, fun _ => 0, c0, Nat.zero_le _, rfl, rfl, HRU.out, fun j hj => absurd hj (Nat.not_lt_zero j)⟩
  case round =>
    obtain ⟨k, q, c, hk, hgk, rfl, hA, hI⟩ := hrel
    have HGK : Hid (gk = n - k) := hgk
    have HA : Hid (RuAt w wr #[.slice ta tn tc, .slice na nn nc, .slice la ln lc, .int .i64 st, .slice pa n pc] (w.heap.size + 1) n c) := hA
    have HI : Hid (RuIs w wr (tn + nn) k L R ra rc V q c) := hI
    clear hgk hA hI HRU
    by_cases hlt : k < n
    · obtain ⟨bp, off, rfl, hcs⟩ : ∃ b off, pa = some ⟨b, off, none⟩ ∧ ∀ k, k < n → w.cell? ⟨b, off + k * 3, none⟩ = some (.int .i64 (L k)) ∧ w.cell? ⟨b, off + k * 3 + 1, none⟩ = some (.slice (ra k) (R k).length (rc k)) ∧ w.cell? ⟨b, off + k * 3 + 2, none⟩ = some (.int .i64 (V k)) ∧ IntsAt w (ra k) (R k) ∧ (ra k = none → rc k = 0) ∧ (R k).length ≤ 17592186044416 := by
        rcases HP.out with h | h
        · omega
        · exact h
      obtain ⟨h1, h2, h3, hI, _, hlen⟩ := hcs k hlt
      have c0 := HA.out.ph.grown.cell h1 (by simp)
      have c1 := HA.out.ph.grown.cell h2 (by simp)
      have c2 := HA.out.ph.grown.cell h3 (by simp)
      have hk0 : (0 : Int) ≤ (k : Int) := by omega
      have hk1 : (k : Int) < (n : Int) := by omega
      obtain ⟨l, hl⟩ : ∃ l, l = L k := ⟨_, rfl⟩
      obtain ⟨v, hv⟩ : ∃ v, v = V k := ⟨_, rfl⟩
      obtain ⟨a1, ha1⟩ : ∃ a1, a1 = ra k := ⟨_, rfl⟩
      obtain ⟨a2, ha2⟩ : ∃ a2, a2 = (R k).length := ⟨_, rfl⟩
      obtain ⟨a3, ha3⟩ : ∃ a3, a3 = rc k := ⟨_, rfl⟩
      rw [← hl] at c0
      rw [← ha1, ← ha2, ← ha3] at c1
      rw [← hv] at c2
      have HMO : Hid (∀ X, w.grownBy X none → Calls Try.prog 41 #[.agg #[.slice ta tn tc, .slice na nn nc, .slice la ln lc, .int .i64 st, .slice (some ⟨bp, off, none⟩) n pc], .slice a1 a2 a3] X fun e w' =>
          ∃ b, e = .returned (.agg #[.pointer (some ⟨b, 0, none⟩)]) ∧ X.heap.size ≤ b ∧ B.SetM w' (some ⟨b, 0, none⟩) (tn + nn) (rowB (tn + nn) (R k)) ∧ X.grownBy w' none) := fun X hX => by
        rw [ha1, ha2, ha3]
        exact marksOf_any ta na la (some ⟨bp, off, none⟩) (ra k) tn nn ln n tc nc lc pc (rc k) st (R k) X (hI.kept hX) hlen hz
      have HEQ : Hid (l = L k ∧ v = V k ∧ a1 = ra k ∧ a2 = (R k).length ∧ a3 = rc k) := ⟨hl, hv, ha1, ha2, ha3⟩
      have HGY : Hid (w.grownBy (wr.alloc (.cells #[.int .i64 l, .slice a1 a2 a3, .int .i64 v] 45)).drew none) := grown_trans (grown_trans HA.out.ph.grown (World.grownBy_alloc _ _ none)) (grown_drewN _ 1)
      have HAY : Hid (RuAt w (wr.alloc (.cells #[.int .i64 l, .slice a1 a2 a3, .int .i64 v] 45)).drew #[.slice ta tn tc, .slice na nn nc, .slice la ln lc, .int .i64 st, .slice (some ⟨bp, off, none⟩) n pc] (w.heap.size + 1) n c) := HA.out.kept (grown_trans (World.grownBy_alloc _ _ none) (grown_drewN _ 1))
      have HIY : Hid (RuIs w (wr.alloc (.cells #[.int .i64 l, .slice a1 a2 a3, .int .i64 v] 45)).drew (tn + nn) k L R ra rc V q c) := HI.out.kept (grown_trans (World.grownBy_alloc _ _ none) (grown_drewN _ 1))
      have HBY : Hid ((wr.alloc (.cells #[.int .i64 l, .slice a1 a2 a3, .int .i64 v] 45)).drew.heap[wr.heap.size]? = some (.cells #[.int .i64 l, .slice a1 a2 a3, .int .i64 v] 45 (0, 0))) := heap_alloc_last wr _
      obtain ⟨g0, g1, g2, g3, g4⟩ := HAY.out.ph.cells
      have p0 : (wr.alloc (.cells #[.int .i64 l, .slice a1 a2 a3, .int .i64 v] 45)).drew.cell? ⟨wr.heap.size, 0, none⟩ = some (.int .i64 l) := by rw [cell_of_row _ _ _ _ _ _ HBY.out]; rfl
      have p1 : (wr.alloc (.cells #[.int .i64 l, .slice a1 a2 a3, .int .i64 v] 45)).drew.cell? ⟨wr.heap.size, 1, none⟩ = some (.slice a1 a2 a3) := by rw [cell_of_row _ _ _ _ _ _ HBY.out]; rfl
      have p2 : (wr.alloc (.cells #[.int .i64 l, .slice a1 a2 a3, .int .i64 v] 45)).drew.cell? ⟨wr.heap.size, 2, none⟩ = some (.int .i64 v) := by rw [cell_of_row _ _ _ _ _ _ HBY.out]; rfl
      have HKS : Hid (∀ x, (wr.alloc (.cells #[.int .i64 l, .slice a1 a2 a3, .int .i64 v] 45)).drew.grownBy x none → (x.cell? ⟨wr.heap.size, 0, none⟩ = some (.int .i64 l) ∧ x.cell? ⟨wr.heap.size, 1, none⟩ = some (.slice a1 a2 a3) ∧ x.cell? ⟨wr.heap.size, 2, none⟩ = some (.int .i64 v)) ∧ x.cell? ⟨w.heap.size, 0, none⟩ = some (.slice ta tn tc) ∧ x.cell? ⟨w.heap.size, 1, none⟩ = some (.slice na nn nc) ∧ x.cell? ⟨w.heap.size, 2, none⟩ = some (.slice la ln lc) ∧ x.cell? ⟨w.heap.size, 3, none⟩ = some (.int .i64 st) ∧ x.cell? ⟨w.heap.size, 4, none⟩ = some (.slice (some ⟨bp, off, none⟩) n pc)) := fun x hx => ⟨⟨hx.cell p0 (by simp), hx.cell p1 (by simp), hx.cell p2 (by simp)⟩, hx.cell g0 (by simp), hx.cell g1 (by simp), hx.cell g2 (by simp), hx.cell g3 (by simp), hx.cell g4 (by simp)⟩
      have HGc : Hid ((wr.alloc (.cells #[.int .i64 l, .slice a1 a2 a3, .int .i64 v] 45)).drew.grownBy (wr.alloc (.cells #[.int .i64 l, .slice a1 a2 a3, .int .i64 v] 45)).drew none) := grown_refl _ _
      have hk4 : k * 4 + 3 < n * 4 := by omega
      have hne1 : w.heap.size + 1 < wr.heap.size := HA.out.row.lt
      have hne2 : wr.heap.size ≠ w.heap.size + 1 := by omega
      have hne3 : w.heap.size + 1 ≠ wr.heap.size := by omega
      clear hcs h1 h2 h3 hI hlen hl hv ha1 ha2 ha3 HA HI g0 g1 g2 g3 g4 p0 p1 p2
      go_wp2_with fail
      go_region_held3 (fun x => (x.cell? ⟨wr.heap.size, 0, none⟩ = some (.int .i64 l) ∧ x.cell? ⟨wr.heap.size, 1, none⟩ = some (.slice a1 a2 a3) ∧ x.cell? ⟨wr.heap.size, 2, none⟩ = some (.int .i64 v)) ∧ x.cell? ⟨w.heap.size, 0, none⟩ = some (.slice ta tn tc) ∧ x.cell? ⟨w.heap.size, 1, none⟩ = some (.slice na nn nc) ∧ x.cell? ⟨w.heap.size, 2, none⟩ = some (.slice la ln lc) ∧ x.cell? ⟨w.heap.size, 3, none⟩ = some (.int .i64 st) ∧ x.cell? ⟨w.heap.size, 4, none⟩ = some (.slice (some ⟨bp, off, none⟩) n pc)) (first | exact HKS.out _ HGc.out | go_keep)
        ((first
          | (go_at_call 41; refine calls_at (wr.alloc (.cells #[.int .i64 l, .slice a1 a2 a3, .int .i64 v] 45)).drew (by with_reducible rfl) ?_; refine Calls.mono (HMO.out _ HGY.out) ?_; rintro e w5 ⟨b5, rfl, hb5, hS5, hg5⟩; have HGc : Hid ((wr.alloc (.cells #[.int .i64 l, .slice a1 a2 a3, .int .i64 v] 45)).drew.grownBy w5 none) := hg5; have HS5 : Hid (B.SetM w5 (some ⟨b5, 0, none⟩) (tn + nn) (rowB (tn + nn) (R k))) := hS5; have HB5 : Hid ((wr.alloc (.cells #[.int .i64 l, .slice a1 a2 a3, .int .i64 v] 45)).drew.heap.size ≤ b5) := hb5; have r0 := (HAY.out.kept hg5).row.cell (k * 4) (by omega); have r1 := (HAY.out.kept hg5).row.cell (k * 4 + 1) (by omega); have r2 := (HAY.out.kept hg5).row.cell (k * 4 + 2) (by omega); have r3 := (HAY.out.kept hg5).row.cell (k * 4 + 3) (by omega); have f0 := (HAY.out.kept hg5).row.free (k * 4); have f1 := (HAY.out.kept hg5).row.free (k * 4 + 1); have f2 := (HAY.out.kept hg5).row.free (k * 4 + 2); have f3 := (HAY.out.kept hg5).row.free (k * 4 + 3); clear hg5 hS5 hb5)))
      go_wp2_with fail
      go_roundg (n - (k + 1))
      case measure => have := HGK.out; omega
      case rel =>
        obtain ⟨e1, e2, e3, e4, e5⟩ := HEQ.out
        subst e1 e2 e3 e4 e5
        obtain ⟨c', hA', hI'⟩ := RuAt.push (HAY.out.kept HGc.out) (HIY.out.kept HGc.out) rfl HS5.out (by have := HB5.out; have h9 := (HAY.out.row.lt); omega)
        exact ⟨k + 1, _, c', by omega, rfl, by go_num, hA', hI'⟩
    · have hkn : k = n := by omega
      subst hkn
      go_wp2_with fail
      go_ret
      exact ⟨w.heap.size + 1, q, c, rfl, by omega, HA.out.row, HI.out, HA.out.ph.grown⟩

end Go.Proofs.Ytljlkmiaemkokaa

/-
  reach: the memory of useOf; its two agains.
-/
namespace Go.Proofs.Ytljlkmiaemkokaa
open Go.RowKit Go.Maps Go.Shelf

/-- The memory of useOf: the grammar's box, the result's, the use's; the rules and the sets. -/
structure UsAt (w x : World) (cs : Array Value) (bu kb pb ub n N : Nat) (L : Nat → Int) (R : Nat → List Int) (ra : Nat → Option Addr) (rc : Nat → Nat) (V : Nat → Int) (q : Nat → Nat) (c : Nat → Value) (m u : Nat) : Prop where
  ph : PhAt w x w.heap.size cs
  res : x.heap[w.heap.size + 1]? = some (.cells #[.slice none 0 0, .pointer none, .pointer none] 53 (0, 0))
  box : x.heap[bu]? = some (.cells #[.slice (some ⟨kb, 0, none⟩) n n, .pointer (some ⟨pb, 0, none⟩), .pointer (some ⟨ub, 0, none⟩)] 53 (0, 0))
  row : ValAt x kb (n * 4) 78 c
  is : RuIs w x N n L R ra rc V q c
  prod : B.SetM x (some ⟨pb, 0, none⟩) N m
  used : B.SetM x (some ⟨ub, 0, none⟩) N u
  lop : w.heap.size ≤ pb
  lou : w.heap.size ≤ ub
  ne : pb ≠ ub
  neq : ∀ j, j < n → q j ≠ pb ∧ q j ≠ ub

theorem block_ne {x : World} {a b : Nat} {ca : Array Value} {ta : TypeId} {fa : Nat × Nat} {N m : Nat} (h : x.heap[a]? = some (.cells ca ta fa)) (hs : B.SetM x (some ⟨b, 0, none⟩) N m) (ht : ta ≠ 87) : a ≠ b := by
  rintro rfl
  have := SetM_row hs
  unfold B.RowAt at this
  rw [h] at this
  simp at this
  exact ht this.2.1

section
variable {w x y : World} {cs : Array Value} {bu kb pb ub n N : Nat} {L : Nat → Int} {R : Nat → List Int} {ra : Nat → Option Addr} {rc : Nat → Nat} {V : Nat → Int} {q : Nat → Nat} {c : Nat → Value} {m u m' u' : Nat}
theorem UsAt.kept (h : UsAt w x cs bu kb pb ub n N L R ra rc V q c m u) (hg : x.grownBy y none) : UsAt w y cs bu kb pb ub n N L R ra rc V q c m u :=
  ⟨h.ph.kept hg, (hg.block _ (Array.getElem?_eq_some_iff.1 h.res).1 (by simp)).trans h.res, (hg.block _ (Array.getElem?_eq_some_iff.1 h.box).1 (by simp)).trans h.box, h.row.kept hg, h.is.kept hg, SetM_kept h.prod hg, SetM_kept h.used hg, h.lop, h.lou, h.ne, h.neq⟩
theorem UsAt.turn {b : Nat} {k v : Nat} (h : UsAt w x cs bu kb pb ub n N L R ra rc V q c m u) (hS : B.SetM x (some ⟨b, 0, none⟩) N k) (hS' : B.SetM y (some ⟨b, 0, none⟩) N v) (hlo : w.heap.size ≤ b) (hq : ∀ j, j < n → q j ≠ b) (hp : (b = pb ∧ m' = v) ∨ (b ≠ pb ∧ m' = m)) (hu : (b = ub ∧ u' = v) ∨ (b ≠ ub ∧ u' = u)) (hg : x.grownBy y (some b)) :
    UsAt w y cs bu kb pb ub n N L R ra rc V q c m' u' := by
  have nb : w.heap.size ≠ b := block_ne h.ph.box hS (by decide)
  have nr : w.heap.size + 1 ≠ b := block_ne h.res hS (by decide)
  have nx : bu ≠ b := block_ne h.box hS (by decide)
  have nk : kb ≠ b := block_ne h.row hS (by decide)
  refine ⟨⟨grown_at h.ph.grown hg hlo, (hg.block _ (Array.getElem?_eq_some_iff.1 h.ph.box).1 (by simpa using nb)).trans h.ph.box⟩, (hg.block _ (Array.getElem?_eq_some_iff.1 h.res).1 (by simpa using nr)).trans h.res, (hg.block _ (Array.getElem?_eq_some_iff.1 h.box).1 (by simpa using nx)).trans h.box, h.row.at hg nk, fun j hj => ?_, ?_, ?_, h.lop, h.lou, h.ne, h.neq⟩
  · obtain ⟨h0, h1, h2, h3, h4, h5⟩ := h.is j hj
    exact ⟨h0, h1, h2, h3, SetM_at h4 hg (hq j hj), h5⟩
  · rcases hp with ⟨rfl, rfl⟩ | ⟨hne, rfl⟩
    · exact hS'
    · exact SetM_at h.prod hg (fun e => hne e.symm)
  · rcases hu with ⟨rfl, rfl⟩ | ⟨hne, rfl⟩
    · exact hS'
    · exact SetM_at h.used hg (fun e => hne e.symm)
theorem UsAt.setP (h : UsAt w x cs bu kb pb ub n N L R ra rc V q c m u) (hS : B.SetM y (some ⟨pb, 0, none⟩) N m') (hg : x.grownBy y (some pb)) : UsAt w y cs bu kb pb ub n N L R ra rc V q c m' u :=
  h.turn h.prod hS h.lop (fun j hj => (h.neq j hj).1) (.inl ⟨rfl, rfl⟩) (.inr ⟨h.ne, rfl⟩) hg
theorem UsAt.setU (h : UsAt w x cs bu kb pb ub n N L R ra rc V q c m u) (hS : B.SetM y (some ⟨ub, 0, none⟩) N u') (hg : x.grownBy y (some ub)) : UsAt w y cs bu kb pb ub n N L R ra rc V q c m u' :=
  h.turn h.used hS h.lou (fun j hj => (h.neq j hj).2) (.inr ⟨fun e => h.ne e.symm, rfl⟩) (.inl ⟨rfl, rfl⟩) hg
theorem UsAt.rule (h : UsAt w x cs bu kb pb ub n N L R ra rc V q c m u) (k : Nat) (hk : k < n) : RuleC x kb k (L k) (.slice (ra k) (R k).length (rc k)) (V k) (some ⟨q k, 0, none⟩) := by
  obtain ⟨h0, h1, h2, h3, _, _⟩ := h.is k hk
  refine ⟨?_, ?_, ?_, ?_⟩
  · rw [← h0]; exact h.row.cell _ (by omega)
  · rw [← h1]; exact h.row.cell _ (by omega)
  · rw [← h2]; exact h.row.cell _ (by omega)
  · rw [← h3]; exact h.row.cell _ (by omega)
end

theorem un_step (tn nn : Nat) (L : Nat → Int) (R : Nat → List Int) (k : Nat) (f : Nat → Bool) (h : (tn : Int) ≤ L k ∧ L k < ((tn + nn : Nat) : Int)) : un nn (stM tn L R k f) + (chM tn L R k f).toNat ≤ un nn f := by
  have := un_rnd tn nn (fun _ => L k) (fun _ => R k) f 1 (fun _ _ => h)
  have e1 : rnd (stM tn (fun _ => L k) (fun _ => R k)) 1 f = stM tn L R k f := rfl
  have e2 : rchg (stM tn (fun _ => L k) (fun _ => R k)) (chM tn (fun _ => L k) (fun _ => R k)) 1 f = (false || chM tn L R k f) := rfl
  rw [e1, e2, Bool.false_or] at this
  exact this

theorem mark_same {f : Nat → Bool} {v : Nat} (h : f v = true) : mark f v true = f := by
  funext i
  unfold mark
  by_cases e : i = v
  · rw [if_pos e, e, h]
  · rw [if_neg e]

section
variable {w x : World} {cs : Array Value} {bu kb pb ub n tn nn : Nat} {L : Nat → Int} {R : Nat → List Int} {ra : Nat → Option Addr} {rc : Nat → Nat} {V : Nat → Int} {q : Nat → Nat} {c : Nat → Value} {m u : Nat} {st : Int} {cl : Bool}

/-- The first again. -/
theorem useOf_first (hM : MayOK tn nn n st L R cl) (h : UsAt w x cs bu kb pb ub n (tn + nn) L R ra rc V q c m u) (hb : bitsN tn nn m (fun _ => false)) :
    Calls Try.prog 43 #[.agg #[.slice (some ⟨kb, 0, none⟩) n n, .pointer (some ⟨pb, 0, none⟩), .pointer (some ⟨ub, 0, none⟩)], .func (.func 44) #[] #[.pointer (some ⟨bu, 0, none⟩)]] x fun e y => e = .returned (.tuple #[]) ∧ ∃ f m', UsAt w y cs bu kb pb ub n (tn + nn) L R ra rc V q c m' u ∧ bitsN tn nn m' f ∧ Fix (stM tn L R) (chM tn L R) n (fun _ => false) f := by
  have hz : tn + nn ≤ 1024 := by have := hM.tmax; have := hM.nmax; omega
  refine (again1_any (σ := Nat → Bool) (fun f y => ∃ m', UsAt w y cs bu kb pb ub n (tn + nn) L R ra rc V q c m' u ∧ bitsN tn nn m' f) (stM tn L R) (fun k f => (chM tn L R k f).toNat) (un nn) n kb n bu pb (some ⟨pb, 0, none⟩) (some ⟨ub, 0, none⟩) L V ra (fun k => (R k).length) rc (fun k => some ⟨q k, 0, none⟩) x (SetM_lt h.prod) hM.pmax ?_ ?_ ?_ ?_ ?_ ?_ (fun _ => false) ⟨m, h, hb⟩).mono ?_
  · rintro f y z ⟨m', hu, hb'⟩ hg
    exact ⟨m', hu.kept hg, hb'⟩
  · rintro f y k hk ⟨m', hu, hb'⟩
    obtain ⟨v, hv⟩ : ∃ v : Nat, L k = ((tn + v : Nat) : Int) := ⟨(L k - tn).toNat, by have := hM.left k hk; omega⟩
    have hvn : v < nn := by have := hM.left k hk; omega
    have ev : (L k - (tn : Int)).toNat = v := by omega
    have hcov := cov_fits hb' (R k) (fun z hz => ⟨by have := hM.right k hk z hz; omega, (hM.right k hk z hz).2⟩)
    refine (step1_any bu pb ub (q k) (tn + nn) m' (rowB (tn + nn) (R k)) _ (L k) (V k) (ra k) (R k).length (rc k) y hu.box hu.prod (hu.is k hk).2.2.2.2.1 (fitsB tn f (R k)) hcov).mono ?_
    rintro e z ⟨rfl, hS, hg⟩
    obtain ⟨hb1, hb2⟩ := add_bits hb' v hvn
    have hch : chM tn L R k f = (!f v && fitsB tn f (R k)) := by unfold chM; rw [ev]
    rw [hv] at hS ⊢
    refine ⟨?_, ⟨_, hu.setP hS hg, ?_⟩, hg⟩
    · rw [hch, hb2]
      cases fitsB tn f (R k) <;> simp
    · unfold stM
      rw [hch, ev]
      cases hf : fitsB tn f (R k) with
      | false => simpa using hb'
      | true =>
        simp only [if_true, Bool.and_true]
        cases hfv : f v with
        | true =>
          simp
          rw [mark_same hfv] at hb1
          exact hb1
        | false => simpa using hb1
  · rintro f y ⟨m', hu, _⟩ k hk
    exact hu.rule k hk
  · intro k f hk
    exact un_step tn nn L R k f (hM.left k hk)
  · intro f
    have := un_le f nn
    have := hM.nmax
    omega
  · intro k f hc
    refine stM_same tn L R k f ?_
    cases h9 : chM tn L R k f with
    | false => rfl
    | true => rw [h9] at hc; simp at hc
  · rintro e y ⟨rfl, f, ⟨m', hu, hb'⟩, hF⟩
    refine ⟨rfl, f, m', hu, hb', ?_⟩
    have e9 : (fun k f => decide (0 < (chM tn L R k f).toNat)) = chM tn L R := by
      funext k f
      cases chM tn L R k f <;> rfl
    rw [e9] at hF
    exact hF

/-- The second again. -/
theorem useOf_second (hM : MayOK tn nn n st L R cl) {f : Nat → Bool} (h : UsAt w x cs bu kb pb ub n (tn + nn) L R ra rc V q c m u) (hb : bitsN tn nn m f) :
    Calls Try.prog 43 #[.agg #[.slice (some ⟨kb, 0, none⟩) n n, .pointer (some ⟨pb, 0, none⟩), .pointer (some ⟨ub, 0, none⟩)], .func (.func 47) #[] #[.pointer (some ⟨bu, 0, none⟩)]] x fun e y => e = .returned (.tuple #[]) ∧ ∃ u', UsAt w y cs bu kb pb ub n (tn + nn) L R ra rc V q c m u' ∧ Fix (stU tn nn L R f) (fun k u => decide (0 < adU tn nn L R f k u)) n u u' := by
  have hz : tn + nn ≤ 1024 := by have := hM.tmax; have := hM.nmax; omega
  refine (again2_any (σ := Nat) (fun u' y => UsAt w y cs bu kb pb ub n (tn + nn) L R ra rc V q c m u') (stU tn nn L R f) (adU tn nn L R f) (fun u => 1024 - B.cnt u) n kb n bu ub (some ⟨pb, 0, none⟩) (some ⟨ub, 0, none⟩) L V ra (fun k => (R k).length) rc (fun k => some ⟨q k, 0, none⟩) x (SetM_lt h.used) hM.pmax ?_ ?_ ?_ ?_ ?_ ?_ u h).mono ?_
  · intro u' y z hu hg
    exact hu.kept hg
  · intro u' y k hk hu
    have hcov := cov_fits hb (R k) (fun z hz => ⟨by have := hM.right k hk z hz; omega, (hM.right k hk z hz).2⟩)
    refine (step2_any bu pb ub (q k) (tn + nn) m (rowB (tn + nn) (R k)) u' kb n n (L k) (V k) (ra k) (R k).length (rc k) y hu.box hu.prod hu.used (hu.is k hk).2.2.2.2.1 (hu.neq k hk).2 (fitsB tn f (R k)) hcov (goU tn L R f k u') rfl _ rfl _ rfl).mono ?_
    rintro e z ⟨rfl, hS, hg⟩
    refine ⟨?_, hu.setU hS hg, hg⟩
    unfold adU
    by_cases hgo : goU tn L R f k u' = true
    · rw [if_pos hgo, if_pos hgo]
      have h7 := cnt_or_le u' (rowB (tn + nn) (R k) &&& (2 ^ (tn + nn) - 1))
      generalize B.cnt (u' ||| (rowB (tn + nn) (R k) &&& (2 ^ (tn + nn) - 1))) = a7 at h7
      generalize B.cnt u' = b7 at h7
      rw [show ((a7 - b7 : Nat) : Int) = (a7 : Int) - (b7 : Int) by omega]
    · rw [if_neg hgo, if_neg hgo]; rfl
  · intro u' y hu k hk
    exact hu.rule k hk
  · intro k u' _
    exact stU_mu k u'
  · intro u'
    omega
  · intro k u' hc
    exact adU_same rfl hz k u' hc
  · rintro e y ⟨rfl, u', hu, hF⟩
    exact ⟨rfl, u', hu, hF⟩
end

end Go.Proofs.Ytljlkmiaemkokaa
