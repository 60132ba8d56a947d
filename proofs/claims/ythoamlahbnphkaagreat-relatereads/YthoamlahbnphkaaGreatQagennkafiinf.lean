import Derived.Test.YthoamlahbnphkaaGreatQbcloeibijkeo

/-
  first: nothingFound.
-/
namespace Go.Proofs.YthoamlahbnphkaaGreat
open Go.RowKit Go.Maps Go.Shelf

attribute [local go_sem] Oper.semAt_some

/-- nothingFound, behind its first statement: k sets are made. -/
structure NAt (w X : World) (cs : Array Value) (tn S kb vb fb : Nat) (k : Nat) (f : Nat → Nat) : Prop where
  grown : w.grownBy X none
  gbox : X.heap[w.heap.size]? = some (.cells cs 27 (0, 0))
  res : X.heap[w.heap.size + 1]? = some (.cells #[.int .i64 0, .pointer none, .slice none 0 0] 126 (0, 0))
  box : X.heap[kb]? = some (.cells #[.int .i64 (tn : Int), .pointer (some ⟨vb, 0, none⟩), .slice (some ⟨fb, 0, none⟩) S S] 126 (0, 0))
  van : B.SetM X (some ⟨vb, 0, none⟩) S 0
  row : ValAt X fb S 123 (fun i => if i < k then .pointer (some ⟨f i, 0, none⟩) else .pointer none)
  lo : w.heap.size + 1 < kb ∧ w.heap.size + 1 < vb ∧ w.heap.size + 1 < fb
  ne : vb ≠ fb ∧ kb ≠ fb ∧ kb ≠ vb
  sets : ∀ i, i < k → B.SetM X (some ⟨f i, 0, none⟩) tn (if i < tn then 2 ^ i else 0)
  fne : ∀ i, i < k → w.heap.size + 1 < f i ∧ f i ≠ vb ∧ f i ≠ fb ∧ f i ≠ kb
  inj : ∀ i j, i < k → j < k → f i = f j → i = j

theorem setp_ne {x : World} {b c n m : Nat} {o : Obj} (h : B.SetM x (some ⟨b, 0, none⟩) n m) (hc : x.heap[c]? = some o) (ho : ∀ r, o ≠ .cells r 156 (0, 0)) : b ≠ c := fun e => by
  subst e
  have h2 := SetM_row h
  unfold B.RowAt at h2
  rw [h2] at hc
  exact ho _ (by injection hc with hc; exact hc.symm)

theorem st3 {Y x : World} {kb : Nat} {a b c : Value} (h : Y.grownBy x none) (hk : Y.heap.size ≤ kb) : Y.grownBy (((x.setCell ⟨kb, 0, none⟩ a).setCell ⟨kb, 1, none⟩ b).setCell ⟨kb, 2, none⟩ c) none :=
  grown_at h (grown_two (grown_two (grown_setCell _ _ _) (grown_setCell _ _ _)) (grown_setCell _ _ _)) hk

theorem heap_alloc_one (x : World) (o o' : Obj) : ((x.alloc o).alloc o').heap[x.heap.size + 1]? = some o' := by
  have := heap_alloc_last (x.alloc o) o'
  rw [World.size_alloc] at this
  exact this

theorem nat_stored {w Y x : World} {cs M : Array Value} {tn S kb vb fb : Nat} (hph : PhAt w Y w.heap.size cs) (hY : Y.heap.size = w.heap.size + 1 + 1) (hrb : Y.heap[w.heap.size + 1]? = some (.cells #[.int .i64 0, .pointer none, .slice none 0 0] 126 (0, 0))) (h : NF Y x S M (some vb) (some kb)) (hM : x.heap[fb]? = some (.cells M 123 (0, 0))) (hMe : M = ((List.range S).map fun _ => Value.pointer none).toArray) (hfb : Y.heap.size ≤ fb) (f : Nat → Nat) :
    NAt w (((x.setCell ⟨kb, 0, none⟩ (.int .i64 (tn : Int))).setCell ⟨kb, 1, none⟩ (.pointer (some ⟨vb, 0, none⟩))).setCell ⟨kb, 2, none⟩ (.slice (some ⟨fb, 0, none⟩) S S)) cs tn S kb vb fb 0 f := by
  have G : x.grownBy (((x.setCell ⟨kb, 0, none⟩ (.int .i64 (tn : Int))).setCell ⟨kb, 1, none⟩ (.pointer (some ⟨vb, 0, none⟩))).setCell ⟨kb, 2, none⟩ (.slice (some ⟨fb, 0, none⟩) S S)) (some kb) := grown_two (grown_two (grown_setCell _ _ _) (grown_setCell _ _ _)) (grown_setCell _ _ _)
  have hv := h.v vb rfl
  have hb := h.b kb rfl
  have n1 : vb ≠ kb := setp_ne hv.2 hb.2 (by intro r e; cases e)
  have n2 : vb ≠ fb := setp_ne hv.2 hM (by intro r e; cases e)
  have n3 : kb ≠ fb := fun e => by
    rw [e] at hb
    rw [hb.2] at hM
    cases hM
  have hph' := hph.kept h.grown
  have hr' := (boxKept hrb h.grown).out
  refine ⟨grown_at (grown_trans hph.grown h.grown) G (by omega), (G.block _ (Array.getElem?_eq_some_iff.1 hph'.box).1 (by simp; omega)).trans hph'.box, (G.block _ (Array.getElem?_eq_some_iff.1 hr').1 (by simp; omega)).trans hr', ?_, SetM_at hv.2 G n1, ?_, ⟨by omega, by omega, by omega⟩, ⟨n2, n3, fun e => n1 e.symm⟩, fun i hi => absurd hi (Nat.not_lt_zero _), fun i hi => absurd hi (Nat.not_lt_zero _), fun i j hi => absurd hi (Nat.not_lt_zero _)⟩
  · have e1 := heap_setCell_same x kb 0 _ _ (.int .i64 (tn : Int)) hb.2
    have e2 := heap_setCell_same _ kb 1 _ _ (.pointer (some ⟨vb, 0, none⟩)) e1
    have e3 := heap_setCell_same _ kb 2 _ _ (.slice (some ⟨fb, 0, none⟩) S S) e2
    rw [e3]; rfl
  · unfold ValAt
    rw [G.block fb (Array.getElem?_eq_some_iff.1 hM).1 (by simp; exact fun e => n3 e.symm), hM, hMe]
    simp

theorem nat_made {w Y x : World} {cs M : Array Value} {tn S vb : Nat} (hph : PhAt w Y w.heap.size cs) (hY : Y.heap.size = w.heap.size + 1 + 1) (hrb : Y.heap[w.heap.size + 1]? = some (.cells #[.int .i64 0, .pointer none, .slice none 0 0] 126 (0, 0))) (h : NF Y x S M (some vb) none) (hMe : M = ((List.range S).map fun _ => Value.pointer none).toArray) (f : Nat → Nat) :
    NAt w ((x.alloc (.cells M 123)).alloc (.cells #[.int .i64 (tn : Int), .pointer (some ⟨vb, 0, none⟩), .slice (some ⟨x.heap.size, 0, none⟩) S S] 126)) cs tn S (x.heap.size + 1) vb x.heap.size 0 f := by
  have G : x.grownBy ((x.alloc (.cells M 123)).alloc (.cells #[.int .i64 (tn : Int), .pointer (some ⟨vb, 0, none⟩), .slice (some ⟨x.heap.size, 0, none⟩) S S] 126)) none := grown_trans (World.grownBy_alloc _ _ none) (World.grownBy_alloc _ _ none)
  have hv := h.v vb rfl
  have hvl := SetM_lt hv.2
  have hs := h.grown.size
  have hph' := hph.kept (grown_trans h.grown G)
  refine ⟨hph'.grown, hph'.box, (boxKept hrb (grown_trans h.grown G)).out, ?_, SetM_kept hv.2 G, ?_, ⟨by omega, by omega, by omega⟩, ⟨by omega, by omega, by omega⟩, fun i hi => absurd hi (Nat.not_lt_zero _), fun i hi => absurd hi (Nat.not_lt_zero _), fun i j hi => absurd hi (Nat.not_lt_zero _)⟩
  · have := heap_alloc_last (x.alloc (.cells M 123)) (.cells #[.int .i64 (tn : Int), .pointer (some ⟨vb, 0, none⟩), .slice (some ⟨x.heap.size, 0, none⟩) S S] 126)
    rw [World.size_alloc] at this
    exact this
  · have e := (boxKept (heap_alloc_last x (.cells M 123)) (World.grownBy_alloc (x.alloc (.cells M 123)) (.cells #[.int .i64 (tn : Int), .pointer (some ⟨vb, 0, none⟩), .slice (some ⟨x.heap.size, 0, none⟩) S S] 126) none)).out
    rw [hMe] at e
    unfold ValAt
    rw [hMe]
    rw [e]
    simp
theorem nat_made2 {w Y x : World} {cs M : Array Value} {tn S vb : Nat} (hph : PhAt w Y w.heap.size cs) (hY : Y.heap.size = w.heap.size + 1 + 1) (hrb : Y.heap[w.heap.size + 1]? = some (.cells #[.int .i64 0, .pointer none, .slice none 0 0] 126 (0, 0))) (h : NF Y x S M (some vb) none) (hMe : M = ((List.range S).map fun _ => Value.pointer none).toArray) (f : Nat → Nat) :
    NAt w ((x.alloc (.cells #[.int .i64 (tn : Int), .pointer (some ⟨vb, 0, none⟩), .slice (some ⟨x.heap.size + 1, 0, none⟩) S S] 126)).alloc (.cells M 123)) cs tn S x.heap.size vb (x.heap.size + 1) 0 f := by
  have G : x.grownBy ((x.alloc (.cells #[.int .i64 (tn : Int), .pointer (some ⟨vb, 0, none⟩), .slice (some ⟨x.heap.size + 1, 0, none⟩) S S] 126)).alloc (.cells M 123)) none := grown_trans (World.grownBy_alloc _ _ none) (World.grownBy_alloc _ _ none)
  have hv := h.v vb rfl
  have hvl := SetM_lt hv.2
  have hs := h.grown.size
  have hph' := hph.kept (grown_trans h.grown G)
  refine ⟨hph'.grown, hph'.box, (boxKept hrb (grown_trans h.grown G)).out, ?_, SetM_kept hv.2 G, ?_, ⟨by omega, by omega, by omega⟩, ⟨by omega, by omega, by omega⟩, fun i hi => absurd hi (Nat.not_lt_zero _), fun i hi => absurd hi (Nat.not_lt_zero _), fun i j hi => absurd hi (Nat.not_lt_zero _)⟩
  · exact (boxKept (heap_alloc_last x _) (World.grownBy_alloc _ (.cells M 123) none)).out
  · have e := heap_alloc_one x (.cells #[.int .i64 (tn : Int), .pointer (some ⟨vb, 0, none⟩), .slice (some ⟨x.heap.size + 1, 0, none⟩) S S] 126) (.cells M 123)
    rw [hMe] at e
    unfold ValAt
    rw [hMe]
    rw [e]
    simp
section
variable {w X Z : World} {cs : Array Value} {tn S kb vb fb k : Nat} {f : Nat → Nat}
theorem NAt.kept (h : NAt w X cs tn S kb vb fb k f) (hg : X.grownBy Z none) : NAt w Z cs tn S kb vb fb k f :=
  ⟨grown_trans h.grown hg, (boxKept h.gbox hg).out, (boxKept h.res hg).out, (boxKept h.box hg).out, SetM_kept h.van hg, h.row.kept hg, h.lo, h.ne, fun i hi => SetM_kept (h.sets i hi) hg, h.fne, h.inj⟩
theorem NAt.ph (h : NAt w X cs tn S kb vb fb k f) : PhAt w X w.heap.size cs := ⟨h.grown, h.gbox⟩
theorem NAt.push {b : Nat} (h : NAt w X cs tn S kb vb fb k f) (hX : X.grownBy Z none) (hb : X.heap.size ≤ b) (hS : B.SetM Z (some ⟨b, 0, none⟩) tn (if k < tn then 2 ^ k else 0)) (hk : k < S) : NAt w (Z.setCell ⟨fb, k, none⟩ (.pointer (some ⟨b, 0, none⟩))) cs tn S kb vb fb (k + 1) (fun i => if i = k then b else f i) := by
  have h' := h.kept hX
  have G : Z.grownBy (Z.setCell ⟨fb, k, none⟩ (.pointer (some ⟨b, 0, none⟩))) (some fb) := grown_setCell _ _ _
  have l1 := (Array.getElem?_eq_some_iff.1 h.gbox).1
  have l2 := (Array.getElem?_eq_some_iff.1 h.box).1
  have l3 := SetM_lt h.van
  have l4 := h.row.lt
  have l5 : ∀ i, i < k → f i < X.heap.size := fun i hi => SetM_lt (h.sets i hi)
  have lo := h.lo
  refine ⟨grown_at h'.grown G (by omega), (G.block _ (Array.getElem?_eq_some_iff.1 h'.gbox).1 (by simp; omega)).trans h'.gbox, (G.block _ (Array.getElem?_eq_some_iff.1 h'.res).1 (by simp; omega)).trans h'.res, (G.block _ (Array.getElem?_eq_some_iff.1 h'.box).1 (by have := h.ne; simp; omega)).trans h'.box, SetM_at h'.van G h.ne.1, ?_, h.lo, h.ne, fun i hi => ?_, fun i hi => ?_, fun i j hi hj e => ?_⟩
  · have h2 := h'.row.set k (.pointer (some ⟨b, 0, none⟩))
    unfold ValAt at h2 ⊢
    rw [h2]
    congr 2
    apply congrArg List.toArray
    apply List.map_congr_left
    intro i _
    unfold put
    by_cases e : i = k
    · subst e; simp
    · by_cases e2 : i < k
      · have e3 : i < k + 1 := by omega
        simp [e, e2, e3]
      · have e3 : ¬ i < k + 1 := by omega
        simp [e, e2, e3]
  · by_cases e : i = k
    · subst e; simp only [if_true]; exact SetM_at hS G (by omega)
    · simp only [e, if_false]; exact SetM_at (h'.sets i (by omega)) G (h.fne i (by omega)).2.2.1
  · by_cases e : i = k
    · subst e; simp only [if_true]; exact ⟨by omega, by omega, by omega, by omega⟩
    · simp only [e, if_false]; exact h.fne i (by omega)
  · by_cases e1 : i = k
    · by_cases e2 : j = k
      · omega
      · simp only [e1, e2, if_true, if_false] at e
        have := l5 j (by omega); omega
    · by_cases e2 : j = k
      · simp only [e1, e2, if_true, if_false] at e
        have := l5 i (by omega); omega
      · simp only [e1, e2, if_false] at e
        exact h.inj i j (by omega) (by omega) e
theorem NAt.told (h : NAt w X cs tn S kb vb fb S f) (c0 c1 c2 : Value) : FAt (((X.setCell ⟨w.heap.size + 1, 0, none⟩ c0).setCell ⟨w.heap.size + 1, 1, none⟩ c1).setCell ⟨w.heap.size + 1, 2, none⟩ c2) w.heap.size (((X.setCell ⟨w.heap.size + 1, 0, none⟩ c0).setCell ⟨w.heap.size + 1, 1, none⟩ c1).setCell ⟨w.heap.size + 1, 2, none⟩ c2).heap.size tn S fb vb f 0 (fun i => if i < tn then 2 ^ i else 0) ∧ w.grownBy (((X.setCell ⟨w.heap.size + 1, 0, none⟩ c0).setCell ⟨w.heap.size + 1, 1, none⟩ c1).setCell ⟨w.heap.size + 1, 2, none⟩ c2) none := by
  have G : X.grownBy (((X.setCell ⟨w.heap.size + 1, 0, none⟩ c0).setCell ⟨w.heap.size + 1, 1, none⟩ c1).setCell ⟨w.heap.size + 1, 2, none⟩ c2) (some (w.heap.size + 1)) := grown_two (grown_two (grown_setCell _ _ _) (grown_setCell _ _ _)) (grown_setCell _ _ _)
  have lo := h.lo
  have hs := G.size
  have l3 := SetM_lt h.van
  have l4 := h.row.lt
  refine ⟨⟨fun i hi => ?_, fun i hi => SetM_at (h.sets i hi) G (by have := h.fne i hi; omega), SetM_at h.van G (by omega), ⟨⟨by omega, by omega⟩, ⟨by omega, by omega⟩, fun i hi => ⟨by have := h.fne i hi; omega, by have := SetM_lt (h.sets i hi); omega⟩⟩, h.inj, ⟨h.ne.1, fun i hi => ⟨(h.fne i hi).2.1, (h.fne i hi).2.2.1⟩⟩⟩, grown_at h.grown G (by omega)⟩
  have := (h.row.at G (by omega)).cell i hi
  rw [if_pos hi] at this
  exact this
end
theorem start_bits (tn k : Nat) : (B.addS tn 0 [(k : Int)]).1 = if k < tn then 2 ^ k else 0 := by
  by_cases h : k < tn
  · rw [addS_one h, if_pos h]; simp
  · rw [if_neg h]
    have h1 : B.inB tn (k : Int) = false := by simp [B.inB]; omega
    show (B.addStep tn (0, 0) (k : Int)).1 = _
    unfold B.addStep
    rw [h1]; rfl

set_option maxRecDepth 100000 in
set_option maxHeartbeats 2000000 in
theorem nothing_any (ta na la pa : Option Addr) (tn nn ln pn tc nc lc pc S : Nat) (st : Int) (w : World) (hS : S = tn + nn) (hz : S ≤ 1024) :
    Calls Tryz.prog 100 #[.agg #[.slice ta tn tc, .slice na nn nc, .slice la ln lc, .int .i64 st, .slice pa pn pc]] w fun e w' => ∃ vb fb f, e = .returned (.agg #[.int .i64 (tn : Int), .pointer (some ⟨vb, 0, none⟩), .slice (some ⟨fb, 0, none⟩) S S]) ∧ FAt w' w.heap.size w'.heap.size tn S fb vb f 0 (fun i => if i < tn then 2 ^ i else 0) ∧ w.grownBy w' none := by
  have HSY : Hid (∀ X, Calls Tryz.prog 124 #[.agg #[.slice ta tn tc, .slice na nn nc, .slice la ln lc, .int .i64 st, .slice pa pn pc]] X fun e w' => e = .returned (.int .i64 (S : Int)) ∧ X.grownBy w' none) := fun X => symbols_at ta na la pa tn nn ln pn tc nc lc pc S st X hS hz
  have hts : tn ≤ S := by omega
  have HCL : Hid (B.clampN (S : Int) = S ∧ B.clampN (tn : Int) = tn) := ⟨by unfold B.clampN; omega, by unfold B.clampN; omega⟩
  obtain ⟨Y, hY⟩ : ∃ Y, Y = (w.alloc (.cells #[.slice ta tn tc, .slice na nn nc, .slice la ln lc, .int .i64 st, .slice pa pn pc] 27)).alloc (.cells #[.int .i64 0, .pointer none, .slice none 0 0] 126) := ⟨_, rfl⟩
  have hYg : w.grownBy Y none := by rw [hY]; exact grown_trans (World.grownBy_alloc _ _ none) (World.grownBy_alloc _ _ none)
  have hYs : Y.heap.size = w.heap.size + 1 + 1 := by rw [hY]; simp
  have HPH : Hid (PhAt w Y w.heap.size #[.slice ta tn tc, .slice na nn nc, .slice la ln lc, .int .i64 st, .slice pa pn pc]) := ⟨hYg, by rw [hY]; exact ((World.grownBy_alloc (w.alloc _) _ none).block _ (by simp) (by simp)).trans (heap_alloc_last w _)⟩
  have HRB : Hid (Y.heap[w.heap.size + 1]? = some (.cells #[.int .i64 0, .pointer none, .slice none 0 0] 126 (0, 0))) := by
    show _ = _
    have h := heap_alloc_last (w.alloc (.cells #[.slice ta tn tc, .slice na nn nc, .slice la ln lc, .int .i64 st, .slice pa pn pc] 27)) (.cells #[.int .i64 0, .pointer none, .slice none 0 0] 126)
    rw [World.size_alloc] at h
    rw [hY]; exact h
  obtain ⟨i0, hi0, hz0, hz1, hz2⟩ := info_parts infoSetP
  obtain ⟨M, hM⟩ : ∃ M, M = madeCells (Value.pointer none).cells ((S : Int).toNat * i0.size) := ⟨_, rfl⟩
  have HME : Hid (M = ((List.range S).map fun _ => Value.pointer none).toArray) := by
    show _ = _
    rw [hM, hz1]
    apply Array.ext'
    rw [show (Value.pointer none).cells = #[.pointer none] from rfl, toList_madeCells_one, Nat.mul_one, List.map_const', List.length_range]
    simp
  have hmk : ∀ W : World, (Instr.makeSlice 124 (.int .i64 (S : Int)) (.int .i64 (S : Int))).run Tryz.prog W = .ok (.slice (some ⟨W.heap.size, 0, none⟩) S S) (W.alloc (.cells M 123)) := fun W => by
    have h := run_make (P := Tryz.prog) W 124 123 i0 (.pointer none) Tryz.underlying124 hi0 hz0 .i64 .i64 (S : Int) (S : Int) (by omega) (by omega) (by rw [hz2]; omega) (by omega)
    rw [← hM] at h
    simpa using h
  have HYG : Hid (w.grownBy Y none) := hYg
  have HYS : Hid (Y.heap.size = w.heap.size + 1 + 1) := hYs
  have HY : Hid (Y = (w.alloc (.cells #[.slice ta tn tc, .slice na nn nc, .slice la ln lc, .int .i64 st, .slice pa pn pc] 27)).alloc (.cells #[.int .i64 0, .pointer none, .slice none 0 0] 126)) := hY
  have HKS : Hid (∀ x, Y.grownBy x none → x.cell? ⟨w.heap.size, 0, none⟩ = some (.slice ta tn tc) ∧ x.cell? ⟨w.heap.size, 1, none⟩ = some (.slice na nn nc) ∧ x.cell? ⟨w.heap.size, 2, none⟩ = some (.slice la ln lc) ∧ x.cell? ⟨w.heap.size, 3, none⟩ = some (.int .i64 st) ∧ x.cell? ⟨w.heap.size, 4, none⟩ = some (.slice pa pn pc)) := fun x hx => (HPH.out.kept hx).cells
  have HNF : Hid (NF Y Y.drew S M none none) := ⟨grown_drewN Y 1, fun b h => (by cases h), fun b h => (by cases h)⟩
  have NF0 : Hid (NF Y Y S M none none) := ⟨grown_refl _ _, fun b h => (by cases h), fun b h => (by cases h)⟩
  have HOF : Hid (∀ X, Calls Tryz.prog 123 #[.int .i64 (S : Int), .slice none 0 0] X fun e w' => ∃ b, e = .returned (.pointer (some ⟨b, 0, none⟩)) ∧ X.heap.size ≤ b ∧ B.SetM w' (some ⟨b, 0, none⟩) S 0 ∧ X.grownBy w' none) := fun X => (B.of_any (S : Int) none 0 [] X (.inl rfl) (by decide)).mono fun e w' ⟨h1, h2, h3⟩ => ⟨_, h1, Nat.le_refl _, by rw [HCL.out.1] at h2; exact h2, grown_of_below h3⟩
  have hm0 : w.heap.size < Y.heap.size := by omega
  have hn0 : w.heap.size ≠ Y.heap.size := by omega
  have ho0 : Y.heap.size ≠ w.heap.size := by omega
  clear hYg hYs hY hM hi0 hz0 hz1 hz2 hS
  go_enter Tryz.func100, Tryz.ntmps100
  go_wp2_with fail
  rw [← HY.out]
  go_cut [3] from 5 to 14 (fun v3 wx => ∃ kb vb fb f, v3 = .pointer (some ⟨kb, 0, none⟩) ∧ NAt w wx #[.slice ta tn tc, .slice na nn nc, .slice la ln lc, .int .i64 st, .slice pa pn pc] tn S kb vb fb 0 f)
  case first =>
    go_region_held3 (fun x => x.cell? ⟨w.heap.size, 0, none⟩ = some (.slice ta tn tc) ∧ x.cell? ⟨w.heap.size, 1, none⟩ = some (.slice na nn nc) ∧ x.cell? ⟨w.heap.size, 2, none⟩ = some (.slice la ln lc) ∧ x.cell? ⟨w.heap.size, 3, none⟩ = some (.int .i64 st) ∧ x.cell? ⟨w.heap.size, 4, none⟩ = some (.slice pa pn pc)) (first | exact HKS.out _ HNF.out.grown | exact HKS.out _ HNF.out.al.grown | exact HKS.out _ (NF.ald NF0.out).grown | exact HKS.out _ (grown_trans HNF.out.grown (World.grownBy_alloc _ _ none)) | exact HKS.out _ (grown_trans (grown_trans HNF.out.grown (World.grownBy_alloc _ _ none)) (World.grownBy_alloc _ _ none)) | exact HKS.out _ (st3 (grown_trans HNF.out.grown (World.grownBy_alloc _ _ none)) (HNF.out.b _ rfl).1) | exact HKS.out _ (st3 (grown_trans (grown_trans HNF.out.grown (World.grownBy_alloc _ _ none)) (World.grownBy_alloc _ _ none)) HNF.out.grown.size) | go_keep)
      ((first
        | (go_at_call 124; refine Calls.mono (HSY.out _) ?_; rintro e w8 ⟨rfl, hg8⟩; (first | (have HNF := NF.hid (NF.kept HNF.out hg8)) | (have HNF := NF.hid (NF.kept (NF.ald NF0.out) hg8)) | (have HNF := NF.hid (NF.kept (NF.al HNF.out) hg8)) | fail); clear hg8; (try have q0 := (NF.boxM HNF.out).1.1); have p0 := (boxA w8 M).1.1; (try have q1 := (NF.boxM HNF.out).1.2.1); have p1 := (boxA w8 M).1.2.1; (try have q2 := (NF.boxM HNF.out).1.2.2); have p2 := (boxA w8 M).1.2.2; (try have q3 := (NF.boxM HNF.out).2.1); have p3 := (boxA w8 M).2.1; (try have q4 := (NF.boxM HNF.out).2.2.1); have p4 := (boxA w8 M).2.2.1; (try have q5 := (NF.boxM HNF.out).2.2.2); have p5 := (boxA w8 M).2.2.2)
        | (go_at_call 123; refine Calls.mono (HOF.out _) ?_; rintro e w8 ⟨vb, rfl, hb8, hS8, hg8⟩; (first | (have HNF := NF.hid (NF.of HNF.out hg8 hb8 hS8)) | (have HNF := NF.hid (NF.of (NF.al HNF.out) hg8 hb8 hS8)) | fail); clear hg8 hb8 hS8)
        | fail))
    all_goals go_wp2_with fail
    all_goals go_meet
    all_goals first
      | exact ⟨_, vb, _, (fun _ => 0), rfl, nat_stored HPH.out HYS.out HRB.out (HNF.out.kept (World.grownBy_alloc _ _ none)) (heap_alloc_last _ _) HME.out HNF.out.grown.size _⟩
      | exact ⟨_, vb, _, (fun _ => 0), rfl, nat_stored HPH.out HYS.out HRB.out ((HNF.out.al).kept (World.grownBy_alloc _ _ none)) (heap_alloc_one _ _ _) HME.out (Nat.le_succ_of_le HNF.out.grown.size) _⟩
      | exact ⟨_, vb, _, (fun _ => 0), rfl, nat_made HPH.out HYS.out HRB.out HNF.out HME.out _⟩
      | exact ⟨_, vb, _, (fun _ => 0), rfl, nat_made2 HPH.out HYS.out HRB.out HNF.out HME.out _⟩
  case rest =>
    obtain ⟨kb, vb, fb, f0, rfl, hN⟩ := hcut
    have HN0 : Hid (NAt w wc #[.slice ta tn tc, .slice na nn nc, .slice la ln lc, .int .i64 st, .slice pa pn pc] tn S kb vb fb 0 f0) := hN
    clear hN HNF NF0 HOF HRB HPH HYG HYS HY HKS hm0 hn0 ho0 hmk HME
    obtain ⟨k0, k1, k2, k3, k4⟩ := HN0.out.ph.cells
    go_wp2_with fail
    refine Calls.mono (HSY.out _) ?_
    rintro e w2 ⟨rfl, hg2⟩
    have HN2 : Hid (NAt w w2 #[.slice ta tn tc, .slice na nn nc, .slice la ln lc, .int .i64 st, .slice pa pn pc] tn S kb vb fb 0 f0) := HN0.out.kept hg2
    clear hg2 HN0 k0 k1 k2 k3 k4
    go_wp2_with fail
    go_loopg [17] S (fun gk i wr => ∃ (k : Nat) (f : Nat → Nat), k ≤ S ∧ gk = S - k ∧ i = .int .i64 k ∧ NAt w wr #[.slice ta tn tc, .slice na nn nc, .slice la ln lc, .int .i64 st, .slice pa pn pc] tn S kb vb fb k f)
    case atStart => exact ⟨0, f0, Nat.zero_le _, rfl, rfl, HN2.out⟩
    case round =>
      obtain ⟨k, f, hk, hgk, rfl, hN⟩ := hrel
      have HGK : Hid (gk = S - k) := hgk
      have HN : Hid (NAt w wr #[.slice ta tn tc, .slice na nn nc, .slice la ln lc, .int .i64 st, .slice pa pn pc] tn S kb vb fb k f) := hN
      clear hgk hN
      by_cases hlt : k < S
      · obtain ⟨⟨b0, b1, b2⟩, _⟩ := box3 HN.out.box
        have hk0 : (0 : Int) ≤ (k : Int) := by omega
        have hk1 : (k : Int) < (S : Int) := by omega
        have hkd : decide (k < S) = true := decide_eq_true hlt
        have HKS : Hid (∀ x, wr.grownBy x none → x.cell? ⟨kb, 0, none⟩ = some (.int .i64 (tn : Int)) ∧ x.cell? ⟨kb, 2, none⟩ = some (.slice (some ⟨fb, 0, none⟩) S S)) := fun x hx => ⟨hx.cell b0 (by simp), hx.cell b2 (by simp)⟩
        have HG1 : Hid (wr.grownBy (wr.alloc (.cells #[.int .i64 (k : Int)] 3)).drew none) := grown_trans (World.grownBy_alloc _ _ none) (grown_drewN _ 1)
        have HG0 : Hid (wr.grownBy wr.drew none) := grown_drewN _ 1
        have HOK : Hid (Calls Tryz.prog 123 #[.int .i64 (tn : Int), .slice (some ⟨wr.heap.size, 0, none⟩) 1 1] (wr.alloc (.cells #[.int .i64 (k : Int)] 3)).drew fun e w' => ∃ b, e = .returned (.pointer (some ⟨b, 0, none⟩)) ∧ wr.heap.size ≤ b ∧ B.SetM w' (some ⟨b, 0, none⟩) tn (if k < tn then 2 ^ k else 0) ∧ wr.grownBy w' none) := by
          refine (B.of_any (tn : Int) (some ⟨wr.heap.size, 0, none⟩) 1 [(k : Int)] _ (.inr ⟨_, 0, rfl, fun i hi => by
            have : i = 0 := by simpa using hi
            subst this
            exact new_cell wr _ _⟩) (by simp)).mono ?_
          rintro e w' ⟨rfl, h2, h3⟩
          rw [HCL.out.2, start_bits] at h2
          refine ⟨_, rfl, ?_, h2, grown_trans HG1.out (grown_of_below h3)⟩
          have : (wr.alloc (.cells #[.int .i64 (k : Int)] 3)).drew.heap.size = wr.heap.size + 1 := by show (wr.alloc _).heap.size = _; simp
          omega
        clear b0 b1 b2
        go_wp2_with fail
        go_region_held3 (fun x => x.cell? ⟨kb, 0, none⟩ = some (.int .i64 (tn : Int)) ∧ x.cell? ⟨kb, 2, none⟩ = some (.slice (some ⟨fb, 0, none⟩) S S)) (first | exact HKS.out _ HG0.out | exact HKS.out _ HG1.out | exact HKS.out _ HG5.out | exact HST.out _ | go_keep)
          ((first
            | (go_at_call 123; refine Calls.mono HOK.out ?_; rintro e w5 ⟨b, rfl, hb5, hS5, hg5⟩; have HG5 : Hid (wr.grownBy w5 none) := hg5; have HB5 : Hid (wr.heap.size ≤ b ∧ B.SetM w5 (some ⟨b, 0, none⟩) tn (if k < tn then 2 ^ k else 0)) := ⟨hb5, hS5⟩; have x0 := (HN.out.kept hg5).row.cell k hlt; have x1 := (HN.out.kept hg5).row.free k; rw [if_neg (Nat.lt_irrefl k)] at x0; have HST : Hid (∀ v, (w5.setCell ⟨fb, k, none⟩ v).cell? ⟨kb, 0, none⟩ = some (.int .i64 (tn : Int)) ∧ (w5.setCell ⟨fb, k, none⟩ v).cell? ⟨kb, 2, none⟩ = some (.slice (some ⟨fb, 0, none⟩) S S)) := (fun v => ⟨(grown_setCell (w := w5) fb k v).cell (HKS.out _ hg5).1 (by have := HN.out.ne; simp; omega), (grown_setCell (w := w5) fb k v).cell (HKS.out _ hg5).2 (by have := HN.out.ne; simp; omega)⟩); clear hb5 hS5 hg5)
            | fail))
        go_wp2_with fail
        go_roundg (S - (k + 1))
        case measure => have := HGK.out; omega
        case rel => exact ⟨k + 1, _, by omega, rfl, by go_num, HN.out.push HG5.out HB5.out.1 HB5.out.2 hlt⟩
      · have hkn : S = k := by omega
        subst hkn
        have hkd : decide (S < S) = false := decide_eq_false (by omega)
        obtain ⟨⟨b0, b1, b2⟩, f0, f1, f2⟩ := box3 HN.out.box
        obtain ⟨⟨r0, r1, r2⟩, g0, g1, g2⟩ := box3 HN.out.res
        go_wp2_with fail
        refine bodyPost_ret (v := .agg #[.int .i64 (tn : Int), .pointer (some ⟨vb, 0, none⟩), .slice (some ⟨fb, 0, none⟩) S S]) (results_cell_row (fr := (0, 0)) rfl _ _ (w.heap.size + 1) 126 #[.int .i64 (tn : Int), .pointer (some ⟨vb, 0, none⟩), .slice (some ⟨fb, 0, none⟩) S S] _ rfl (by rw [heap_setCell_same _ _ _ _ _ _ (heap_setCell_same _ _ _ _ _ _ (heap_setCell_same _ _ _ _ _ _ HN.out.res))]; rfl) Tryz.underlying126 rfl infoFound) rfl ⟨vb, fb, f, rfl, (HN.out.told _ _ _).1, (HN.out.told _ _ _).2⟩

end Go.Proofs.YthoamlahbnphkaaGreat

/-
  first: foundOf, its memory.
-/
namespace Go.Proofs.YthoamlahbnphkaaGreat
open Go.RowKit Go.Maps Go.Shelf

attribute [local go_sem] Oper.semAt_some

/-- A row of numbers in a block of its own, from base on. -/
def RowIn (X : World) (a : Option Addr) (l : List Int) (base : Nat) : Prop := l = [] ∨ ∃ g cur, a = some ⟨g, 0, none⟩ ∧ base ≤ g ∧ X.heap[g]? = some (.cells cur 3 (0, 0)) ∧ ∀ i, i < l.length → cur[i]? = some (.int .i64 (l.getD i 0))
section
variable {X Z : World} {a : Option Addr} {l : List Int} {base lo hi : Nat}
theorem RowIn.ints (h : RowIn X a l base) : IntsAt X a l := by
  rcases h with h | ⟨g, cur, e, _, hh, hc⟩
  · exact .inl h
  · exact .inr ⟨g, 0, e, fun i hi => by rw [cell_of_row _ _ _ _ _ _ hh]; simpa using hc i hi⟩
theorem RowIn.block (h : RowIn X a l base) (hb : ∀ j, j < X.heap.size → base ≤ j → (∃ cur, X.heap[j]? = some (.cells cur 3 (0, 0))) → Z.heap[j]? = X.heap[j]?) : RowIn Z a l base := by
  rcases h with h | ⟨g, cur, e, h1, hh, hc⟩
  · exact .inl h
  · exact .inr ⟨g, cur, e, h1, (hb g (Array.getElem?_eq_some_iff.1 hh).1 h1 ⟨cur, hh⟩).trans hh, hc⟩
theorem RowIn.kept (h : RowIn X a l base) (hg : X.grownBy Z none) : RowIn Z a l base := h.block fun j hj _ _ => hg.block j hj (by simp)
theorem RowIn.out (h : RowIn X a l hi) (ho : Outside lo hi X Z) : RowIn Z a l hi := h.block fun j hj hb _ => ho.block j hj (.inr hb)
end
theorem RowIn.of {X : World} {B base : Nat} {a : Option Addr} {c : Nat} {l : List Int} (h : X.ownsRow B 3 1 (.slice a l.length c) l.length (l.map (Value.int .i64))) (hb : base ≤ B) : RowIn X a l base := by
  rcases h.2 with ⟨h', h2⟩ | ⟨g, cap, cur, hv, hB, hh, _, _, hs, ht⟩
  · left
    apply List.eq_nil_of_length_eq_zero
    simp only [Value.slice.injEq] at h'
    exact h'.2.1
  · right
    simp only [Value.slice.injEq] at hv
    refine ⟨g, cur, hv.1, Nat.le_trans hb hB, hh, fun i hi => ?_⟩
    have h3 : (cur.toList.take (l.length * 1))[i]? = some (.int .i64 (l.getD i 0)) := by
      rw [ht, List.getElem?_map, List.getD_eq_getElem?_getD, List.getElem?_eq_getElem hi]; rfl
    rw [List.getElem?_take, if_pos (by omega)] at h3
    simpa using h3

/-- While foundOf is under way. -/
structure FoAt (w X : World) (cs : Array Value) (tn S n kb vb fb rb lo hi : Nat) (f : Nat → Nat) (v : Nat) (m : Nat → Nat) (k : Nat) (R : Nat → List Int) (ua : Nat → Option Addr) (uc : Nat → Nat) : Prop where
  grown : w.grownBy X none
  gbox : X.heap[w.heap.size]? = some (.cells cs 27 (0, 0))
  res : X.heap[w.heap.size + 1]? = some (.cells #[.int .i64 0, .pointer none, .slice none 0 0] 126 (0, 0))
  box : X.heap[kb]? = some (.cells #[.int .i64 (tn : Int), .pointer (some ⟨vb, 0, none⟩), .slice (some ⟨fb, 0, none⟩) S S] 126 (0, 0))
  fat : FAt X lo hi tn S fb vb f v m
  row : ValAt X rb n 24 (fun i => if i < k then .slice (ua i) (unl (R i)).length (uc i) else .slice none 0 0)
  rows : ∀ i, i < k → RowIn X (ua i) (unl (R i)) hi
  lo : w.heap.size + 1 < lo ∧ lo ≤ hi ∧ hi ≤ kb ∧ hi ≤ rb ∧ kb ≠ rb ∧ hi ≤ X.heap.size
section
variable {w X Z : World} {cs : Array Value} {tn S n kb vb fb rb lo hi : Nat} {f : Nat → Nat} {v : Nat} {m : Nat → Nat} {k : Nat} {R : Nat → List Int} {ua : Nat → Option Addr} {uc : Nat → Nat}
theorem FoAt.kept (h : FoAt w X cs tn S n kb vb fb rb lo hi f v m k R ua uc) (hg : X.grownBy Z none) : FoAt w Z cs tn S n kb vb fb rb lo hi f v m k R ua uc :=
  ⟨grown_trans h.grown hg, (boxKept h.gbox hg).out, (boxKept h.res hg).out, (boxKept h.box hg).out, h.fat.kept hg, h.row.kept hg, fun i hi => (h.rows i hi).kept hg, ⟨h.lo.1, h.lo.2.1, h.lo.2.2.1, h.lo.2.2.2.1, h.lo.2.2.2.2.1, Nat.le_trans h.lo.2.2.2.2.2 hg.size⟩⟩
theorem FoAt.out {v' : Nat} {m' : Nat → Nat} (h : FoAt w X cs tn S n kb vb fb rb lo hi f v m k R ua uc) (ho : Outside lo hi X Z) (hF : FAt Z lo hi tn S fb vb f v' m') : FoAt w Z cs tn S n kb vb fb rb lo hi f v' m' k R ua uc := by
  have hl := h.lo
  exact ⟨ho.grown h.grown (by omega), (ho.block _ (Array.getElem?_eq_some_iff.1 h.gbox).1 (.inl (by omega))).trans h.gbox, (ho.block _ (Array.getElem?_eq_some_iff.1 h.res).1 (.inl (by omega))).trans h.res, (ho.block _ (Array.getElem?_eq_some_iff.1 h.box).1 (.inr (by omega))).trans h.box, hF, (ho.block _ h.row.lt (.inr (by omega))).trans h.row, fun i hi => (h.rows i hi).out ho, ⟨h.lo.1, h.lo.2.1, h.lo.2.2.1, h.lo.2.2.2.1, h.lo.2.2.2.2.1, Nat.le_trans h.lo.2.2.2.2.2 ho.size⟩⟩
theorem FoAt.ph (h : FoAt w X cs tn S n kb vb fb rb lo hi f v m k R ua uc) : PhAt w X w.heap.size cs := ⟨h.grown, h.gbox⟩
theorem FoAt.push {a : Option Addr} {c : Nat} (h : FoAt w X cs tn S n kb vb fb rb lo hi f v m k R ua uc) (hr : RowIn X a (unl (R k)) hi) : FoAt w (X.setCell ⟨rb, k, none⟩ (.slice a (unl (R k)).length c)) cs tn S n kb vb fb rb lo hi f v m (k + 1) R (fun i => if i = k then a else ua i) (fun i => if i = k then c else uc i) := by
  have hl := h.lo
  have G : X.grownBy (X.setCell ⟨rb, k, none⟩ (.slice a (unl (R k)).length c)) (some rb) := grown_setCell _ _ _
  have key : ∀ {b : Option Addr} {l : List Int}, RowIn X b l hi → RowIn (X.setCell ⟨rb, k, none⟩ (.slice a (unl (R k)).length c)) b l hi := fun {b l} h2 => h2.block fun j hj _ ⟨cur, hc⟩ => G.block j hj (by
    intro e
    have : j = rb := by simpa using e
    subst this
    have h3 := h.row
    unfold ValAt at h3
    rw [h3] at hc
    cases hc)
  refine ⟨grown_at h.grown G (by omega), (G.block _ (Array.getElem?_eq_some_iff.1 h.gbox).1 (by simp; omega)).trans h.gbox, (G.block _ (Array.getElem?_eq_some_iff.1 h.res).1 (by simp; omega)).trans h.res, (G.block _ (Array.getElem?_eq_some_iff.1 h.box).1 (by simp; omega)).trans h.box, h.fat.other G (.inr (by omega)), ?_, fun i hi => ?_, ⟨h.lo.1, h.lo.2.1, h.lo.2.2.1, h.lo.2.2.2.1, h.lo.2.2.2.2.1, Nat.le_trans h.lo.2.2.2.2.2 G.size⟩⟩
  · have h2 := h.row.set k (.slice a (unl (R k)).length c)
    unfold ValAt at h2 ⊢
    rw [h2]
    congr 2
    apply congrArg List.toArray
    apply List.map_congr_left
    intro i _
    unfold put
    by_cases e : i = k
    · subst e; simp
    · by_cases e2 : i < k
      · have e3 : i < k + 1 := by omega
        simp [e, e2, e3]
      · have e3 : ¬ i < k + 1 := by omega
        simp [e, e2, e3]
  · by_cases e : i = k
    · subst e; simp only [if_true]; exact key hr
    · simp only [e, if_false]; exact key (h.rows i (by omega))
theorem FoAt.told (h : FoAt w X cs tn S n kb vb fb rb lo hi f v m k R ua uc) (c0 c1 c2 : Value) : FAt (((X.setCell ⟨w.heap.size + 1, 0, none⟩ c0).setCell ⟨w.heap.size + 1, 1, none⟩ c1).setCell ⟨w.heap.size + 1, 2, none⟩ c2) w.heap.size (((X.setCell ⟨w.heap.size + 1, 0, none⟩ c0).setCell ⟨w.heap.size + 1, 1, none⟩ c1).setCell ⟨w.heap.size + 1, 2, none⟩ c2).heap.size tn S fb vb f v m ∧ w.grownBy (((X.setCell ⟨w.heap.size + 1, 0, none⟩ c0).setCell ⟨w.heap.size + 1, 1, none⟩ c1).setCell ⟨w.heap.size + 1, 2, none⟩ c2) none := by
  have G : X.grownBy (((X.setCell ⟨w.heap.size + 1, 0, none⟩ c0).setCell ⟨w.heap.size + 1, 1, none⟩ c1).setCell ⟨w.heap.size + 1, 2, none⟩ c2) (some (w.heap.size + 1)) := grown_two (grown_two (grown_setCell _ _ _) (grown_setCell _ _ _)) (grown_setCell _ _ _)
  have hl := h.lo
  have hs := G.size
  have h2 := h.fat.other G (.inl (by omega))
  exact ⟨⟨h2.row, h2.sets, h2.van, ⟨⟨by have := h2.rng.1; omega, by have := h2.rng.1; omega⟩, ⟨by have := h2.rng.2.1; omega, by have := h2.rng.2.1; omega⟩, fun i hi => ⟨by have := h2.rng.2.2 i hi; omega, by have := h2.rng.2.2 i hi; omega⟩⟩, h2.inj, h2.ne⟩, grown_at h.grown G (by omega)⟩
end

theorem rowM_lt {v tn : Nat} {m : Nat → Nat} : ∀ {l : List Int}, (∀ x ∈ l, m x.toNat < 2 ^ tn) → rowM v m l < 2 ^ tn
  | [], _ => Nat.two_pow_pos tn
  | x :: l, h => by
    simp only [rowM]
    refine Nat.or_lt_two_pow (h x (by simp)) ?_
    split
    · exact rowM_lt fun y hy => h y (by simp [hy])
    · exact Nat.two_pow_pos tn
theorem stV_unl (v x : Nat) (l : List Int) : stV v x (unl l) = stV v x l := by unfold stV; rw [unl_rowV]
theorem stB_unl (v : Nat) (m : Nat → Nat) (x : Nat) (l : List Int) : stB v m x (unl l) = stB v m x l := by unfold stB; rw [unl_rowM]

end Go.Proofs.YthoamlahbnphkaaGreat
