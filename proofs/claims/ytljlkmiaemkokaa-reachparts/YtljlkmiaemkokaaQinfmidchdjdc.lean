import Derived.Test.YtljlkmiaemkokaaQaimdfaalneol

/-
  reach: useOf.
-/
namespace Go.Proofs.Ytljlkmiaemkokaa
open Go.RowKit Go.Maps Go.Shelf

attribute [local go_sem] Oper.semAt_some

/-- What useOf tells: the rules and the two sets. -/
structure UseIs (w y : World) (kb pb ub n N : Nat) (L : Nat → Int) (R : Nat → List Int) (ra : Nat → Option Addr) (rc : Nat → Nat) (V : Nat → Int) (q : Nat → Nat) (c : Nat → Value) (m u : Nat) : Prop where
  row : ValAt y kb (n * 4) 78 c
  is : RuIs w y N n L R ra rc V q c
  prod : B.SetM y (some ⟨pb, 0, none⟩) N m
  used : B.SetM y (some ⟨ub, 0, none⟩) N u

/-- The answer of useOf. -/
def UseTold (tn nn n : Nat) (st : Int) (L : Nat → Int) (R : Nat → List Int) (ra : Nat → Option Addr) (rc : Nat → Nat) (V : Nat → Int) (cl : Bool) (w : World) (e : Ending) (y : World) : Prop :=
  ∃ (kb pb ub : Nat) (q : Nat → Nat) (c : Nat → Value) (m u : Nat) (f : Nat → Bool), e = .returned (.agg #[.slice (some ⟨kb, 0, none⟩) n n, .pointer (some ⟨pb, 0, none⟩), .pointer (some ⟨ub, 0, none⟩)]) ∧ UseIs w y kb pb ub n (tn + nn) L R ra rc V q c m u ∧ bitsN tn nn m f ∧ Fix (stM tn L R) (chM tn L R) n (fun _ => false) f ∧ Fix (stU tn nn L R f) (fun k u => decide (0 < adU tn nn L R f k u)) n (startU (if cl = true then tn else st.toNat) (f (st - tn).toNat)) u ∧ w.grownBy y none

theorem boxKept {x y : World} {b : Nat} {v : Obj} (h : x.heap[b]? = some v) (hg : x.grownBy y none) : Hid (y.heap[b]? = some v) := (hg.block _ (Array.getElem?_eq_some_iff.1 h).1 (by simp)).trans h
theorem box3 {x : World} {b : Nat} {v0 v1 v2 : Value} {t : TypeId} (h : x.heap[b]? = some (.cells #[v0, v1, v2] t (0, 0))) : (x.cell? ⟨b, 0, none⟩ = some v0 ∧ x.cell? ⟨b, 1, none⟩ = some v1 ∧ x.cell? ⟨b, 2, none⟩ = some v2) ∧ x.frozen? ⟨b, 0, none⟩ = false ∧ x.frozen? ⟨b, 1, none⟩ = false ∧ x.frozen? ⟨b, 2, none⟩ = false := by
  refine ⟨⟨?_, ?_, ?_⟩, frozen_of_row _ _ _ _ _ h, frozen_of_row _ _ _ _ _ h, frozen_of_row _ _ _ _ _ h⟩ <;> rw [cell_of_row _ _ _ _ _ _ h] <;> rfl
theorem RuIs.base {X w wr : World} {N k : Nat} {L : Nat → Int} {R : Nat → List Int} {ra : Nat → Option Addr} {rc : Nat → Nat} {V : Nat → Int} {q : Nat → Nat} {c : Nat → Value} (h : RuIs X wr N k L R ra rc V q c) (hs : w.heap.size ≤ X.heap.size) : RuIs w wr N k L R ra rc V q c := fun j hj => by
  obtain ⟨h0, h1, h2, h3, h4, h5⟩ := h j hj
  exact ⟨h0, h1, h2, h3, h4, by omega⟩
/-- The rules, before the sets are there. -/
def RuS (w x : World) (kb n N : Nat) (L : Nat → Int) (R : Nat → List Int) (ra : Nat → Option Addr) (rc : Nat → Nat) (V : Nat → Int) (q : Nat → Nat) (c : Nat → Value) : Prop := ValAt x kb (n * 4) 78 c ∧ RuIs w x N n L R ra rc V q c
theorem RuS.kept {w x y : World} {kb n N : Nat} {L : Nat → Int} {R : Nat → List Int} {ra : Nat → Option Addr} {rc : Nat → Nat} {V : Nat → Int} {q : Nat → Nat} {c : Nat → Value} (h : RuS w x kb n N L R ra rc V q c) (hg : x.grownBy y none) : Hid (RuS w y kb n N L R ra rc V q c) := ⟨h.1.kept hg, h.2.kept hg⟩
theorem use_made {w Y x : World} {cs : Array Value} {bu kb pb ub n N b2 b3 : Nat} {L : Nat → Int} {R : Nat → List Int} {ra : Nat → Option Addr} {rc : Nat → Nat} {V : Nat → Int} {q : Nat → Nat} {c : Nat → Value} (hph : PhAt w Y w.heap.size cs) (hrb : Y.heap[w.heap.size + 1]? = some (.cells #[.slice none 0 0, .pointer none, .pointer none] 53 (0, 0))) (hg : Y.grownBy x none) (hR : RuS w x kb n N L R ra rc V q c) (hq : ∀ j, j < n → q j < b2) (hP : B.SetM x (some ⟨pb, 0, none⟩) N 0) (h2 : b2 ≤ pb) (h3 : pb < b3) (hU : B.SetM x (some ⟨ub, 0, none⟩) N 0) (h4 : b3 ≤ ub) (hw : w.heap.size ≤ b2)
    (hb : x.heap[bu]? = some (.cells #[.slice (some ⟨kb, 0, none⟩) n n, .pointer (some ⟨pb, 0, none⟩), .pointer (some ⟨ub, 0, none⟩)] 53 (0, 0))) :
    UsAt w x cs bu kb pb ub n N L R ra rc V q c 0 0 :=
  ⟨hph.kept hg, (boxKept hrb hg).out, hb, hR.1, hR.2, hP, hU, by omega, by omega, by omega, fun j hj => ⟨by have := hq j hj; omega, by have := hq j hj; omega⟩⟩
theorem RuS.lt {w x : World} {kb n N : Nat} {L : Nat → Int} {R : Nat → List Int} {ra : Nat → Option Addr} {rc : Nat → Nat} {V : Nat → Int} {q : Nat → Nat} {c : Nat → Value} (h : RuS w x kb n N L R ra rc V q c) : ∀ j, j < n → q j < x.heap.size := fun j hj => SetM_lt (h.2 j hj).2.2.2.2.1

theorem grown_two {x y z : World} {b : Nat} (h1 : x.grownBy y (some b)) (h2 : y.grownBy z (some b)) : x.grownBy z (some b) :=
  ⟨h2.os.trans h1.os, h2.tape.trans h1.tape, h2.output.trans h1.output, Nat.le_trans h1.size h2.size, fun k hk hne => (h2.block k (Nat.lt_of_lt_of_le hk h1.size) hne).trans (h1.block k hk hne)⟩
theorem use_stored {w Y x : World} {cs : Array Value} {bu kb pb ub n N b2 b3 : Nat} {L : Nat → Int} {R : Nat → List Int} {ra : Nat → Option Addr} {rc : Nat → Nat} {V : Nat → Int} {q : Nat → Nat} {c : Nat → Value} (hph : PhAt w Y w.heap.size cs) (hrb : Y.heap[w.heap.size + 1]? = some (.cells #[.slice none 0 0, .pointer none, .pointer none] 53 (0, 0))) (hg : Y.grownBy x none) (hR : RuS w x kb n N L R ra rc V q c) (hq : ∀ j, j < n → q j < b2) (hP : B.SetM x (some ⟨pb, 0, none⟩) N 0) (h2 : b2 ≤ pb) (h3 : pb < b3) (hU : B.SetM x (some ⟨ub, 0, none⟩) N 0) (h4 : b3 ≤ ub) (hw : w.heap.size ≤ b2)
    (hb : x.heap[bu]? = some (.cells #[.slice none 0 0, .pointer none, .pointer none] 53 (0, 0))) (hlo : w.heap.size + 1 < bu) :
    UsAt w (((x.setCell ⟨bu, 0, none⟩ (.slice (some ⟨kb, 0, none⟩) n n)).setCell ⟨bu, 1, none⟩ (.pointer (some ⟨pb, 0, none⟩))).setCell ⟨bu, 2, none⟩ (.pointer (some ⟨ub, 0, none⟩))) cs bu kb pb ub n N L R ra rc V q c 0 0 := by
  have G : x.grownBy (((x.setCell ⟨bu, 0, none⟩ (.slice (some ⟨kb, 0, none⟩) n n)).setCell ⟨bu, 1, none⟩ (.pointer (some ⟨pb, 0, none⟩))).setCell ⟨bu, 2, none⟩ (.pointer (some ⟨ub, 0, none⟩))) (some bu) := grown_two (grown_two (grown_setCell _ _ _) (grown_setCell _ _ _)) (grown_setCell _ _ _)
  have hph' := hph.kept hg
  have hr' := (boxKept hrb hg).out
  have nk : kb ≠ bu := by
    rintro rfl
    have h9 := hR.1
    unfold ValAt at h9
    rw [hb] at h9
    simp at h9
  refine ⟨hph'.keptRow G (by omega), (G.block _ (Array.getElem?_eq_some_iff.1 hr').1 (by simp; omega)).trans hr', ?_, hR.1.at G nk, fun j hj => ?_, SetM_at hP G (fun e => block_ne hb hP (by decide) e.symm), SetM_at hU G (fun e => block_ne hb hU (by decide) e.symm), by omega, by omega, by omega, fun j hj => ⟨by have := hq j hj; omega, by have := hq j hj; omega⟩⟩
  · rw [heap_setCell_same _ _ _ _ _ _ (heap_setCell_same _ _ _ _ _ _ (heap_setCell_same _ _ _ _ _ _ hb))]
    rfl
  · obtain ⟨h0, h1, h2, h3, h4, h5⟩ := hR.2 j hj
    exact ⟨h0, h1, h2, h3, SetM_at h4 G (fun e => block_ne hb h4 (by decide) e.symm), h5⟩

theorem infoUse : (Try.prog.info? 53).map (·.size) = some 3 := by kernel_rfl
section
variable {w x : World} {cs : Array Value} {bu kb pb ub n N : Nat} {L : Nat → Int} {R : Nat → List Int} {ra : Nat → Option Addr} {rc : Nat → Nat} {V : Nat → Int} {q : Nat → Nat} {c : Nat → Value} {m u : Nat} {v0 v1 v2 : Value}
theorem use_stores : x.grownBy (((x.setCell ⟨w.heap.size + 1, 0, none⟩ v0).setCell ⟨w.heap.size + 1, 1, none⟩ v1).setCell ⟨w.heap.size + 1, 2, none⟩ v2) (some (w.heap.size + 1)) := grown_two (grown_two (grown_setCell _ _ _) (grown_setCell _ _ _)) (grown_setCell _ _ _)
theorem UsAt.told (h : UsAt w x cs bu kb pb ub n N L R ra rc V q c m u) : UseIs w (((x.setCell ⟨w.heap.size + 1, 0, none⟩ v0).setCell ⟨w.heap.size + 1, 1, none⟩ v1).setCell ⟨w.heap.size + 1, 2, none⟩ v2) kb pb ub n N L R ra rc V q c m u := by
  have G := use_stores (w := w) (x := x) (v0 := v0) (v1 := v1) (v2 := v2)
  have nk : kb ≠ w.heap.size + 1 := by
    intro e
    have h9 := h.row
    unfold ValAt at h9
    rw [e, h.res] at h9
    simp at h9
  refine ⟨h.row.at G nk, fun j hj => ?_, SetM_at h.prod G (fun e => block_ne h.res h.prod (by decide) e.symm), SetM_at h.used G (fun e => block_ne h.res h.used (by decide) e.symm)⟩
  obtain ⟨h0, h1, h2, h3, h4, h5⟩ := h.is j hj
  exact ⟨h0, h1, h2, h3, SetM_at h4 G (fun e => block_ne h.res h4 (by decide) e.symm), h5⟩
theorem UsAt.grownTold (h : UsAt w x cs bu kb pb ub n N L R ra rc V q c m u) : w.grownBy (((x.setCell ⟨w.heap.size + 1, 0, none⟩ v0).setCell ⟨w.heap.size + 1, 1, none⟩ v1).setCell ⟨w.heap.size + 1, 2, none⟩ v2) none := grown_at h.ph.grown use_stores (by omega)
end

set_option maxRecDepth 100000 in
set_option maxHeartbeats 2000000 in
theorem useOf_any (ta na la pa : Option Addr) (tc nc lc pc : Nat) (ts : List (ByteArray × Int)) (ns : List ByteArray) (lv : List Int) (n : Nat) (L : Nat → Int) (R : Nat → List Int) (ra : Nat → Option Addr) (rc : Nat → Nat) (V : Nat → Int) (st : Int) (w : World) (tn nn ln : Nat) (hlen : ts.length = tn ∧ ns.length = nn ∧ lv.length = ln) (hG : GAt w ta na la pa tc nc lc pc ts ns lv n L R ra rc V) (cl : Bool) (hcl : cl = true ↔ closedOK ts ns lv st n L R V) (hM : MayOK tn nn n st L R cl) :
    Calls Try.prog 29 #[.agg #[.slice ta tn tc, .slice na nn nc, .slice la ln lc, .int .i64 st, .slice pa n pc]] w fun e y => UseTold tn nn n st L R ra rc V cl w e y := by
  have hz : tn + nn ≤ 1024 := by have := hM.tmax; have := hM.nmax; omega
  have HM : Hid (MayOK tn nn n st L R cl) := hM
  obtain ⟨Y, hY⟩ : ∃ Y, Y = (w.alloc (.cells #[.slice ta tn tc, .slice na nn nc, .slice la ln lc, .int .i64 st, .slice pa n pc] 27)).alloc (.cells #[.slice none 0 0, .pointer none, .pointer none] 53) := ⟨_, rfl⟩
  have hYg : w.grownBy Y none := by rw [hY]; exact grown_trans (World.grownBy_alloc _ _ none) (World.grownBy_alloc _ _ none)
  have hYs : Y.heap.size = w.heap.size + 1 + 1 := by rw [hY]; simp
  have HPH : Hid (PhAt w Y w.heap.size #[.slice ta tn tc, .slice na nn nc, .slice la ln lc, .int .i64 st, .slice pa n pc]) := ⟨hYg, by rw [hY]; exact ((World.grownBy_alloc (w.alloc _) _ none).block _ (by simp) (by simp)).trans (heap_alloc_last w _)⟩
  have HRB : Hid (Y.heap[w.heap.size + 1]? = some (.cells #[.slice none 0 0, .pointer none, .pointer none] 53 (0, 0))) := by
    have h9 := heap_alloc_last (w.alloc (.cells #[.slice ta tn tc, .slice na nn nc, .slice la ln lc, .int .i64 st, .slice pa n pc] 27)) (.cells #[.slice none 0 0, .pointer none, .pointer none] 53)
    rw [World.size_alloc] at h9
    show Y.heap[w.heap.size + 1]? = _
    rw [hY]; exact h9
  have HRO : Hid (∀ X, w.grownBy X none → Calls Try.prog 40 #[.agg #[.slice ta tn tc, .slice na nn nc, .slice la ln lc, .int .i64 st, .slice pa n pc]] X fun e w' => ∃ k q c, e = .returned (.slice (some ⟨k, 0, none⟩) n n) ∧ X.heap.size ≤ k ∧ ValAt w' k (n * 4) 78 c ∧ RuIs X w' (tn + nn) n L R ra rc V q c ∧ X.grownBy w' none) := fun X hX => rulesOf_any ta na la pa tn nn ln n tc nc lc pc st L R ra rc V X (hG.kept hX).prods hM.pmax hz
  have HMO : Hid (∀ X, w.grownBy X none → Calls Try.prog 41 #[.agg #[.slice ta tn tc, .slice na nn nc, .slice la ln lc, .int .i64 st, .slice pa n pc], .slice none 0 0] X fun e w' => ∃ b, e = .returned (.agg #[.pointer (some ⟨b, 0, none⟩)]) ∧ X.heap.size ≤ b ∧ B.SetM w' (some ⟨b, 0, none⟩) (tn + nn) 0 ∧ X.grownBy w' none) := fun X hX => by
    have := marksOf_any ta na la pa none tn nn ln n tc nc lc pc 0 st [] X (.inl rfl) (by simp) hz
    exact this
  obtain ⟨rt, hrt⟩ : ∃ rt : Int, rt = if cl = true then (tn : Int) else st := ⟨_, rfl⟩
  have HRT : Hid (∀ X, w.grownBy X none → Calls Try.prog 46 #[.agg #[.slice ta tn tc, .slice na nn nc, .slice la ln lc, .int .i64 st, .slice pa n pc]] X fun e w' => e = .returned (.int .i64 rt) ∧ X.grownBy w' none) := fun X hX => by rw [hrt]; exact root_any ta na la pa tc nc lc pc ts ns lv n L R ra rc V st X tn nn ln hlen (hG.kept hX) cl hcl
  have HRV : Hid (rt = ((if cl = true then tn else st.toNat : Nat) : Int) ∧ (if cl = true then tn else st.toNat : Nat) < tn + nn) := by
    have h1 := hM.start
    have h2 := hM.n0
    show _ ∧ _
    rw [hrt]
    by_cases h : cl = true
    · rw [if_pos h, if_pos h]; exact ⟨rfl, by omega⟩
    · rw [if_neg h, if_neg h]; exact ⟨by omega, by omega⟩
  clear hrt
  have HYG : Hid (w.grownBy Y none) := hYg
  have HYS : Hid (Y.heap.size = w.heap.size + 1 + 1) := hYs
  have HY : Hid (Y = (w.alloc (.cells #[.slice ta tn tc, .slice na nn nc, .slice la ln lc, .int .i64 st, .slice pa n pc] 27)).alloc (.cells #[.slice none 0 0, .pointer none, .pointer none] 53)) := hY
  clear hM hYg hYs hY hG hcl hlen
  go_enter Try.func29, Try.ntmps29
  go_wp2_with fail
  rw [← HY.out]
  obtain ⟨k0, k1, k2, k3, k4⟩ := HPH.out.cells
  have HKS : Hid (∀ x, Y.grownBy x none → x.cell? ⟨w.heap.size, 0, none⟩ = some (.slice ta tn tc) ∧ x.cell? ⟨w.heap.size, 1, none⟩ = some (.slice na nn nc) ∧ x.cell? ⟨w.heap.size, 2, none⟩ = some (.slice la ln lc) ∧ x.cell? ⟨w.heap.size, 3, none⟩ = some (.int .i64 st) ∧ x.cell? ⟨w.heap.size, 4, none⟩ = some (.slice pa n pc)) := fun x hx => (HPH.out.kept hx).cells
  have HGc : Hid (Y.grownBy Y.drew none) := grown_drewN Y 1
  have HGo : Hid (∀ o, Y.grownBy (Y.alloc o).drew none) := fun o => grown_trans (World.grownBy_alloc Y o none) (grown_drewN _ 1)
  have hm0 : w.heap.size < Y.heap.size := by have := HYS.out; omega
  have hn0 : w.heap.size ≠ Y.heap.size := by omega
  have ho0 : Y.heap.size ≠ w.heap.size := by omega
  clear k0 k1 k2 k3 k4
  go_cut [3] from 5 to 11 (fun v3 wx => ∃ (bu kb pb ub : Nat) (q : Nat → Nat) (c : Nat → Value), v3 = .pointer (some ⟨bu, 0, none⟩) ∧ UsAt w wx #[.slice ta tn tc, .slice na nn nc, .slice la ln lc, .int .i64 st, .slice pa n pc] bu kb pb ub n (tn + nn) L R ra rc V q c 0 0)
  case first =>
    go_region_held3 (fun x => x.cell? ⟨w.heap.size, 0, none⟩ = some (.slice ta tn tc) ∧ x.cell? ⟨w.heap.size, 1, none⟩ = some (.slice na nn nc) ∧ x.cell? ⟨w.heap.size, 2, none⟩ = some (.slice la ln lc) ∧ x.cell? ⟨w.heap.size, 3, none⟩ = some (.int .i64 st) ∧ x.cell? ⟨w.heap.size, 4, none⟩ = some (.slice pa n pc)) (first | exact HKS.out _ HGc.out | exact HKS.out _ (HGo.out _) | exact HKS.out _ (grown_trans HGc.out (World.grownBy_alloc _ _ none)) | go_keep)
      ((first
        | (go_at_call 40; refine Calls.mono (HRO.out _ (grown_trans HYG.out (by with_reducible exact HGc.out))) ?_; rintro e w1 ⟨kb, q, c, rfl, hk1, hV1, hR1, hg1⟩; have HRU : Hid (RuS w w1 kb n (tn + nn) L R ra rc V q c) := ⟨hV1, hR1.base (by { have h7 := HYS.out; have h8 := HGc.out.size; omega })⟩; have HQ1 : Hid ((∀ j, j < n → q j < w1.heap.size) ∧ w.heap.size + 1 < w1.heap.size) := ⟨RuS.lt HRU.out, by { have h7 := HYS.out; have h8 := hg1.size; have h9 := HGc.out.size; omega }⟩; have hm1 : w.heap.size < w1.heap.size := by { have := HQ1.out.2; omega }; have ho1 : w1.heap.size ≠ w.heap.size := (by omega); have hn1 : w.heap.size ≠ w1.heap.size := (by omega); have HGc : Hid (Y.grownBy w1 none) := grown_trans HGc.out hg1; clear hk1 hV1 hR1 hg1)
        | (go_at_call 40; refine Calls.mono (HRO.out _ (grown_trans HYG.out (by with_reducible exact HGo.out _))) ?_; rintro e w1 ⟨kb, q, c, rfl, hk1, hV1, hR1, hg1⟩; have HBOX : Hid (w1.heap[Y.heap.size]? = some (.cells #[.slice none 0 0, .pointer none, .pointer none] 53 (0, 0))) := boxKept (x := (Y.alloc (.cells #[.slice none 0 0, .pointer none, .pointer none] 53)).drew) (heap_alloc_last Y _) hg1; have HRU : Hid (RuS w w1 kb n (tn + nn) L R ra rc V q c) := ⟨hV1, hR1.base (by { have h7 := HYS.out; have h8 := (HGo.out (.cells #[.slice none 0 0, .pointer none, .pointer none] 53)).size; omega })⟩; have HQ1 : Hid ((∀ j, j < n → q j < w1.heap.size) ∧ w.heap.size + 1 < w1.heap.size) := ⟨RuS.lt HRU.out, by { have h7 := HYS.out; have h8 := hg1.size; have h9 := (HGo.out (.cells #[.slice none 0 0, .pointer none, .pointer none] 53)).size; omega }⟩; have hm1 : w.heap.size < w1.heap.size := by { have := HQ1.out.2; omega }; have ho1 : w1.heap.size ≠ w.heap.size := (by omega); have hn1 : w.heap.size ≠ w1.heap.size := (by omega); have HGc : Hid (Y.grownBy w1 none) := grown_trans (HGo.out _) hg1; clear hk1 hV1 hR1 hg1)
        | (go_at_call 41; have HPX := HPS.out; clear HPX; refine Calls.mono (HMO.out _ (grown_trans HYG.out (by with_reducible exact HGc.out))) ?_; rintro e w3 ⟨ub, rfl, hu3, hS3, hg3⟩; (try have HBOX := boxKept HBOX.out hg3); (try have b0 := (box3 HBOX.out).1.1); (try have b1 := (box3 HBOX.out).1.2.1); (try have b2 := (box3 HBOX.out).1.2.2); (try have f0 := (box3 HBOX.out).2.1); (try have f1 := (box3 HBOX.out).2.2.1); (try have f2 := (box3 HBOX.out).2.2.2); have HRU := RuS.kept HRU.out hg3; have HPS : Hid (B.SetM w3 (some ⟨pb, 0, none⟩) (tn + nn) 0) := SetM_kept HPS.out hg3; have HUS : Hid (B.SetM w3 (some ⟨ub, 0, none⟩) (tn + nn) 0) := hS3; have HQ3 : Hid (w2.heap.size ≤ ub) := hu3; have hm3 : w.heap.size < w3.heap.size := by { have := HQ1.out.2; have h6 := HQ2.out.2.2; have h8 := hg3.size; skip; omega }; have ho3 : w3.heap.size ≠ w.heap.size := (by omega); have hn3 : w.heap.size ≠ w3.heap.size := (by omega); have HGc : Hid (Y.grownBy w3 none) := grown_trans HGc.out hg3; clear hu3 hS3 hg3)
        | (go_at_call 41; have HPX := HPS.out; clear HPX; refine Calls.mono (HMO.out _ (grown_trans HYG.out (by with_reducible exact grown_trans HGc.out (World.grownBy_alloc _ _ none)))) ?_; rintro e w3 ⟨ub, rfl, hu3, hS3, hg3⟩; have HBOX : Hid (w3.heap[w2.heap.size]? = some (.cells #[.slice none 0 0, .pointer none, .pointer none] 53 (0, 0))) := boxKept (x := w2.alloc (.cells #[.slice none 0 0, .pointer none, .pointer none] 53)) (heap_alloc_last w2 _) hg3; obtain ⟨⟨b0, b1, b2⟩, f0, f1, f2⟩ := box3 HBOX.out; have HRU := RuS.kept HRU.out (grown_trans (World.grownBy_alloc w2 (.cells #[.slice none 0 0, .pointer none, .pointer none] 53) none) hg3); have HPS : Hid (B.SetM w3 (some ⟨pb, 0, none⟩) (tn + nn) 0) := SetM_kept HPS.out (grown_trans (World.grownBy_alloc w2 (.cells #[.slice none 0 0, .pointer none, .pointer none] 53) none) hg3); have HUS : Hid (B.SetM w3 (some ⟨ub, 0, none⟩) (tn + nn) 0) := hS3; have HQ3 : Hid (w2.heap.size ≤ ub) := by { have h8 := hu3; rw [World.size_alloc] at h8; show _ ≤ _; omega }; have hm3 : w.heap.size < w3.heap.size := by { have := HQ1.out.2; have h6 := HQ2.out.2.2; have h8 := hg3.size; rw [World.size_alloc] at h8; omega }; have ho3 : w3.heap.size ≠ w.heap.size := (by omega); have hn3 : w.heap.size ≠ w3.heap.size := (by omega); have HGc : Hid (Y.grownBy w3 none) := grown_trans HGc.out (grown_trans (World.grownBy_alloc w2 (.cells #[.slice none 0 0, .pointer none, .pointer none] 53) none) hg3); clear hu3 hS3 hg3)
        | (go_at_call 41; refine Calls.mono (HMO.out _ (grown_trans HYG.out (by with_reducible exact HGc.out))) ?_; rintro e w2 ⟨pb, rfl, hp2, hS2, hg2⟩; (try have HBOX := boxKept HBOX.out hg2); have HRU := RuS.kept HRU.out hg2; have HPS : Hid (B.SetM w2 (some ⟨pb, 0, none⟩) (tn + nn) 0) := hS2; have HQ2 : Hid (w1.heap.size ≤ pb ∧ pb < w2.heap.size ∧ w1.heap.size ≤ w2.heap.size) := ⟨hp2, SetM_lt hS2, by { have h8 := hg2.size; skip; omega }⟩; have hm2 : w.heap.size < w2.heap.size := by { have := HQ1.out.2; have h6 := HQ2.out.2.2; omega }; have ho2 : w2.heap.size ≠ w.heap.size := (by omega); have hn2 : w.heap.size ≠ w2.heap.size := (by omega); have HGc : Hid (Y.grownBy w2 none) := grown_trans HGc.out hg2; clear hp2 hS2 hg2)
        | (go_at_call 41; refine Calls.mono (HMO.out _ (grown_trans HYG.out (by with_reducible exact grown_trans HGc.out (World.grownBy_alloc _ _ none)))) ?_; rintro e w2 ⟨pb, rfl, hp2, hS2, hg2⟩; have HBOX : Hid (w2.heap[w1.heap.size]? = some (.cells #[.slice none 0 0, .pointer none, .pointer none] 53 (0, 0))) := boxKept (x := w1.alloc (.cells #[.slice none 0 0, .pointer none, .pointer none] 53)) (heap_alloc_last w1 _) hg2; have HRU := RuS.kept HRU.out (grown_trans (World.grownBy_alloc w1 (.cells #[.slice none 0 0, .pointer none, .pointer none] 53) none) hg2); have HPS : Hid (B.SetM w2 (some ⟨pb, 0, none⟩) (tn + nn) 0) := hS2; have HQ2 : Hid (w1.heap.size ≤ pb ∧ pb < w2.heap.size ∧ w1.heap.size ≤ w2.heap.size) := ⟨by { have h8 := hp2; rw [World.size_alloc] at h8; omega }, SetM_lt hS2, by { have h8 := hg2.size; rw [World.size_alloc] at h8; omega }⟩; have hm2 : w.heap.size < w2.heap.size := by { have := HQ1.out.2; have h6 := HQ2.out.2.2; omega }; have ho2 : w2.heap.size ≠ w.heap.size := (by omega); have hn2 : w.heap.size ≠ w2.heap.size := (by omega); have HGc : Hid (Y.grownBy w2 none) := grown_trans HGc.out (grown_trans (World.grownBy_alloc w1 (.cells #[.slice none 0 0, .pointer none, .pointer none] 53) none) hg2); clear hp2 hS2 hg2)))
    all_goals go_wp2_with fail
    all_goals go_meet
    all_goals first
      | exact ⟨_, kb, pb, ub, q, c, rfl, use_stored HPH.out HRB.out HGc.out HRU.out HQ1.out.1 HPS.out HQ2.out.1 HQ2.out.2.1 HUS.out HQ3.out (by omega) HBOX.out (by have h1 := HQ1.out.2; have h2 := HQ2.out.2.2; have h3 := HYS.out; omega)⟩
      | exact ⟨_, kb, pb, ub, q, c, rfl, use_made HPH.out HRB.out (grown_trans HGc.out (World.grownBy_alloc _ _ none)) (RuS.kept HRU.out (World.grownBy_alloc _ _ none)).out HQ1.out.1 (SetM_kept HPS.out (World.grownBy_alloc _ _ none)) HQ2.out.1 HQ2.out.2.1 (SetM_kept HUS.out (World.grownBy_alloc _ _ none)) HQ3.out (by omega) (heap_alloc_last w3 _)⟩
  case rest =>
    obtain ⟨bu, kb, pb, ub, q, c, rfl, hU⟩ := hcut
    have HU0 : Hid (UsAt w wc #[.slice ta tn tc, .slice na nn nc, .slice la ln lc, .int .i64 st, .slice pa n pc] bu kb pb ub n (tn + nn) L R ra rc V q c 0 0) := hU
    clear hU HKS HGc HGo hm0 hn0 ho0 HPH HRB HRO HMO HY HYG HYS
    obtain ⟨k0, k1, k2, k3, k4⟩ := HU0.out.ph.cells
    go_wp2_with fail
    go_loopg [4, 15] tn (fun gk a i wr => ∃ (k m : Nat), k ≤ tn ∧ gk = tn - k ∧ i = .int .i64 k ∧ (∀ j, m.testBit j = decide (j < k)) ∧ UsAt w wr #[.slice ta tn tc, .slice na nn nc, .slice la ln lc, .int .i64 st, .slice pa n pc] bu kb pb ub n (tn + nn) L R ra rc V q c m 0)
    case atStart => exact ⟨0, 0, Nat.zero_le _, rfl, rfl, by simp, HU0.out⟩
    case round =>
      obtain ⟨k, m, hk, hgk, rfl, hm, hU⟩ := hrel
      have HGK : Hid (gk = tn - k) := hgk
      have HMB : Hid (∀ j, m.testBit j = decide (j < k)) := hm
      have HU1 : Hid (UsAt w wr #[.slice ta tn tc, .slice na nn nc, .slice la ln lc, .int .i64 st, .slice pa n pc] bu kb pb ub n (tn + nn) L R ra rc V q c m 0) := hU
      clear hgk hm hU HU0 k0 k1 k2 k3 k4
      obtain ⟨⟨b0, b1, b2⟩, f0, f1, f2⟩ := box3 HU1.out.box
      by_cases hlt : k < tn
      · have HAD : Hid (Calls Try.prog 42 #[.pointer (some ⟨pb, 0, none⟩), .slice (some ⟨wr.heap.size, 0, none⟩) 1 1] (wr.alloc (.cells #[.int .i64 (k : Int)] 3)) fun e w' => e = .returned (.int .i64 ((B.addS (tn + nn) m [(k : Int)]).2 : Nat)) ∧ B.SetM w' (some ⟨pb, 0, none⟩) (tn + nn) (B.addS (tn + nn) m [(k : Int)]).1 ∧ (wr.alloc (.cells #[.int .i64 (k : Int)] 3)).grownBy w' (some pb)) := add_one pb (tn + nn) m wr.heap.size (k : Int) _ (SetM_kept HU1.out.prod (World.grownBy_alloc _ _ none)) (by have := SetM_lt HU1.out.prod; omega) (new_cell wr _ _)
        have hk0 : (k : Int) < (tn : Int) := by omega
        have hkn : decide (k < tn) = true := decide_eq_true hlt
        go_wp2_with fail
        refine Calls.mono HAD.out ?_
        rintro e w3 ⟨rfl, hS3, hg3⟩
        have HU2 : Hid (UsAt w w3 #[.slice ta tn tc, .slice na nn nc, .slice la ln lc, .int .i64 st, .slice pa n pc] bu kb pb ub n (tn + nn) L R ra rc V q c (B.addS (tn + nn) m [(k : Int)]).1 0) := (HU1.out.kept (World.grownBy_alloc _ _ none)).setP hS3 hg3
        have HMB2 : Hid (∀ j, (B.addS (tn + nn) m [(k : Int)]).1.testBit j = decide (j < k + 1)) := fun j => by
          rw [addS_bit, HMB.out j]
          by_cases e : j = k
          · subst e
            have : j < tn + nn := by omega
            simp [this]
          · have e2 : ¬ (j : Int) = (k : Int) := by omega
            by_cases h9 : j < k
            · have : j < k + 1 := by omega
              simp [h9, this]
            · have : ¬ j < k + 1 := by omega
              simp [h9, this, e2]
        generalize (B.addS (tn + nn) m [(k : Int)]).1 = m2 at *
        generalize (B.addS (tn + nn) m [(k : Int)]).2 = z2 at *
        clear hS3 hg3 b0 b1 b2 f0 f1 f2
        go_wp2_with fail
        go_roundg (tn - (k + 1))
        case measure => have := HGK.out; omega
        case rel => exact ⟨k + 1, m2, by omega, rfl, by go_num, HMB2.out, HU2.out⟩
      · have hkn : tn = k := by omega
        subst hkn
        have HB0 : Hid (bitsN tn nn m (fun _ => false)) := fun j => by rw [HMB.out j]; simp
        clear HGK HMB
        go_wp2_with fail
        refine Calls.mono (useOf_first HM.out HU1.out HB0.out) ?_
        rintro e w4 ⟨rfl, f, m4, hU4, hB4, hF4⟩
        have HU4 : Hid (UsAt w w4 #[.slice ta tn tc, .slice na nn nc, .slice la ln lc, .int .i64 st, .slice pa n pc] bu kb pb ub n (tn + nn) L R ra rc V q c m4 0) := hU4
        have HB4 : Hid (bitsN tn nn m4 f) := hB4
        have HF4 : Hid (Fix (stM tn L R) (chM tn L R) n (fun _ => false) f) := hF4
        clear hU4 hB4 hF4 HU1 HB0 b0 b1 b2 f0 f1 f2
        obtain ⟨⟨b0, b1, b2⟩, f0, f1, f2⟩ := box3 HU4.out.box
        obtain ⟨k0, k1, k2, k3, k4⟩ := HU4.out.ph.cells
        obtain ⟨p, hp⟩ : ∃ p, p = f (st - tn).toNat := ⟨_, rfl⟩
        have HPP : Hid (p = f (st - tn).toNat) := hp
        have HHS : Hid (Calls Try.prog 33 #[.pointer (some ⟨pb, 0, none⟩), .int .i64 st] w4 fun e w' => e = .returned (.bool p) ∧ w4.grownBy w' none) := (B.has_any (some ⟨pb, 0, none⟩) (tn + nn) m4 st w4 HU4.out.prod).mono fun e w' ⟨he, j, hj⟩ => ⟨by
          have h1 := HM.out.start
          have e1 : B.hasB m4 st = p := by
            unfold B.hasB
            rw [HB4.out st.toNat, hp]
            have a1 : decide ((0 : Int) ≤ st) = true := decide_eq_true (by omega)
            have a2 : decide (st.toNat < tn) = false := decide_eq_false (by omega)
            have a3 : decide (st.toNat < tn + nn) = true := decide_eq_true (by omega)
            have a4 : st.toNat - tn = (st - tn).toNat := by omega
            rw [a1, a2, a3, a4]; simp
          rw [← e1]; exact he, by rw [hj]; exact grown_drewN _ _⟩
        clear hp
        go_wp2_with fail
        refine Calls.mono HHS.out ?_
        rintro e w5 ⟨rfl, hg5⟩
        have HU5 : Hid (UsAt w w5 #[.slice ta tn tc, .slice na nn nc, .slice la ln lc, .int .i64 st, .slice pa n pc] bu kb pb ub n (tn + nn) L R ra rc V q c m4 0) := HU4.out.kept hg5
        clear hg5 HU4 HHS b0 b1 b2 f0 f1 f2 k0 k1 k2 k3 k4
        obtain ⟨⟨b0, b1, b2⟩, f0, f1, f2⟩ := box3 HU5.out.box
        obtain ⟨k0, k1, k2, k3, k4⟩ := HU5.out.ph.cells
        cases p with
        | false =>
          have HU6 : Hid (UsAt w w5 #[.slice ta tn tc, .slice na nn nc, .slice la ln lc, .int .i64 st, .slice pa n pc] bu kb pb ub n (tn + nn) L R ra rc V q c m4 (startU (if cl = true then tn else st.toNat) false)) := HU5.out
          go_wp2_with fail
          refine Calls.mono (useOf_second HM.out HU6.out HB4.out) ?_
          rintro e w7 ⟨rfl, u7, hU7, hF7⟩
          have HU7 : Hid (UsAt w w7 #[.slice ta tn tc, .slice na nn nc, .slice la ln lc, .int .i64 st, .slice pa n pc] bu kb pb ub n (tn + nn) L R ra rc V q c m4 u7) := hU7
          have HF7 : Hid (Fix (stU tn nn L R f) (fun k u => decide (0 < adU tn nn L R f k u)) n (startU (if cl = true then tn else st.toNat) false) u7) := hF7
          clear hU7 hF7 HU6 HU5 b0 b1 b2 f0 f1 f2 k0 k1 k2 k3 k4
          obtain ⟨⟨b0, b1, b2⟩, f0, f1, f2⟩ := box3 HU7.out.box
          obtain ⟨⟨r0, r1, r2⟩, g0, g1, g2⟩ := box3 HU7.out.res
          go_wp2_with fail
          refine bodyPost_ret (v := .agg #[.slice (some ⟨kb, 0, none⟩) n n, .pointer (some ⟨pb, 0, none⟩), .pointer (some ⟨ub, 0, none⟩)]) (results_cell_row (fr := (0, 0)) rfl _ _ (w.heap.size + 1) 53 #[.slice (some ⟨kb, 0, none⟩) n n, .pointer (some ⟨pb, 0, none⟩), .pointer (some ⟨ub, 0, none⟩)] _ rfl (by rw [heap_setCell_same _ _ _ _ _ _ (heap_setCell_same _ _ _ _ _ _ (heap_setCell_same _ _ _ _ _ _ HU7.out.res))]; rfl) Try.underlying53 rfl infoUse) rfl ⟨kb, pb, ub, q, c, m4, u7, f, rfl, UsAt.told HU7.out, HB4.out, HF4.out, ?_, ?_⟩
          · rw [← HPP.out]; exact HF7.out
          · exact UsAt.grownTold HU7.out
        | true =>
          have HKS : Hid (∀ x, w5.grownBy x none → x.cell? ⟨bu, 2, none⟩ = some (.pointer (some ⟨ub, 0, none⟩)) ∧ x.cell? ⟨w.heap.size, 0, none⟩ = some (.slice ta tn tc) ∧ x.cell? ⟨w.heap.size, 1, none⟩ = some (.slice na nn nc) ∧ x.cell? ⟨w.heap.size, 2, none⟩ = some (.slice la ln lc) ∧ x.cell? ⟨w.heap.size, 3, none⟩ = some (.int .i64 st) ∧ x.cell? ⟨w.heap.size, 4, none⟩ = some (.slice pa n pc)) := fun x hx => ⟨hx.cell b2 (by simp), hx.cell k0 (by simp), hx.cell k1 (by simp), hx.cell k2 (by simp), hx.cell k3 (by simp), hx.cell k4 (by simp)⟩
          have HGc : Hid (w5.grownBy w5.drew none) := grown_drewN w5 1
          have HSTA : Hid ((B.addS (tn + nn) 0 [rt]).1 = startU (if cl = true then tn else st.toNat) true) := by
            show _ = _
            rw [HRV.out.1]
            apply Nat.eq_of_testBit_eq
            intro i
            rw [addS_bit]
            unfold startU
            rw [if_pos rfl, Nat.testBit_two_pow]
            have h9 := HRV.out.2
            generalize (if cl = true then tn else st.toNat : Nat) = r9 at *
            by_cases e : r9 = i
            · subst e; simp [h9]
            · have e2 : ¬ i = r9 := fun h => e h.symm
              simp [e]
              omega
          go_wp2_with fail
          go_cut [] from 34 to 40 (fun wx => UsAt w wx #[.slice ta tn tc, .slice na nn nc, .slice la ln lc, .int .i64 st, .slice pa n pc] bu kb pb ub n (tn + nn) L R ra rc V q c m4 (startU (if cl = true then tn else st.toNat) true))
          case first =>
            go_region_held3 (fun x => x.cell? ⟨bu, 2, none⟩ = some (.pointer (some ⟨ub, 0, none⟩)) ∧ x.cell? ⟨w.heap.size, 0, none⟩ = some (.slice ta tn tc) ∧ x.cell? ⟨w.heap.size, 1, none⟩ = some (.slice na nn nc) ∧ x.cell? ⟨w.heap.size, 2, none⟩ = some (.slice la ln lc) ∧ x.cell? ⟨w.heap.size, 3, none⟩ = some (.int .i64 st) ∧ x.cell? ⟨w.heap.size, 4, none⟩ = some (.slice pa n pc)) (first | exact HKS.out _ HGc.out | exact HKS.out _ (grown_trans HGc.out (World.grownBy_alloc _ _ none)) | exact HKX.out | go_keep)
              ((first
                | (go_at_call 46; refine calls_at w5.drew (by with_reducible rfl) ?_; refine Calls.mono (HRT.out _ (grown_trans HU5.out.ph.grown HGc.out)) ?_; rintro e w6 ⟨rfl, hg6⟩; have HGc : Hid (w5.grownBy w6 none) := grown_trans HGc.out hg6; clear hg6)
                | (go_at_call 42; refine calls_at (w6.alloc (.cells #[.int .i64 rt] 3)) (by with_reducible rfl) ?_; refine Calls.mono (add_one ub (tn + nn) 0 w6.heap.size rt (w6.alloc (.cells #[.int .i64 rt] 3)) (SetM_kept HU5.out.used (grown_trans HGc.out (World.grownBy_alloc _ _ none))) (by { have h1 := SetM_lt HU5.out.used; have h2 := HGc.out.size; omega }) (new_cell w6 _ _)) ?_; rintro e w8 ⟨rfl, hS8, hg8⟩; have HU8 : Hid (UsAt w w8 #[.slice ta tn tc, .slice na nn nc, .slice la ln lc, .int .i64 st, .slice pa n pc] bu kb pb ub n (tn + nn) L R ra rc V q c m4 ((B.addS (tn + nn) 0 [rt]).1)) := (HU5.out.kept (grown_trans HGc.out (World.grownBy_alloc _ _ none))).setU hS8 hg8; have HKX : Hid (w8.cell? ⟨bu, 2, none⟩ = some (.pointer (some ⟨ub, 0, none⟩)) ∧ w8.cell? ⟨w.heap.size, 0, none⟩ = some (.slice ta tn tc) ∧ w8.cell? ⟨w.heap.size, 1, none⟩ = some (.slice na nn nc) ∧ w8.cell? ⟨w.heap.size, 2, none⟩ = some (.slice la ln lc) ∧ w8.cell? ⟨w.heap.size, 3, none⟩ = some (.int .i64 st) ∧ w8.cell? ⟨w.heap.size, 4, none⟩ = some (.slice pa n pc)) := ⟨(box3 HU8.out.box).1.2.2, HU8.out.ph.cells⟩; clear hS8 hg8)))
            all_goals go_wp2_with fail
            all_goals go_meet
            all_goals exact HSTA.out ▸ HU8.out
          case rest =>
          have HU6 : Hid (UsAt w wc #[.slice ta tn tc, .slice na nn nc, .slice la ln lc, .int .i64 st, .slice pa n pc] bu kb pb ub n (tn + nn) L R ra rc V q c m4 (startU (if cl = true then tn else st.toNat) true)) := hcut
          clear hcut HU5 HKS HGc b0 b1 b2 f0 f1 f2 k0 k1 k2 k3 k4
          obtain ⟨⟨b0, b1, b2⟩, f0, f1, f2⟩ := box3 HU6.out.box
          obtain ⟨k0, k1, k2, k3, k4⟩ := HU6.out.ph.cells
          have HU5 : Hid True := trivial
          go_wp2_with fail
          refine Calls.mono (useOf_second HM.out HU6.out HB4.out) ?_
          rintro e w7 ⟨rfl, u7, hU7, hF7⟩
          have HU7 : Hid (UsAt w w7 #[.slice ta tn tc, .slice na nn nc, .slice la ln lc, .int .i64 st, .slice pa n pc] bu kb pb ub n (tn + nn) L R ra rc V q c m4 u7) := hU7
          have HF7 : Hid (Fix (stU tn nn L R f) (fun k u => decide (0 < adU tn nn L R f k u)) n (startU (if cl = true then tn else st.toNat) true) u7) := hF7
          clear hU7 hF7 HU6 HU5 b0 b1 b2 f0 f1 f2 k0 k1 k2 k3 k4
          obtain ⟨⟨b0, b1, b2⟩, f0, f1, f2⟩ := box3 HU7.out.box
          obtain ⟨⟨r0, r1, r2⟩, g0, g1, g2⟩ := box3 HU7.out.res
          go_wp2_with fail
          refine bodyPost_ret (v := .agg #[.slice (some ⟨kb, 0, none⟩) n n, .pointer (some ⟨pb, 0, none⟩), .pointer (some ⟨ub, 0, none⟩)]) (results_cell_row (fr := (0, 0)) rfl _ _ (w.heap.size + 1) 53 #[.slice (some ⟨kb, 0, none⟩) n n, .pointer (some ⟨pb, 0, none⟩), .pointer (some ⟨ub, 0, none⟩)] _ rfl (by rw [heap_setCell_same _ _ _ _ _ _ (heap_setCell_same _ _ _ _ _ _ (heap_setCell_same _ _ _ _ _ _ HU7.out.res))]; rfl) Try.underlying53 rfl infoUse) rfl ⟨kb, pb, ub, q, c, m4, u7, f, rfl, UsAt.told HU7.out, HB4.out, HF4.out, ?_, ?_⟩
          · rw [← HPP.out]; exact HF7.out
          · exact UsAt.grownTold HU7.out

end Go.Proofs.Ytljlkmiaemkokaa

/-
  reach: Productive and Useful.
-/
namespace Go.Proofs.Ytljlkmiaemkokaa
open Go.RowKit Go.Maps Go.Shelf

attribute [local go_sem] Oper.semAt_some

theorem BoolAt.ext {w : World} {k n : Nat} {f g : Nat → Bool} (h : BoolAt w k n f) (e : ∀ i, i < n → f i = g i) : BoolAt w k n g := by
  unfold BoolAt boolsL at *
  rw [h, List.map_congr_left fun i hi => by rw [e i (by simpa using hi)]]

theorem field_use1 (x : World) (v0 v1 v2 : Value) : (Instr.field 53 (.agg #[v0, v1, v2]) 1).run Try.prog x = .ok (.agg #[v1]) x := by
  cases hq : Try.prog.info? 51 with
  | none => have := infoMarks; rw [hq] at this; simp at this
  | some i =>
    have hs : i.size = 1 := by have := infoMarks; rw [hq] at this; simpa using this
    simp [Instr.field, underlying, Try.underlying53, part, asAgg, sizeOf, typeInfo, hq, hs]
theorem field_use2 (x : World) (v0 v1 v2 : Value) : (Instr.field 53 (.agg #[v0, v1, v2]) 2).run Try.prog x = .ok (.agg #[v2]) x := by
  cases hq : Try.prog.info? 51 with
  | none => have := infoMarks; rw [hq] at this; simp at this
  | some i =>
    have hs : i.size = 1 := by have := infoMarks; rw [hq] at this; simpa using this
    simp [Instr.field, underlying, Try.underlying53, part, asAgg, sizeOf, typeInfo, hq, hs]

/-- The answer of Productive. -/
def ProdTold (tn nn n : Nat) (L : Nat → Int) (R : Nat → List Int) (w : World) (e : Ending) (y : World) : Prop :=
  ∃ (k : Nat) (f : Nat → Bool), e = .returned (.tuple #[.slice (some ⟨k, 0, none⟩) nn nn, .int .i64 0]) ∧ w.heap.size ≤ k ∧ BoolAt y k nn f ∧ Fix (stM tn L R) (chM tn L R) n (fun _ => false) f ∧ w.grownBy y none
/-- The answer of Useful. -/
def UsefulTold (tn nn n : Nat) (st : Int) (L : Nat → Int) (R : Nat → List Int) (cl : Bool) (w : World) (e : Ending) (y : World) : Prop :=
  ∃ (k u : Nat) (f : Nat → Bool), e = .returned (.tuple #[.slice (some ⟨k, 0, none⟩) nn nn, .int .i64 0]) ∧ w.heap.size ≤ k ∧ BoolAt y k nn (fun i => u.testBit (tn + i)) ∧ Fix (stM tn L R) (chM tn L R) n (fun _ => false) f ∧ Fix (stU tn nn L R f) (fun k u => decide (0 < adU tn nn L R f k u)) n (startU (if cl = true then tn else st.toNat) (f (st - tn).toNat)) u ∧ w.grownBy y none

section
variable (ta na la pa : Option Addr) (tc nc lc pc : Nat) (ts : List (ByteArray × Int)) (ns : List ByteArray) (lv : List Int) (n : Nat) (L : Nat → Int) (R : Nat → List Int) (ra : Nat → Option Addr) (rc : Nat → Nat) (V : Nat → Int) (st : Int) (w : World) (tn nn ln : Nat) (hlen : ts.length = tn ∧ ns.length = nn ∧ lv.length = ln) (hG : GAt w ta na la pa tc nc lc pc ts ns lv n L R ra rc V)
include hlen hG

set_option maxRecDepth 100000 in
set_option maxHeartbeats 2000000 in
theorem productive_ok (cl : Bool) (hcl : cl = true ↔ closedOK ts ns lv st n L R V) (hv : cl = false → validOK ts ns lv st n L R V) :
    Calls Try.prog 9 #[.agg #[.slice ta tn tc, .slice na nn nc, .slice la ln lc, .int .i64 st, .slice pa n pc]] w fun e y => ProdTold tn nn n L R w e y := by
  have hM : MayOK tn nn n st L R cl := by
    obtain ⟨rfl, rfl, rfl⟩ := hlen
    cases cl with
    | true => exact mayOK_closed (hcl.1 rfl)
    | false => exact mayOK_valid (hv rfl)
  have hz : tn + nn ≤ 1024 := by have := hM.tmax; have := hM.nmax; omega
  have HMB : Hid (∀ X, w.grownBy X none → Calls Try.prog 28 #[.agg #[.slice ta tn tc, .slice na nn nc, .slice la ln lc, .int .i64 st, .slice pa n pc]] X fun e w' => e = .returned (.bool true) ∧ X.grownBy w' none) := fun X hX => emayBe_any ta na la pa tc nc lc pc ts ns lv n L R ra rc V st X tn nn ln hlen (hG.kept hX) true (by
    refine ⟨fun _ => ?_, fun _ => rfl⟩
    cases cl with
    | true => exact .inr (hcl.1 rfl)
    | false => exact .inl (hv rfl))
  have HUO : Hid (∀ X, w.grownBy X none → Calls Try.prog 29 #[.agg #[.slice ta tn tc, .slice na nn nc, .slice la ln lc, .int .i64 st, .slice pa n pc]] X fun e y => UseTold tn nn n st L R ra rc V cl X e y) := fun X hX => useOf_any ta na la pa tc nc lc pc ts ns lv n L R ra rc V st X tn nn ln hlen (hG.kept hX) cl hcl hM
  have HX0 : Hid (PhAt w (w.alloc (.cells #[.slice ta tn tc, .slice na nn nc, .slice la ln lc, .int .i64 st, .slice pa n pc] 27)) w.heap.size #[.slice ta tn tc, .slice na nn nc, .slice la ln lc, .int .i64 st, .slice pa n pc]) := ⟨World.grownBy_alloc _ _ none, heap_alloc_last w _⟩
  clear hG hlen hcl hv hM
  have hfd := field_use1
  go_enter Try.func9, Try.ntmps9
  go_wp2_with fail
  refine Calls.mono (HMB.out _ HX0.out.grown) ?_
  rintro e w1 ⟨rfl, hg1⟩
  have HX1 : Hid (PhAt w w1 w.heap.size #[.slice ta tn tc, .slice na nn nc, .slice la ln lc, .int .i64 st, .slice pa n pc]) := HX0.out.kept hg1
  clear hg1 HX0
  have HKS : Hid (∀ x, w1.grownBy x none → x.cell? ⟨w.heap.size, 0, none⟩ = some (.slice ta tn tc) ∧ x.cell? ⟨w.heap.size, 1, none⟩ = some (.slice na nn nc) ∧ x.cell? ⟨w.heap.size, 2, none⟩ = some (.slice la ln lc) ∧ x.cell? ⟨w.heap.size, 3, none⟩ = some (.int .i64 st) ∧ x.cell? ⟨w.heap.size, 4, none⟩ = some (.slice pa n pc)) := fun x hx => (HX1.out.kept hx).cells
  have HGc : Hid (w1.grownBy w1.drew none) := grown_drewN w1 1
  obtain ⟨k0, k1, k2, k3, k4⟩ := HX1.out.cells
  go_wp2_with fail
  go_region_held3 (fun x => x.cell? ⟨w.heap.size, 0, none⟩ = some (.slice ta tn tc) ∧ x.cell? ⟨w.heap.size, 1, none⟩ = some (.slice na nn nc) ∧ x.cell? ⟨w.heap.size, 2, none⟩ = some (.slice la ln lc) ∧ x.cell? ⟨w.heap.size, 3, none⟩ = some (.int .i64 st) ∧ x.cell? ⟨w.heap.size, 4, none⟩ = some (.slice pa n pc)) (first | exact HKS.out _ HGc.out | go_keep)
    ((first
      | (go_at_call 29; refine calls_at w1.drew (by with_reducible rfl) ?_; refine Calls.mono (HUO.out _ (grown_trans HX1.out.grown HGc.out)) ?_; rintro e w2 ⟨kb, pb, ub, q, c, m, u, f, rfl, hU2, hB2, hF2, hD2, hg2⟩; have HU2 : Hid (B.SetM w2 (some ⟨pb, 0, none⟩) (tn + nn) m ∧ bitsN tn nn m f ∧ Fix (stM tn L R) (chM tn L R) n (fun _ => false) f) := ⟨hU2.prod, hB2, hF2⟩; have HGc : Hid (w1.grownBy w2 none) := grown_trans HGc.out hg2; clear hU2 hB2 hF2 hD2 hg2)
      | (go_at_call 30; refine calls_at w2 (by with_reducible rfl) ?_; refine Calls.mono (ofNons_any ta na la pa tn nn ln n tc nc lc pc pb m st w2 HU2.out.1 hz) ?_; rintro e w3 ⟨k3, rfl, hk3, hB3, hg3⟩; have HB3 : Hid (BoolAt w3 k3 nn (toldTo tn m nn) ∧ w2.heap.size ≤ k3) := ⟨hB3, hk3⟩; have HGd : Hid (w1.grownBy w2 none) := HGc.out; have HGc : Hid (w1.grownBy w3 none) := grown_trans HGc.out hg3; clear hB3 hk3 hg3)))
  all_goals go_wp2_with fail
  all_goals go_ret2
  all_goals exact ⟨k3, f, rfl, by have h1 := HX1.out.grown.size; have h2 := HGd.out.size; have h3 := HB3.out.2; omega, BoolAt.ext HB3.out.1 (fun i hi => by
    have h1 := HU2.out.2.1 (tn + i)
    have a2 : decide (tn + i < tn) = false := decide_eq_false (by omega)
    have a3 : decide (tn + i < tn + nn) = true := decide_eq_true (by omega)
    have a4 : tn + i - tn = i := by omega
    rw [a2, a3, a4] at h1
    unfold toldTo
    rw [decide_eq_true hi, h1]; simp), HU2.out.2.2, grown_trans HX1.out.grown HGc.out⟩

set_option maxRecDepth 100000 in
set_option maxHeartbeats 2000000 in
theorem useful_ok (cl : Bool) (hcl : cl = true ↔ closedOK ts ns lv st n L R V) (hv : cl = false → validOK ts ns lv st n L R V) :
    Calls Try.prog 10 #[.agg #[.slice ta tn tc, .slice na nn nc, .slice la ln lc, .int .i64 st, .slice pa n pc]] w fun e y => UsefulTold tn nn n st L R cl w e y := by
  have hM : MayOK tn nn n st L R cl := by
    obtain ⟨rfl, rfl, rfl⟩ := hlen
    cases cl with
    | true => exact mayOK_closed (hcl.1 rfl)
    | false => exact mayOK_valid (hv rfl)
  have hz : tn + nn ≤ 1024 := by have := hM.tmax; have := hM.nmax; omega
  have HMB : Hid (∀ X, w.grownBy X none → Calls Try.prog 28 #[.agg #[.slice ta tn tc, .slice na nn nc, .slice la ln lc, .int .i64 st, .slice pa n pc]] X fun e w' => e = .returned (.bool true) ∧ X.grownBy w' none) := fun X hX => emayBe_any ta na la pa tc nc lc pc ts ns lv n L R ra rc V st X tn nn ln hlen (hG.kept hX) true (by
    refine ⟨fun _ => ?_, fun _ => rfl⟩
    cases cl with
    | true => exact .inr (hcl.1 rfl)
    | false => exact .inl (hv rfl))
  have HUO : Hid (∀ X, w.grownBy X none → Calls Try.prog 29 #[.agg #[.slice ta tn tc, .slice na nn nc, .slice la ln lc, .int .i64 st, .slice pa n pc]] X fun e y => UseTold tn nn n st L R ra rc V cl X e y) := fun X hX => useOf_any ta na la pa tc nc lc pc ts ns lv n L R ra rc V st X tn nn ln hlen (hG.kept hX) cl hcl hM
  have HX0 : Hid (PhAt w (w.alloc (.cells #[.slice ta tn tc, .slice na nn nc, .slice la ln lc, .int .i64 st, .slice pa n pc] 27)) w.heap.size #[.slice ta tn tc, .slice na nn nc, .slice la ln lc, .int .i64 st, .slice pa n pc]) := ⟨World.grownBy_alloc _ _ none, heap_alloc_last w _⟩
  clear hG hlen hcl hv hM
  have hfd := field_use2
  go_enter Try.func10, Try.ntmps10
  go_wp2_with fail
  refine Calls.mono (HMB.out _ HX0.out.grown) ?_
  rintro e w1 ⟨rfl, hg1⟩
  have HX1 : Hid (PhAt w w1 w.heap.size #[.slice ta tn tc, .slice na nn nc, .slice la ln lc, .int .i64 st, .slice pa n pc]) := HX0.out.kept hg1
  clear hg1 HX0
  have HKS : Hid (∀ x, w1.grownBy x none → x.cell? ⟨w.heap.size, 0, none⟩ = some (.slice ta tn tc) ∧ x.cell? ⟨w.heap.size, 1, none⟩ = some (.slice na nn nc) ∧ x.cell? ⟨w.heap.size, 2, none⟩ = some (.slice la ln lc) ∧ x.cell? ⟨w.heap.size, 3, none⟩ = some (.int .i64 st) ∧ x.cell? ⟨w.heap.size, 4, none⟩ = some (.slice pa n pc)) := fun x hx => (HX1.out.kept hx).cells
  have HGc : Hid (w1.grownBy w1.drew none) := grown_drewN w1 1
  obtain ⟨k0, k1, k2, k3, k4⟩ := HX1.out.cells
  go_wp2_with fail
  go_region_held3 (fun x => x.cell? ⟨w.heap.size, 0, none⟩ = some (.slice ta tn tc) ∧ x.cell? ⟨w.heap.size, 1, none⟩ = some (.slice na nn nc) ∧ x.cell? ⟨w.heap.size, 2, none⟩ = some (.slice la ln lc) ∧ x.cell? ⟨w.heap.size, 3, none⟩ = some (.int .i64 st) ∧ x.cell? ⟨w.heap.size, 4, none⟩ = some (.slice pa n pc)) (first | exact HKS.out _ HGc.out | go_keep)
    ((first
      | (go_at_call 29; refine calls_at w1.drew (by with_reducible rfl) ?_; refine Calls.mono (HUO.out _ (grown_trans HX1.out.grown HGc.out)) ?_; rintro e w2 ⟨kb, pb, ub, q, c, m, u, f, rfl, hU2, hB2, hF2, hD2, hg2⟩; have HU2 : Hid (B.SetM w2 (some ⟨ub, 0, none⟩) (tn + nn) u ∧ Fix (stM tn L R) (chM tn L R) n (fun _ => false) f ∧ Fix (stU tn nn L R f) (fun k u => decide (0 < adU tn nn L R f k u)) n (startU (if cl = true then tn else st.toNat) (f (st - tn).toNat)) u) := ⟨hU2.used, hF2, hD2⟩; have HGc : Hid (w1.grownBy w2 none) := grown_trans HGc.out hg2; clear hU2 hB2 hF2 hD2 hg2)
      | (go_at_call 30; refine calls_at w2 (by with_reducible rfl) ?_; refine Calls.mono (ofNons_any ta na la pa tn nn ln n tc nc lc pc ub u st w2 HU2.out.1 hz) ?_; rintro e w3 ⟨k3, rfl, hk3, hB3, hg3⟩; have HB3 : Hid (BoolAt w3 k3 nn (toldTo tn u nn) ∧ w2.heap.size ≤ k3) := ⟨hB3, hk3⟩; have HGd : Hid (w1.grownBy w2 none) := HGc.out; have HGc : Hid (w1.grownBy w3 none) := grown_trans HGc.out hg3; clear hB3 hk3 hg3)))
  all_goals go_wp2_with fail
  all_goals go_ret2
  all_goals exact ⟨k3, u, f, rfl, by have h1 := HX1.out.grown.size; have h2 := HGd.out.size; have h3 := HB3.out.2; omega, BoolAt.ext HB3.out.1 (fun i hi => by
    unfold toldTo
    rw [decide_eq_true hi]; simp), HU2.out.2.1, HU2.out.2.2, grown_trans HX1.out.grown HGc.out⟩

set_option maxRecDepth 100000 in
theorem productive_bad (h1 : ¬ validOK ts ns lv st n L R V) (h2 : ¬ closedOK ts ns lv st n L R V) :
    Calls Try.prog 9 #[.agg #[.slice ta tn tc, .slice na nn nc, .slice la ln lc, .int .i64 st, .slice pa n pc]] w fun e y => e = .returned (.tuple #[.slice none 0 0, .int .i64 1]) ∧ w.grownBy y none := by
  have HMB : Hid (∀ X, w.grownBy X none → Calls Try.prog 28 #[.agg #[.slice ta tn tc, .slice na nn nc, .slice la ln lc, .int .i64 st, .slice pa n pc]] X fun e w' => e = .returned (.bool false) ∧ X.grownBy w' none) := fun X hX => emayBe_any ta na la pa tc nc lc pc ts ns lv n L R ra rc V st X tn nn ln hlen (hG.kept hX) false (by simp [h1, h2])
  have HG0 : Hid (w.grownBy (w.alloc (.cells #[.slice ta tn tc, .slice na nn nc, .slice la ln lc, .int .i64 st, .slice pa n pc] 27)) none) := World.grownBy_alloc _ _ none
  clear hG hlen h1 h2
  go_enter Try.func9, Try.ntmps9
  go_wp2_with fail
  refine Calls.mono (HMB.out _ HG0.out) ?_
  rintro e w1 ⟨rfl, hg1⟩
  have HG1 : Hid (w.grownBy w1 none) := grown_trans HG0.out hg1
  clear hg1 HG0
  go_wp2_with fail
  go_ret2
  exact ⟨rfl, HG1.out⟩

set_option maxRecDepth 100000 in
theorem useful_bad (h1 : ¬ validOK ts ns lv st n L R V) (h2 : ¬ closedOK ts ns lv st n L R V) :
    Calls Try.prog 10 #[.agg #[.slice ta tn tc, .slice na nn nc, .slice la ln lc, .int .i64 st, .slice pa n pc]] w fun e y => e = .returned (.tuple #[.slice none 0 0, .int .i64 1]) ∧ w.grownBy y none := by
  have HMB : Hid (∀ X, w.grownBy X none → Calls Try.prog 28 #[.agg #[.slice ta tn tc, .slice na nn nc, .slice la ln lc, .int .i64 st, .slice pa n pc]] X fun e w' => e = .returned (.bool false) ∧ X.grownBy w' none) := fun X hX => emayBe_any ta na la pa tc nc lc pc ts ns lv n L R ra rc V st X tn nn ln hlen (hG.kept hX) false (by simp [h1, h2])
  have HG0 : Hid (w.grownBy (w.alloc (.cells #[.slice ta tn tc, .slice na nn nc, .slice la ln lc, .int .i64 st, .slice pa n pc] 27)) none) := World.grownBy_alloc _ _ none
  clear hG hlen h1 h2
  go_enter Try.func10, Try.ntmps10
  go_wp2_with fail
  refine Calls.mono (HMB.out _ HG0.out) ?_
  rintro e w1 ⟨rfl, hg1⟩
  have HG1 : Hid (w.grownBy w1 none) := grown_trans HG0.out hg1
  clear hg1 HG0
  go_wp2_with fail
  go_ret2
  exact ⟨rfl, HG1.out⟩
end

end Go.Proofs.Ytljlkmiaemkokaa
