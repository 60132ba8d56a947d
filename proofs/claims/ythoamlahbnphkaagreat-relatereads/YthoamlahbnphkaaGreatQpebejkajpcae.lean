import Derived.Test.YthoamlahbnphkaaGreatQkcalnlgacano

/-
  relate: automatonOf, where there is an automaton.
-/
namespace Go.Proofs.YthoamlahbnphkaaGreat.J
open Go.RowKit Go.Maps Go.Shelf

attribute [local go_sem] Oper.semAt_some

theorem infoInts : (Tryz.prog.info? 24).map (fun i => (i.zero, i.size, i.bytes)) = some (some (.slice none 0 0), 1, 24) := by kernel_rfl
theorem mk_ints (u : World) {i0 : TypeInfo} (hi0 : Tryz.prog.info? 3 = some i0) (hz0 : i0.zero = some (.int .i64 0)) (hz1 : i0.size = 1) (hz2 : i0.bytes = 8) {S : Nat} (hS : S ≤ 130) : (Instr.makeSlice 24 (.int .i64 (S : Int)) (.int .i64 (S : Int))).run Tryz.prog u = .ok (.slice (some ⟨u.heap.size, 0, none⟩) S S) (u.alloc (.cells (madeCells #[.int .i64 0] S) 3)) := by
  have h := run_make (P := Tryz.prog) u 24 3 i0 (.int .i64 0) Tryz.underlying24 hi0 hz0 .i64 .i64 (S : Int) (S : Int) (by omega) (Int.le_refl _) (by rw [hz2]; omega) (by omega)
  rw [h]
  simp [hz1, Value.cells]
theorem mk_val {Y : World} {b S : Nat} (h : Y.heap[b]? = some (.cells (madeCells #[.int .i64 0] S) 3 (0, 0))) : ValAt Y b S 3 (fun _ => .int .i64 0) := by
  unfold ValAt
  rw [h]
  congr 2
  apply Array.ext'
  rw [toList_madeCells_one, List.map_const', List.length_range]
theorem u_first (X : World) (o1 : Obj) (o2 : Obj) (k : Nat) : (((X.alloc o1).alloc o2).drewN k).heap[X.heap.size]? = some o1 := by
  show ((X.alloc o1).alloc o2).heap[X.heap.size]? = _
  exact ((World.grownBy_alloc (X.alloc o1) o2 none).block _ (by rw [World.size_alloc]; omega) (by simp)).trans (heap_alloc_last X o1)
theorem u_second (X : World) (o1 : Obj) (o2 : Obj) (k : Nat) : (((X.alloc o1).alloc o2).drewN k).heap[X.heap.size + 1]? = some o2 := by
  show ((X.alloc o1).alloc o2).heap[X.heap.size + 1]? = _
  have h := heap_alloc_last (X.alloc o1) o2
  rw [World.size_alloc] at h; exact h
/-- An automaton of relate in memory. -/
structure RaAt (B : Nat) (X : World) (nb nn S : Nat) (sv tv lv mv : Value) (ks : List (List It)) (es : List (List (Nat × Nat))) (kv ev : Nat → Value) (tl : List It) (F : Nat → Bool) (lb mb : Nat → Nat) : Prop where
  aut : AutP B X sv ks (elF es) kv ev
  trs : X.ownsRow B 53 2 tv tl.length (itsV tl)
  nul : ValAt X nb nn 4 (fun i => .bool (F i))
  l : TbP B X lv ks.length ks.length S lb (fun q s => ldF (es.getD q []) s)
  m : TbP B X mv ks.length ks.length S mb (fun q s => nmF tl q s)
/-- What automatonOf tells. -/
def UofTold (ta na la pa : Option Addr) (tc nc lc pc : Nat) (n : Nat) (st : Int) (tn nn ln : Nat) (ks : List (List It)) (es : List (List (Nat × Nat))) (tl : List It) (F : Nat → Bool) (w : World) (e : Ending) (y : World) : Prop :=
  ∃ (nb : Nat) (sa xa la' ma : Option Addr) (sc xc lc' mc : Nat) (kv ev : Nat → Value) (lb mb : Nat → Nat), e = .returned (.tuple #[.agg #[.slice ta tn tc, .slice na nn nc, .slice la ln lc, .int .i64 st, .slice pa n pc, .slice (some ⟨nb, 0, none⟩) nn nn, .slice sa ks.length sc, .slice xa tl.length xc, .slice la' ks.length lc', .slice ma ks.length mc], .int .i64 0]) ∧ RaAt w.heap.size y nb nn (tn + nn) (.slice sa ks.length sc) (.slice xa tl.length xc) (.slice la' ks.length lc') (.slice ma ks.length mc) ks es kv ev tl F lb mb ∧ w.grownBy y none

section
variable (ta na la pa : Option Addr) (tc nc lc pc : Nat) (n : Nat) (st : Int) (w : World) (tn nn ln : Nat)

set_option maxRecDepth 100000 in
set_option maxHeartbeats 4000000 in
theorem uof_ok (ask : Nat) (ks : List (List It)) (es : List (List (Nat × Nat))) (tl : List It) (F : Nat → Bool) (htn : tn ≤ 65) (hnn : nn ≤ 65) (hN256 : ks.length ≤ 256) (hes : ∀ q, q < ks.length → (es.getD q []).length ≤ 130 ∧ ((es.getD q []).map Prod.fst).Nodup ∧ ∀ x ∈ es.getD q [], x.1 < tn + nn ∧ x.2 < 256) (htl : tl.length ≤ 40000) (htnd : tl.Nodup) (htb : ∀ x ∈ tl, ∃ q s : Nat, x = ((q : Int), (s : Int)) ∧ q < ks.length ∧ s < tn + nn)
    (hBU : ∀ X, w.grownBy X none → Calls Tryz.prog 22 #[.agg #[.slice ta tn tc, .slice na nn nc, .slice la ln lc, .int .i64 st, .slice pa n pc]] X fun e y => ∃ sa sc kv ev, e = .returned (.tuple #[.agg #[.slice sa ks.length sc, .int .i64 (ask : Int), .int .i64 (ks.length : Int)], .int .i64 0]) ∧ AutP w.heap.size y (.slice sa ks.length sc) ks (elF es) kv ev ∧ X.grownBy y none)
    (hLI : ∀ X, w.grownBy X none → Calls Tryz.prog 36 #[.agg #[.slice ta tn tc, .slice na nn nc, .slice la ln lc, .int .i64 st, .slice pa n pc]] X fun e y => TrErr tl X e y)
    (hNU : ∀ X, w.grownBy X none → Calls Tryz.prog 38 #[.agg #[.slice ta tn tc, .slice na nn nc, .slice la ln lc, .int .i64 st, .slice pa n pc]] X fun e y => ∃ k, e = .returned (.tuple #[.slice (some ⟨k, 0, none⟩) nn nn, .int .i64 0]) ∧ X.heap.size ≤ k ∧ ValAt y k nn 4 (fun i => .bool (F i)) ∧ X.grownBy y none) :
    Calls Tryz.prog 30 #[.agg #[.slice ta tn tc, .slice na nn nc, .slice la ln lc, .int .i64 st, .slice pa n pc]] w fun e y => UofTold ta na la pa tc nc lc pc n st tn nn ln ks es tl F w e y := by
  have HBU := show Hid _ from hBU
  have HLI := show Hid _ from hLI
  have HNU := show Hid _ from hNU
  have HES := show Hid _ from hes
  have HTN := show Hid _ from htnd
  have HTB := show Hid _ from htb
  have HX0 : Hid (PhAt w ((w.alloc (.cells #[.slice ta tn tc, .slice na nn nc, .slice la ln lc, .int .i64 st, .slice pa n pc] 27)).alloc (.cells #[.slice none 0 0, .slice none 0 0, .slice none 0 0, .int .i64 0, .slice none 0 0, .slice none 0 0, .slice none 0 0, .slice none 0 0, .slice none 0 0, .slice none 0 0] 81)) w.heap.size #[.slice ta tn tc, .slice na nn nc, .slice la ln lc, .int .i64 st, .slice pa n pc]) := PhAt.kept ⟨World.grownBy_alloc _ _ none, heap_alloc_last w _⟩ (World.grownBy_alloc _ _ none)
  have HB0 : Hid (((w.alloc (.cells #[.slice ta tn tc, .slice na nn nc, .slice la ln lc, .int .i64 st, .slice pa n pc] 27)).alloc (.cells #[.slice none 0 0, .slice none 0 0, .slice none 0 0, .int .i64 0, .slice none 0 0, .slice none 0 0, .slice none 0 0, .slice none 0 0, .slice none 0 0, .slice none 0 0] 81)).heap[w.heap.size + 1]? = some (.cells #[.slice none 0 0, .slice none 0 0, .slice none 0 0, .int .i64 0, .slice none 0 0, .slice none 0 0, .slice none 0 0, .slice none 0 0, .slice none 0 0, .slice none 0 0] 81 (0, 0))) := by
    have h := heap_alloc_last (w.alloc (.cells #[.slice ta tn tc, .slice na nn nc, .slice la ln lc, .int .i64 st, .slice pa n pc] 27)) (.cells #[.slice none 0 0, .slice none 0 0, .slice none 0 0, .int .i64 0, .slice none 0 0, .slice none 0 0, .slice none 0 0, .slice none 0 0, .slice none 0 0, .slice none 0 0] 81)
    rw [World.size_alloc] at h; exact h
  obtain ⟨i0, hi0, hz0, hz1, hz2⟩ := info_parts infoInt
  obtain ⟨i1, hq1, hu0, hu1, hu2⟩ := info_parts infoInts
  obtain ⟨N, hN⟩ : ∃ n, n = ks.length := ⟨_, rfl⟩
  have HN : Hid (N = ks.length) := hN
  rw [← hN] at hN256 HBU
  obtain ⟨T, hT⟩ : ∃ n, n = tl.length := ⟨_, rfl⟩
  have HT : Hid (T = tl.length) := hT
  rw [← hT] at htl
  clear hBU hes hLI hNU htnd htb hN hT
  go_enter Tryz.func30, Tryz.ntmps30
  go_wp2_with fail
  refine Calls.mono (HBU.out _ HX0.out.grown) ?_
  rintro e w1 ⟨sa, sc, kv, ev, rfl, hAP, hg1⟩
  have hbd : ∀ u, (Instr.build 81 #[(0, .agg #[.slice ta tn tc, .slice na nn nc, .slice la ln lc, .int .i64 st, .slice pa n pc]), (2, .slice sa N sc)]).run Tryz.prog u = .ok (.agg #[.slice ta tn tc, .slice na nn nc, .slice la ln lc, .int .i64 st, .slice pa n pc, .slice none 0 0, .slice sa N sc, .slice none 0 0, .slice none 0 0, .slice none 0 0]) u := fun u => run_build u _ _ _ (by kernel_rfl)
  obtain ⟨W, hW⟩ : ∃ W, W = w1.alloc (.cells #[.slice sa N sc, .int .i64 (ask : Int), .int .i64 (N : Int)] 59) := ⟨_, rfl⟩
  obtain ⟨ub, hub⟩ : ∃ b, b = w1.heap.size := ⟨_, rfl⟩
  have hgW : w1.grownBy W none := by rw [hW]; exact World.grownBy_alloc _ _ none
  have HXW : Hid (PhAt w W w.heap.size #[.slice ta tn tc, .slice na nn nc, .slice la ln lc, .int .i64 st, .slice pa n pc]) := HX0.out.kept (grown_trans hg1 hgW)
  have HBW : Hid (W.heap[w.heap.size + 1]? = some (.cells #[.slice none 0 0, .slice none 0 0, .slice none 0 0, .int .i64 0, .slice none 0 0, .slice none 0 0, .slice none 0 0, .slice none 0 0, .slice none 0 0, .slice none 0 0] 81 (0, 0))) := box_kept HB0.out (grown_trans hg1 hgW)
  have HAW : Hid (W.heap[ub]? = some (.cells #[.slice sa N sc, .int .i64 (ask : Int), .int .i64 (N : Int)] 59 (0, 0))) := by rw [hW, hub]; exact heap_alloc_last w1 _
  have HPW : Hid (AutP w.heap.size W (.slice sa N sc) ks (elF es) kv ev) := hAP.kept hgW
  have HWE := show Hid _ from hW
  have HBE := show Hid _ from hub
  clear hg1 hAP HX0 HB0 hgW hW hub
  have y0 : (w1.alloc (.cells #[.slice sa N sc, .int .i64 (ask : Int), .int .i64 (N : Int)] 59)).cell? ⟨w1.heap.size, 0, none⟩ = some (.slice sa N sc) := by rw [← HWE.out, ← HBE.out, cell_of_row _ _ _ _ _ _ HAW.out]; rfl
  obtain ⟨k0, k1, k2, k3, k4⟩ := HXW.out.cells
  rw [HWE.out] at k0 k1 k2 k3 k4
  have m0 := fun o => (World.grownBy_alloc _ o none).cell k0 (by simp)
  have m1 := fun o => (World.grownBy_alloc _ o none).cell k1 (by simp)
  have m2 := fun o => (World.grownBy_alloc _ o none).cell k2 (by simp)
  have m3 := fun o => (World.grownBy_alloc _ o none).cell k3 (by simp)
  have m4 := fun o => (World.grownBy_alloc _ o none).cell k4 (by simp)
  go_wp2_with fail
  rw [← HWE.out, ← HBE.out]
  clear k0 k1 k2 k3 k4 m0 m1 m2 m3 m4 y0 hbd
  obtain ⟨ab, hab⟩ : ∃ b, b = ub + 1 := ⟨_, rfl⟩
  have hsz : W.heap.size = ab := by rw [HWE.out, World.size_alloc, ← HBE.out, hab]
  have HLO : Hid (w.heap.size ≤ ab ∧ w.heap.size + 1 < ab) := by
    have h1 := HXW.out.grown.size
    have h2 := (Array.getElem?_eq_some_iff.1 HBW.out).1
    show _ ∧ _
    omega
  rw [← hab]
  obtain ⟨W0, hW0⟩ : ∃ X, X = W.alloc (.cells #[.slice ta tn tc, .slice na nn nc, .slice la ln lc, .int .i64 st, .slice pa n pc, .slice none 0 0, .slice sa N sc, .slice none 0 0, .slice none 0 0, .slice none 0 0] 81) := ⟨_, rfl⟩
  have hg0 : W.grownBy W0 none := by rw [hW0]; exact World.grownBy_alloc _ _ none
  have HX0 : Hid (PhAt w W0 w.heap.size #[.slice ta tn tc, .slice na nn nc, .slice la ln lc, .int .i64 st, .slice pa n pc]) := HXW.out.kept hg0
  have HR0 : Hid (W0.heap[w.heap.size + 1]? = some (.cells #[.slice none 0 0, .slice none 0 0, .slice none 0 0, .int .i64 0, .slice none 0 0, .slice none 0 0, .slice none 0 0, .slice none 0 0, .slice none 0 0, .slice none 0 0] 81 (0, 0))) := box_kept HBW.out hg0
  have HB0 : Hid (W0.heap[ab]? = some (.cells #[.slice ta tn tc, .slice na nn nc, .slice la ln lc, .int .i64 st, .slice pa n pc, .slice none 0 0, .slice sa N sc, .slice none 0 0, .slice none 0 0, .slice none 0 0] 81 (0, 0))) := by rw [hW0, ← hsz]; exact heap_alloc_last W _
  have HP0 : Hid (AutP w.heap.size W0 (.slice sa N sc) ks (elF es) kv ev) := HPW.out.kept hg0
  rw [← hW0]
  clear hW0 hg0 HXW HBW HAW HPW HWE HBE hab hsz
  refine Calls.mono (HLI.out _ HX0.out.grown) ?_
  rintro e w2 ⟨xa, xc, rfl, hown2, hg2⟩
  rw [← HT.out] at hown2 ⊢
  obtain ⟨y0, y1⟩ : w2.cell? ⟨ab, 7, none⟩ = some (.slice none 0 0) ∧ w2.frozen? ⟨ab, 7, none⟩ = false := by
    have h := box_kept HB0.out hg2
    exact ⟨by rw [cell_of_row _ _ _ _ _ _ h]; rfl, frozen_of_row _ _ _ _ _ h⟩
  have HB2 : Hid (w2.heap[ab]? = some (.cells #[.slice ta tn tc, .slice na nn nc, .slice la ln lc, .int .i64 st, .slice pa n pc, .slice none 0 0, .slice sa N sc, .slice none 0 0, .slice none 0 0, .slice none 0 0] 81 (0, 0))) := box_kept HB0.out hg2
  have HX2 : Hid (PhAt w w2 w.heap.size #[.slice ta tn tc, .slice na nn nc, .slice la ln lc, .int .i64 st, .slice pa n pc]) := HX0.out.kept hg2
  have HR2 : Hid (w2.heap[w.heap.size + 1]? = some (.cells #[.slice none 0 0, .slice none 0 0, .slice none 0 0, .int .i64 0, .slice none 0 0, .slice none 0 0, .slice none 0 0, .slice none 0 0, .slice none 0 0, .slice none 0 0] 81 (0, 0))) := box_kept HR0.out hg2
  have HP2 : Hid (AutP w.heap.size w2 (.slice sa N sc) ks (elF es) kv ev) := HP0.out.kept hg2
  have HT2 : Hid (w2.ownsRow w.heap.size 53 2 (.slice xa T xc) T (itsV tl)) := owns_base hown2 HX0.out.grown.size
  clear HB0 HX0 HR0 HP0 hown2 hg2
  obtain ⟨k0, k1, k2, k3, k4⟩ := HX2.out.cells
  go_wp2_with fail
  clear y0 y1 k0 k1 k2 k3 k4
  obtain ⟨X3, hX3⟩ : ∃ X, X = w2.setCell ⟨ab, 7, none⟩ (.slice xa T xc) := ⟨_, rfl⟩
  have hg3 : w2.grownBy X3 (some ab) := by rw [hX3]; exact grown_setCell _ _ _
  have hk3 : KeepA ab w2 X3 := .box HB2.out hg3
  have HB3 : Hid (X3.heap[ab]? = some (.cells #[.slice ta tn tc, .slice na nn nc, .slice la ln lc, .int .i64 st, .slice pa n pc, .slice none 0 0, .slice sa N sc, .slice xa T xc, .slice none 0 0, .slice none 0 0] 81 (0, 0))) := by rw [hX3]; exact heap_setCell_same _ _ _ _ _ _ HB2.out
  have HX3 : Hid (PhAt w X3 w.heap.size #[.slice ta tn tc, .slice na nn nc, .slice la ln lc, .int .i64 st, .slice pa n pc]) := ⟨grown_new HX2.out.grown hg3 HLO.out.1, hk3 _ _ _ HX2.out.box (by decide) (by decide) (fun e => absurd e (by decide))⟩
  have HR3 : Hid (X3.heap[w.heap.size + 1]? = some (.cells #[.slice none 0 0, .slice none 0 0, .slice none 0 0, .int .i64 0, .slice none 0 0, .slice none 0 0, .slice none 0 0, .slice none 0 0, .slice none 0 0, .slice none 0 0] 81 (0, 0))) := hk3 _ _ _ HR2.out (by decide) (by decide) (fun _ => Nat.ne_of_lt HLO.out.2)
  have HP3 : Hid (AutP w.heap.size X3 (.slice sa N sc) ks (elF es) kv ev) := ⟨hk3.owns HP2.out.row (by decide) (by decide) (by decide), fun i hi => hk3.owns (HP2.out.ker i hi) (by decide) (by decide) (by decide), fun i hi => hk3.owns (HP2.out.edg i hi) (by decide) (by decide) (by decide)⟩
  have HT3 : Hid (X3.ownsRow w.heap.size 53 2 (.slice xa T xc) T (itsV tl)) := hk3.owns HT2.out (by decide) (by decide) (by decide)
  rw [← hX3]
  clear hX3 hg3 hk3 HB2 HX2 HR2 HP2 HT2
  refine Calls.mono (HNU.out _ HX3.out.grown) ?_
  rintro e w4 ⟨nb, rfl, hnb, hval4, hg4⟩
  have HB4 : Hid (w4.heap[ab]? = some (.cells #[.slice ta tn tc, .slice na nn nc, .slice la ln lc, .int .i64 st, .slice pa n pc, .slice none 0 0, .slice sa N sc, .slice xa T xc, .slice none 0 0, .slice none 0 0] 81 (0, 0))) := box_kept HB3.out hg4
  have HU4 : Hid (UPas w.heap.size w4 w.heap.size (w.heap.size + 1) nb nn (.slice ta tn tc) (.slice na nn nc) (.slice la ln lc) (.int .i64 st) (.slice pa n pc) (.slice sa N sc) (.slice xa T xc) ks es kv ev tl F) := ⟨box_kept HX3.out.box hg4, box_kept HR3.out hg4, HP3.out.kept hg4, by rw [← HT.out]; exact keep0 HT3.out hg4, hval4⟩
  have HG4 : Hid (w.grownBy w4 none) := grown_trans HX3.out.grown hg4
  obtain ⟨y0, y1⟩ : w4.cell? ⟨ab, 5, none⟩ = some (.slice none 0 0) ∧ w4.frozen? ⟨ab, 5, none⟩ = false := ⟨by rw [cell_of_row _ _ _ _ _ _ HB4.out]; rfl, frozen_of_row _ _ _ _ _ HB4.out⟩
  have hz : ∀ k, (w4.setCell ⟨ab, 5, none⟩ (.slice (some ⟨nb, 0, none⟩) nn nn)).cell? ⟨w.heap.size, k, none⟩ = (#[.slice ta tn tc, .slice na nn nc, .slice la ln lc, .int .i64 st, .slice pa n pc] : Array Value)[k]? := fun k => by
    have h := (KeepA.box HB4.out (grown_setCell (w := w4) ab 5 (.slice (some ⟨nb, 0, none⟩) nn nn))) _ _ _ HU4.out.gbox (by decide) (by decide) (fun e => absurd e (by decide))
    exact cell_of_row _ _ _ _ _ _ h
  have k0 := hz 0
  have k1 := hz 1
  simp only [List.getElem?_toArray, List.getElem?_cons_zero, List.getElem?_cons_succ] at k0 k1
  have HL4 : Hid (RlP w (w4.setCell ⟨ab, 5, none⟩ (.slice (some ⟨nb, 0, none⟩) nn nn)) ab w.heap.size (w.heap.size + 1) nb nn (.slice ta tn tc) (.slice na nn nc) (.slice la ln lc) (.int .i64 st) (.slice pa n pc) (.slice (some ⟨nb, 0, none⟩) nn nn) (.slice sa N sc) (.slice xa T xc) (.slice none 0 0) (.slice none 0 0) (.slice none 0 0) (.slice none 0 0) 0 0 0 0 (tn + nn) (fun _ => 0) (fun _ => 0) (fun q s => ldF (es.getD q []) s) (fun _ _ => 0) ks es kv ev tl F) := by
    have hg := grown_setCell (w := w4) ab 5 (.slice (some ⟨nb, 0, none⟩) nn nn)
    exact ⟨grown_new HG4.out hg HLO.out.1, heap_setCell_same _ _ _ _ _ _ HB4.out, HU4.out.keep (.box HB4.out hg) (Nat.ne_of_lt HLO.out.2), .none_ _ _ _ _ _, .none_ _ _ _ _ _, fun _ _ h => absurd h (Nat.not_lt_zero _), fun b hb => (by cases hb), ⟨HLO.out.1, by omega⟩, Nat.ne_of_lt HLO.out.2⟩
  clear hg4 hval4 hnb HB3 HX3 HR3 HP3 HT3 HU4 HG4 HB4 hz
  obtain ⟨y6, -⟩ := HL4.out.cells.1
  go_wp2_with fail
  obtain ⟨S, hS⟩ : ∃ S, S = tn + nn := ⟨_, rfl⟩
  have hSi : (tn : Int) + (nn : Int) = (S : Int) := by omega
  have hSb : S ≤ 130 := by omega
  have HSE : Hid (S = tn + nn) := hS
  rw [← hS] at HL4 HES HTB
  rw [hSi]
  clear y0 y1 k0 k1 y6 hSi hS
  generalize w4.setCell ⟨ab, 5, none⟩ (.slice (some ⟨nb, 0, none⟩) nn nn) = X5 at HL4 ⊢
  go_loopg [50] N (fun gk v50 wr => ∃ (i lc1 mc1 : Nat) (la1 ma1 : Option Addr) (lb mb : Nat → Nat), i ≤ N ∧ gk = N - i ∧ v50 = .int .i64 i ∧ RlP w wr ab w.heap.size (w.heap.size + 1) nb nn (.slice ta tn tc) (.slice na nn nc) (.slice la ln lc) (.int .i64 st) (.slice pa n pc) (.slice (some ⟨nb, 0, none⟩) nn nn) (.slice sa N sc) (.slice xa T xc) (.slice la1 i lc1) (.slice ma1 i mc1) (.slice la1 i lc1) (.slice ma1 i mc1) i i i i S lb mb (fun q s => ldF (es.getD q []) s) (fun _ _ => 0) ks es kv ev tl F)
  case atStart => exact ⟨0, 0, 0, none, none, _, _, Nat.zero_le _, rfl, rfl, HL4.out⟩
  case round =>
    obtain ⟨i, lc1, mc1, la1, ma1, lb, mb, hi, hgi, rfl, hR⟩ := hrel
    have HGI : Hid (gk = N - i) := hgi
    have HR := show Hid _ from hR
    clear hgi hR HL4
    generalize wr = Z at *
    by_cases hlt : i < N
    · have hid : decide (i < N) = true := decide_eq_true hlt
      have hi0' : (0 : Int) ≤ (i : Int) := by omega
      have hi1 : (i : Int) < (N : Int) := by omega
      have hik : i < ks.length := by rw [← HN.out]; exact hlt
      have hPZ : AutP w.heap.size Z (.slice sa N sc) ks (elF es) kv ev := HR.out.pas.aut
      rw [HN.out] at hPZ
      obtain ⟨sb, sc', hsv, hs0, hs1⟩ := hPZ.st hik
      simp only [Value.slice.injEq] at hsv
      obtain ⟨rfl, _, rfl⟩ := hsv
      obtain ⟨ka, kc, hkv, _, _⟩ := hPZ.kerAt hik
      obtain ⟨ea, ec, hev, _⟩ := hPZ.edgAt hik
      have HEA : Hid (∀ Y, AutP w.heap.size Y (.slice (some ⟨sb, 0, none⟩) N sc) ks (elF es) kv ev → ItsAt Y ea (elF es i)) := fun Y h => by
        rw [HN.out] at h
        obtain ⟨ea2, ec2, h1, h2⟩ := h.edgAt hik
        rw [hev] at h1
        simp only [Value.slice.injEq] at h1
        rw [h1.1]; exact h2
      rw [hkv] at hs0
      rw [hev] at hs1
      obtain ⟨kl, hkl⟩ : ∃ k, k = (ks.getD i []).length := ⟨_, rfl⟩
      obtain ⟨E, hE⟩ : ∃ E, E = (elF es i).length := ⟨_, rfl⟩
      rw [← hkl] at hs0
      rw [← hE] at hs1
      have HE : Hid (E = (es.getD i []).length) := by show _ = _; rw [hE]; exact elF_len _ _
      have hEb : E ≤ 130 := by rw [HE.out]; exact (HES.out i hik).1
      clear hkl hE hkv hev hPZ
      go_wp2_with (at_make; refine wpList_make_full _ rfl _ _ 24 rfl w.heap.size 3 i0 (.int .i64 0) 1 Tryz.underlying24 hi0 hz0 hz1 .i64 .i64 _ _ S rfl rfl (by simp) (by simp) (by rw [hz2]; omega) (by unfold maxLen; omega) (by have := HR.out.grown.size; simp; omega) ?_)
      intro W1 hown hgrow
      have hval : ValAt W1 (Z.heap.size + 1) S 3 (fun _ => .int .i64 0) := made_rowK (B := w.heap.size) rfl (by simpa [Value.cells] using hown)
      obtain ⟨lb1, hlb1⟩ : ∃ f, f = updL lb i (Z.heap.size + 1) := ⟨_, rfl⟩
      have hlbi : Z.heap.size + 1 = lb1 i := by rw [hlb1, updL_same]
      have HR1 := show Hid _ from (HR.out.madeL (f := fun _ => 0) (grown_trans (World.grownBy_alloc _ _ none) hgrow) (Nat.le_succ _) hval).extL (fun q _ s _ => ldJ_zero es i q s)
      rw [← hlb1] at HR1
      rw [hlbi]
      have hc1 : W1.cell? ⟨Z.heap.size, 1, none⟩ = some (.slice ea E ec) := by rw [cell_of_row _ _ _ _ _ _ (box_kept (heap_alloc_last Z _) hgrow)]; rfl
      clear hown hgrow hval hlb1 hlbi HR hs0 hs1
      go_wp2_with fail
      go_loopg [59] E (fun gk v59 wr => ∃ (j : Nat), j ≤ E ∧ gk = E - j ∧ v59 = .int .i64 j ∧ RlP w wr ab w.heap.size (w.heap.size + 1) nb nn (.slice ta tn tc) (.slice na nn nc) (.slice la ln lc) (.int .i64 st) (.slice pa n pc) (.slice (some ⟨nb, 0, none⟩) nn nn) (.slice (some ⟨sb, 0, none⟩) N sc) (.slice xa T xc) (.slice la1 i lc1) (.slice ma1 i mc1) (.slice la1 i lc1) (.slice ma1 i mc1) i (i + 1) i i S lb1 mb (ldJ es i j) (fun _ _ => 0) ks es kv ev tl F)
      case atStart => exact ⟨0, Nat.zero_le _, rfl, rfl, HR1.out⟩
      case round =>
        obtain ⟨j, hj, hgj, rfl, hR2⟩ := hrel
        have HGJ : Hid (gk = E - j) := hgj
        have HR2 := show Hid _ from hR2
        clear hgj hR2 HR1
        by_cases hlj : j < E
        · have hjd : decide (j < E) = true := decide_eq_true hlj
          have hj0 : (0 : Int) ≤ (j : Int) := by omega
          have hj1 : (j : Int) < (E : Int) := by omega
          have hje : j < (es.getD i []).length := by rw [← HE.out]; exact hlj
          obtain ⟨eb, eo, hea, c0, c1⟩ := (HEA.out wr HR2.out.pas.aut).cellAt (i := j) (by rw [elF_len]; exact hje)
          subst hea
          rw [(elF_at hje).2] at c0 c1
          obtain ⟨x, hx⟩ : ∃ x, x = (es.getD i []).getD j (0, 0) := ⟨_, rfl⟩
          have hxb := (HES.out i hik).2.2 x (by
            rw [hx]
            generalize es.getD i [] = l at hje ⊢
            rw [List.getD_eq_getElem?_getD, List.getElem?_eq_getElem hje]; exact List.getElem_mem hje)
          rw [← hx] at c0 c1
          obtain ⟨s, t⟩ := x
          simp only at c0 c1 hxb
          have hR3 := HR2.out.kept (World.grownBy_alloc wr (.cells #[.int .i64 (s : Int), .int .i64 (t : Int)] 115) none)
          have HR4 := show Hid _ from (hR3.putL (q := i) (by omega) s (t : Int)).extL (fun q _ u _ => ldJ_step hje hx.symm (HES.out i hik).2.1 q u)
          have d0 := (hR3.l.val i (by omega)).cell s hxb.1
          have d1 := (hR3.l.val i (by omega)).free s
          have hs0 : (0 : Int) ≤ (s : Int) := by omega
          have hs1 : (s : Int) < (S : Int) := by omega
          clear hx hje hxb hR3
          go_wp2_with fail
          go_roundg (E - (j + 1))
          case measure => have := HGJ.out; omega
          case rel => exact ⟨j + 1, by omega, rfl, by go_num, HR4.out⟩
        · have hjE : E = j := by omega
          subst hjE
          have hjd : decide (E < E) = false := decide_eq_false (by omega)
          have HR3 := show Hid _ from HR2.out.extL (ld' := fun q s => ldF (es.getD q []) s) (fun q _ s _ => by rw [HE.out]; exact ldJ_end es i q s)
          clear HR2
          obtain ⟨⟨_, _, y8, y9⟩, yf⟩ := HR3.out.cells
          have HL3 : Hid (wr.ownsRow w.heap.size 24 1 (.slice la1 i lc1) i (tabV lb1 S i)) := HR3.out.l.row
          have hsz := HR3.out.grown.size
          go_wp2_with (at_builtin; refine wpList_append_lies _ rfl (.tmp 71) (.tmp 73) 30 rfl w.heap.size 24 i1 (.slice none 0 0) 1 24 Tryz.underlying30 hq1 hu0 hu1 hu2 rfl (by decide) (.slice la1 i lc1) i (tabV lb1 S i) rfl (HL3.out.alloc _) ⟨wr.heap.size, 0, none⟩ 1 1 [.slice (some ⟨lb1 i, 0, none⟩) S S] rfl rfl (World.news_of_block (heap_alloc_last wr _)) (by simp [Value.oneCell']) (by decide) (by unfold maxLen; omega) (by omega) (by simp; omega) _ rfl ?_)
          intro g7 c7 V hoV hgV hat _
          have HR5 := show Hid _ from (HR3.out.kept (World.grownBy_alloc wr (.cells #[.slice (some ⟨lb1 i, 0, none⟩) S S] 24) none)).pushL hgV hoV (by rw [World.size_alloc]; exact hat)
          have hR6 := HR5.out.setL (.slice (some ⟨g7, 0, none⟩) (i + 1) c7)
          obtain ⟨⟨_, _, z8, _⟩, zf⟩ := HR5.out.cells
          have z8f := zf 8
          have HR6 := show Hid _ from hR6
          clear y8 y9 yf HL3 hoV hgV hat hR6 zf hsz HR3
          go_wp2_with fail
          clear HR5 z8 z8f
          generalize V.setCell ⟨ab, 8, none⟩ (.slice (some ⟨g7, 0, none⟩) (i + 1) c7) = X6 at HR6 ⊢
          obtain ⟨⟨-, -, -, z9⟩, -⟩ := HR6.out.cells
          have m9 : ∀ o, (X6.alloc o).cell? ⟨ab, 9, none⟩ = some (.slice ma1 i mc1) := fun o => (World.grownBy_alloc _ o none).cell z9 (by simp)
          have n9 : ∀ o o', ((X6.alloc o).alloc o').cell? ⟨ab, 9, none⟩ = some (.slice ma1 i mc1) := fun o o' => (World.grownBy_alloc _ o' none).cell (m9 o) (by simp)
          have HOW : Hid (∀ Y, X6.grownBy Y none → Y.ownsRow w.heap.size 24 1 (.slice ma1 i mc1) i (tabV mb S i)) := fun Y hY => keep0 HR6.out.m.row hY
          have HPS : Hid (∀ Y, X6.grownBy Y none → w.heap.size ≤ Y.heap.size) := fun Y hY => Nat.le_trans HR6.out.grown.size hY.size
          have HFIN : Hid (∀ (Y V7 : World) (g c : Nat), X6.grownBy Y none → ValAt Y X6.heap.size S 3 (fun _ => .int .i64 0) → Y.grownBy V7 (Value.slice ma1 i mc1).ownBlock → V7.ownsRow w.heap.size 24 1 (.slice (some ⟨g, 0, none⟩) (i + 1) c) (i + 1) (tabV mb S i ++ [.slice (some ⟨X6.heap.size, 0, none⟩) S S]) → ((Value.slice ma1 i mc1).ownBlock = some g ∨ g = Y.heap.size) → V7.cell? ⟨ab, 9, none⟩ = some (.slice ma1 i mc1) ∧ V7.frozen? ⟨ab, 9, none⟩ = false ∧ ∃ mb2, RlP w (V7.setCell ⟨ab, 9, none⟩ (.slice (some ⟨g, 0, none⟩) (i + 1) c)) ab w.heap.size (w.heap.size + 1) nb nn (.slice ta tn tc) (.slice na nn nc) (.slice la ln lc) (.int .i64 st) (.slice pa n pc) (.slice (some ⟨nb, 0, none⟩) nn nn) (.slice (some ⟨sb, 0, none⟩) N sc) (.slice xa T xc) (.slice (some ⟨g7, 0, none⟩) (i + 1) c7) (.slice (some ⟨g, 0, none⟩) (i + 1) c) (.slice (some ⟨g7, 0, none⟩) (i + 1) c7) (.slice (some ⟨g, 0, none⟩) (i + 1) c) (i + 1) (i + 1) (i + 1) (i + 1) S lb1 mb2 (fun q s => ldF (es.getD q []) s) (fun _ _ => 0) ks es kv ev tl F) := fun Y V7 g c hY hv hg ho hat => by
            have h1 := HR6.out.madeM (f := fun _ => 0) hY (Nat.le_refl _) hv
            have h2 := (h1.pushM (g := g) (c := c) hg (by rw [updL_same, tabV_congr (lb' := mb) i fun q hq => updL_other _ _ (by omega)]; exact ho) hat).extM (nm' := fun _ _ => 0) (fun q _ s _ => by
              unfold updL
              by_cases e : q = i
              · rw [if_pos e]
              · rw [if_neg e])
            obtain ⟨⟨-, -, -, h3⟩, h4⟩ := h2.cells
            exact ⟨h3, h4 9, _, h2.setM _⟩
          have hmk : ∀ u : World, (Instr.makeSlice 24 (.int .i64 (S : Int)) (.int .i64 (S : Int))).run Tryz.prog u = .ok (.slice (some ⟨u.heap.size, 0, none⟩) S S) (u.alloc (.cells (madeCells #[.int .i64 0] S) 3)) := fun u => mk_ints u hi0 hz0 hz1 hz2 hSb
          have HVA : Hid (∀ Y : World, Y.heap[X6.heap.size]? = some (.cells (madeCells #[.int .i64 0] S) 3 (0, 0)) → ValAt Y X6.heap.size S 3 (fun _ => .int .i64 0)) := fun Y h => mk_val h
          clear HR6
          go_region_law (first
            | (refine step_append_liesW _ rfl (.tmp 77) (.tmp 80) 30 rfl w.heap.size 24 i1 (.slice none 0 0) 1 24 Tryz.underlying30 hq1 hu0 hu1 hu2 rfl (by decide) (.slice ma1 i mc1) i (tabV mb S i) (by simp [Act.eval]) (HOW.out _ (grown_trans (World.grownBy_alloc _ _ none) (grown_trans (World.grownBy_alloc _ _ none) (grown_drewN _ _)))) ⟨X6.heap.size + 1, 0, none⟩ 1 1 [.slice (some ⟨X6.heap.size, 0, none⟩) S S] (by simp [Act.eval]) rfl (World.news_of_block (u_second _ _ _ _)) (by simp [Value.oneCell']) (by decide) (by unfold maxLen; omega) (by omega) (HPS.out _ (grown_trans (World.grownBy_alloc _ _ none) (grown_trans (World.grownBy_alloc _ _ none) (grown_drewN _ _)))) ?_; intro g9 c9 wB hoB hgB hat; obtain ⟨q1, q2, q3⟩ := HFIN.out _ wB g9 c9 (grown_trans (World.grownBy_alloc _ _ none) (grown_trans (World.grownBy_alloc _ _ none) (grown_drewN _ _))) (HVA.out _ (u_first _ _ _ _)) hgB hoB hat; have HQ1 := show Hid _ from q3; clear q3 hoB hgB hat)
            | fail)
          all_goals go_wp2_with fail
          all_goals go_roundg (N - (i + 1))
          all_goals first
            | exact (show ∃ (i' lc1' mc1' : Nat) (la1' ma1' : Option Addr) (lb' mb' : Nat → Nat), _ from (by obtain ⟨mb2, h9⟩ := HQ1.out; exact ⟨i + 1, _, _, _, _, lb1, mb2, by omega, rfl, by go_num, h9⟩))
            | (have := HGI.out; omega)
    · have hiN : N = i := by omega
      subst hiN
      have hid : decide (N < N) = false := decide_eq_false (by omega)
      obtain ⟨⟨-, y7, -, -⟩, -⟩ := HR.out.cells
      go_wp2_with fail
      clear y7
      have HR7 := show Hid _ from HR.out.extM (nm' := fun q s => nmF (tl.take 0) q s) (fun q _ s _ => by rw [List.take_zero]; exact (nmF_nil q s).symm)
      clear HR
      go_loopg [87] T (fun gk v87 wr => ∃ (k : Nat), k ≤ T ∧ gk = T - k ∧ v87 = .int .i64 k ∧ RlP w wr ab w.heap.size (w.heap.size + 1) nb nn (.slice ta tn tc) (.slice na nn nc) (.slice la ln lc) (.int .i64 st) (.slice pa n pc) (.slice (some ⟨nb, 0, none⟩) nn nn) (.slice sa N sc) (.slice xa T xc) (.slice la1 N lc1) (.slice ma1 N mc1) (.slice la1 N lc1) (.slice ma1 N mc1) N N N N S lb mb (fun q s => ldF (es.getD q []) s) (fun q s => nmF (tl.take k) q s) ks es kv ev tl F)
      case atStart => exact ⟨0, Nat.zero_le _, rfl, rfl, HR7.out⟩
      case round =>
        obtain ⟨k, hk, hgk, rfl, hR8⟩ := hrel
        have HGK : Hid (gk = T - k) := hgk
        have HR8 := show Hid _ from hR8
        clear hgk hR8 HR7
        generalize wr = Y at *
        by_cases hlk : k < T
        · have hkd : decide (k < T) = true := decide_eq_true hlk
          have hk0 : (0 : Int) ≤ (k : Int) := by omega
          have hk1 : (k : Int) < (T : Int) := by omega
          have hkt : k < tl.length := by rw [← HT.out]; exact hlk
          have hTR := HR8.out.pas.trs
          rw [HT.out] at hTR
          obtain ⟨xb, xo, hxa, c0, c1⟩ := (ItsAt.ofT hTR).cellAt hkt
          subst hxa
          obtain ⟨q, s, hqs, hqN, hsS⟩ := HTB.out (tl.getD k (0, 0)) (by
            rw [List.getD_eq_getElem?_getD, List.getElem?_eq_getElem hkt]; exact List.getElem_mem hkt)
          rw [hqs] at c0 c1
          rw [← HN.out] at hqN
          have HTK : Hid (tl.take (k + 1) = tl.take k ++ [((q : Int), (s : Int))] ∧ ((q : Int), (s : Int)) ∉ tl.take k ∧ (tl.take k).length = k) := by
            have e1 : tl.take (k + 1) = tl.take k ++ [((q : Int), (s : Int))] := by
              rw [List.take_succ_eq_append_getElem hkt]
              rw [List.getD_eq_getElem?_getD, List.getElem?_eq_getElem hkt] at hqs
              exact congrArg _ (congrArg (fun y => [y]) hqs)
            refine ⟨e1, ?_, List.length_take_of_le (by omega)⟩
            have h2 : (tl.take (k + 1)).Nodup := List.Nodup.sublist (List.take_sublist _ _) HTN.out
            rw [e1, List.nodup_append] at h2
            intro h3
            exact h2.2.2 _ h3 _ (by simp) rfl
          have HRT : Hid (∀ u, Y.grownBy u none → RlP w u ab w.heap.size (w.heap.size + 1) nb nn (.slice ta tn tc) (.slice na nn nc) (.slice la ln lc) (.int .i64 st) (.slice pa n pc) (.slice (some ⟨nb, 0, none⟩) nn nn) (.slice sa N sc) (.slice (some ⟨xb, xo, none⟩) T xc) (.slice la1 N lc1) (.slice ma1 N mc1) (.slice la1 N lc1) (.slice ma1 N mc1) N N N N S lb mb (fun q s => ldF (es.getD q []) s) (fun q s => nmF (tl.take k) q s) ks es kv ev tl F) := fun u hu => HR8.out.kept hu
          obtain ⟨g, c, hmv, d0, d1⟩ := HR8.out.m.at hqN
          simp only [Value.slice.injEq, true_and] at hmv
          obtain ⟨rfl, rfl⟩ := hmv
          have hq0 : (0 : Int) ≤ (q : Int) := by omega
          have hq1' : (q : Int) < (N : Int) := by omega
          have hs0 : (0 : Int) ≤ (s : Int) := by omega
          have hs1 : (s : Int) < (S : Int) := by omega
          clear hTR hqs
          go_wp2_with fail
          obtain ⟨X9, hX9⟩ : ∃ X, X = Y.alloc (.cells #[.int .i64 (q : Int), .int .i64 (s : Int)] 53) := ⟨_, rfl⟩
          have hg9 : Y.grownBy X9 none := by rw [hX9]; exact World.grownBy_alloc _ _ none
          have t0 : X9.cell? ⟨Y.heap.size, 0, none⟩ = some (.int .i64 (q : Int)) := by rw [hX9, cell_of_row _ _ _ _ _ _ (heap_alloc_last Y _)]; rfl
          have t1 : X9.cell? ⟨Y.heap.size, 1, none⟩ = some (.int .i64 (s : Int)) := by rw [hX9, cell_of_row _ _ _ _ _ _ (heap_alloc_last Y _)]; rfl
          have t2 : X9.cell? ⟨ab, 9, none⟩ = some (.slice (some ⟨g, 0, none⟩) N mc1) := (HRT.out X9 hg9).cells.1.2.2.2
          have t3 : X9.cell? ⟨g, q, none⟩ = some (.slice (some ⟨mb q, 0, none⟩) S S) := hg9.cell d0 (by simp)
          have t4 : X9.cell? ⟨mb q, s, none⟩ = some (.int .i64 (nmF (tl.take k) q s)) := hg9.cell (d1 s hsS) (by simp)
          have t5 : X9.frozen? ⟨mb q, s, none⟩ = false := ((HRT.out X9 hg9).m.val q hqN).free s
          have HFIN : Hid (∀ u, X9.grownBy u none → RlP w (u.setCell ⟨mb q, s, none⟩ (.int .i64 (k : Int))) ab w.heap.size (w.heap.size + 1) nb nn (.slice ta tn tc) (.slice na nn nc) (.slice la ln lc) (.int .i64 st) (.slice pa n pc) (.slice (some ⟨nb, 0, none⟩) nn nn) (.slice sa N sc) (.slice (some ⟨xb, xo, none⟩) T xc) (.slice la1 N lc1) (.slice (some ⟨g, 0, none⟩) N mc1) (.slice la1 N lc1) (.slice (some ⟨g, 0, none⟩) N mc1) N N N N S lb mb (fun q s => ldF (es.getD q []) s) (fun q s => nmF (tl.take (k + 1)) q s) ks es kv ev tl F) := fun u hu => ((HRT.out u (grown_trans hg9 hu)).putM hqN s (k : Int)).extM (fun q' _ s' _ => by
            obtain ⟨e1, e2, e3⟩ := HTK.out
            rw [e1, nmF_snoc e2, e3]
            unfold updL
            by_cases e : q' = q
            · subst e
              rw [if_pos rfl]
              by_cases e4 : s' = s
              · subst e4
                rw [if_pos rfl, if_pos rfl]
              · rw [if_neg e4, if_neg (by simp only [Prod.mk.injEq]; omega)]
            · rw [if_neg e, if_neg (by simp only [Prod.mk.injEq]; omega)])
          have HKS : Hid ((X9.setCell ⟨mb q, s, none⟩ (.int .i64 (k : Int))).cell? ⟨Y.heap.size, 0, none⟩ = some (.int .i64 (q : Int)) ∧ (X9.setCell ⟨mb q, s, none⟩ (.int .i64 (k : Int))).cell? ⟨Y.heap.size, 1, none⟩ = some (.int .i64 (s : Int)) ∧ (X9.setCell ⟨mb q, s, none⟩ (.int .i64 (k : Int))).cell? ⟨ab, 9, none⟩ = some (.slice (some ⟨g, 0, none⟩) N mc1) ∧ (X9.setCell ⟨mb q, s, none⟩ (.int .i64 (k : Int))).cell? ⟨g, q, none⟩ = some (.slice (some ⟨mb q, 0, none⟩) S S)) := by
            have hgs : X9.grownBy (X9.setCell ⟨mb q, s, none⟩ (.int .i64 (k : Int))) (some (mb q)) := grown_setCell _ _ _
            have hv := (HRT.out X9 hg9).m.val q hqN
            have n1 : Y.heap.size ≠ mb q := by
              have := (HR8.out.m.val q hqN).lt
              omega
            have n2 : ab ≠ mb q := fun e => by
              have h := (HRT.out X9 hg9).box
              unfold ValAt at hv
              rw [e, hv] at h
              simp only [Option.some.injEq, Obj.cells.injEq] at h
              exact absurd h.2.1 (by decide)
            have n3 : g ≠ mb q := fun e => by
              rcases owns_nebox (HRT.out X9 hg9).m.row hv (by decide) with h | h
              · cases h
              · exact h (by rw [← e]; rfl)
            exact ⟨hgs.cell t0 (by simp [n1]), hgs.cell t1 (by simp [n1]), hgs.cell t2 (by simp [n2]), hgs.cell t3 (by simp [n3])⟩
          rw [← hX9]
          clear hX9 hg9 HRT d0 d1 c0 c1 HR8 HTK
          go_region_held3 (fun x => x.cell? ⟨Y.heap.size, 0, none⟩ = some (.int .i64 (q : Int)) ∧ x.cell? ⟨Y.heap.size, 1, none⟩ = some (.int .i64 (s : Int)) ∧ x.cell? ⟨ab, 9, none⟩ = some (.slice (some ⟨g, 0, none⟩) N mc1) ∧ x.cell? ⟨g, q, none⟩ = some (.slice (some ⟨mb q, 0, none⟩) S S)) (first | exact HKS.out | go_keep) (fail)
          all_goals go_wp2_with fail
          all_goals go_roundg (T - (k + 1))
          all_goals first
            | exact (show ∃ (k' : Nat), _ from ⟨k + 1, by omega, rfl, by go_num, HFIN.out _ (grown_drewN _ _)⟩)
            | (have := HGK.out; omega)
        · have hkT : T = k := by omega
          subst hkT
          have hkd : decide (T < T) = false := decide_eq_false (by omega)
          have HTA : Hid (tl.take T = tl) := by show _ = _; rw [HT.out]; exact List.take_length
          rw [HTA.out] at HR8
          have kc := fun j => cell_of_row _ ab j _ _ _ HR8.out.box
          obtain ⟨k0, k1, k2, k3, k4, k5, k6, k7, k8, k9⟩ : _ ∧ _ ∧ _ ∧ _ ∧ _ ∧ _ ∧ _ ∧ _ ∧ _ ∧ _ := ⟨kc 0, kc 1, kc 2, kc 3, kc 4, kc 5, kc 6, kc 7, kc 8, kc 9⟩
          have qc := fun j => cell_of_row _ (w.heap.size + 1) j _ _ _ HR8.out.pas.res
          obtain ⟨q0, q1, q2, q3, q4, q5, q6, q7, q8, q9⟩ : _ ∧ _ ∧ _ ∧ _ ∧ _ ∧ _ ∧ _ ∧ _ ∧ _ ∧ _ := ⟨qc 0, qc 1, qc 2, qc 3, qc 4, qc 5, qc 6, qc 7, qc 8, qc 9⟩
          have qf := fun j => frozen_of_row _ (w.heap.size + 1) j _ _ HR8.out.pas.res
          simp only [List.getElem?_toArray, List.getElem?_cons_zero, List.getElem?_cons_succ] at k0 k1 k2 k3 k4 k5 k6 k7 k8 k9 q0 q1 q2 q3 q4 q5 q6 q7 q8 q9
          clear kc qc
          go_wp2_with fail
          refine bodyPost_ret (v := .tuple #[.agg #[.slice ta tn tc, .slice na nn nc, .slice la ln lc, .int .i64 st, .slice pa n pc, .slice (some ⟨nb, 0, none⟩) nn nn, .slice sa N sc, .slice xa T xc, .slice la1 N lc1, .slice ma1 N mc1], .int .i64 0]) ?_ rfl ?_
          · exact results_uof _ _ (w.heap.size + 1) _ _ rfl rfl (set10_heap HR8.out.pas.res _ _ _ _ _ _ _ _ _ _) rfl
          · have hgs := set10_grown Y (w.heap.size + 1) (.slice ta tn tc) (.slice na nn nc) (.slice la ln lc) (.int .i64 st) (.slice pa n pc) (.slice (some ⟨nb, 0, none⟩) nn nn) (.slice sa N sc) (.slice xa T xc) (.slice la1 N lc1) (.slice ma1 N mc1)
            have hk : KeepA (w.heap.size + 1) Y _ := KeepA.box HR8.out.pas.res hgs
            have hP := HR8.out.pas
            have hl := HR8.out.l.boxed HR8.out.pas.res (by decide) (by decide) hgs
            have hm := HR8.out.m.boxed HR8.out.pas.res (by decide) (by decide) hgs
            have hau : AutP w.heap.size _ (.slice sa N sc) ks (elF es) kv ev := ⟨hk.owns hP.aut.row (by decide) (by decide) (by decide), fun i hi => hk.owns (hP.aut.ker i hi) (by decide) (by decide) (by decide), fun i hi => hk.owns (hP.aut.edg i hi) (by decide) (by decide) (by decide)⟩
            have htr := hk.owns hP.trs (by decide) (by decide) (by decide)
            have hnu := hk _ _ _ hP.nul (by decide) (by decide) (fun e => absurd e (by decide))
            have hgf := grown_new HR8.out.grown hgs (by omega)
            have eN := HN.out
            have eT := HT.out
            have eS := HSE.out
            clear HN HT HSE
            subst eN
            subst eT
            subst eS
            exact ⟨nb, sa, xa, la1, ma1, sc, xc, lc1, mc1, kv, ev, lb, mb, rfl, ⟨hau, htr, hnu, hl, hm⟩, hgf⟩
end

end Go.Proofs.YthoamlahbnphkaaGreat.J

/-
  relate: isTerm, vanishes.
-/
namespace Go.Proofs.YthoamlahbnphkaaGreat.J
open Go.RowKit Go.Maps Go.Shelf

attribute [local go_sem] Oper.semAt_some

theorem RaAt.kept {B : Nat} {X Y : World} {nb nn S : Nat} {sv tv lv mv : Value} {ks : List (List It)} {es : List (List (Nat × Nat))} {kv ev : Nat → Value} {tl : List It} {F : Nat → Bool} {lb mb : Nat → Nat} (h : RaAt B X nb nn S sv tv lv mv ks es kv ev tl F lb mb) (hg : X.grownBy Y none) : RaAt B Y nb nn S sv tv lv mv ks es kv ev tl F lb mb :=
  ⟨h.aut.kept hg, keep0 h.trs hg, h.nul.kept hg, h.l.kept hg, h.m.kept hg⟩

section
variable (ta na la pa sa xa l1 m1 : Option Addr) (tc nc lc pc sc xc lc1 mc1 : Nat) (n N T nb : Nat) (st : Int) (w : World) (tn nn ln : Nat)

theorem uisTerm_any (s : Int) (b : Bool) (hb : b = decide (s < (tn : Int))) : Calls Tryz.prog 61 #[.agg #[.slice ta tn tc, .slice na nn nc, .slice la ln lc, .int .i64 st, .slice pa n pc, .slice (some ⟨nb, 0, none⟩) nn nn, .slice sa N sc, .slice xa T xc, .slice l1 N lc1, .slice m1 N mc1], .int .i64 s] w fun e y => e = .returned (.bool b) ∧ w.grownBy y none := by
  have HG0 : Hid (w.grownBy (w.alloc (.cells #[.slice ta tn tc, .slice na nn nc, .slice la ln lc, .int .i64 st, .slice pa n pc, .slice (some ⟨nb, 0, none⟩) nn nn, .slice sa N sc, .slice xa T xc, .slice l1 N lc1, .slice m1 N mc1] 81)) none) := World.grownBy_alloc _ _ none
  subst hb
  go_enter Tryz.func61, Tryz.ntmps61
  go_wp2_with fail
  go_ret
  exact ⟨rfl, HG0.out⟩

set_option maxRecDepth 100000 in
theorem uvan_any (F : Nat → Bool) (hR : ValAt w nb nn 4 (fun i => .bool (F i))) (hnn : nn ≤ 65) (s : Nat) (hs : s < tn + nn) (b : Bool) (hb : b = (decide (tn ≤ s) && F (s - tn))) : Calls Tryz.prog 58 #[.agg #[.slice ta tn tc, .slice na nn nc, .slice la ln lc, .int .i64 st, .slice pa n pc, .slice (some ⟨nb, 0, none⟩) nn nn, .slice sa N sc, .slice xa T xc, .slice l1 N lc1, .slice m1 N mc1], .int .i64 (s : Int)] w fun e y => e = .returned (.bool b) ∧ w.grownBy y none := by
  have HX0 : Hid ((w.alloc (.cells #[.slice ta tn tc, .slice na nn nc, .slice la ln lc, .int .i64 st, .slice pa n pc, .slice (some ⟨nb, 0, none⟩) nn nn, .slice sa N sc, .slice xa T xc, .slice l1 N lc1, .slice m1 N mc1] 81)).heap[w.heap.size]? = some (.cells #[.slice ta tn tc, .slice na nn nc, .slice la ln lc, .int .i64 st, .slice pa n pc, .slice (some ⟨nb, 0, none⟩) nn nn, .slice sa N sc, .slice xa T xc, .slice l1 N lc1, .slice m1 N mc1] 81 (0, 0))) := heap_alloc_last w _
  have HG0 : Hid (w.grownBy (w.alloc (.cells #[.slice ta tn tc, .slice na nn nc, .slice la ln lc, .int .i64 st, .slice pa n pc, .slice (some ⟨nb, 0, none⟩) nn nn, .slice sa N sc, .slice xa T xc, .slice l1 N lc1, .slice m1 N mc1] 81)) none) := World.grownBy_alloc _ _ none
  have HIT : Hid (∀ X, Calls Tryz.prog 61 #[.agg #[.slice ta tn tc, .slice na nn nc, .slice la ln lc, .int .i64 st, .slice pa n pc, .slice (some ⟨nb, 0, none⟩) nn nn, .slice sa N sc, .slice xa T xc, .slice l1 N lc1, .slice m1 N mc1], .int .i64 (s : Int)] X fun e y => e = .returned (.bool (decide (s < tn))) ∧ X.grownBy y none) := fun X => uisTerm_any ta na la pa sa xa l1 m1 tc nc lc pc sc xc lc1 mc1 n N T nb st X tn nn ln (s : Int) (decide (s < tn)) (by simp)
  have HV : Hid (ValAt w nb nn 4 (fun i => .bool (F i))) := hR
  have HB := show Hid _ from hb
  clear hR hb
  by_cases h : s < tn
  · have hd : decide (s < tn) = true := decide_eq_true h
    rw [hd] at HIT
    have HBB : Hid (b = false) := by show _ = _; rw [HB.out, decide_eq_false (by omega)]; rfl
    go_enter Tryz.func58, Tryz.ntmps58
    go_wp2_with fail
    refine Calls.mono (HIT.out _) ?_
    rintro e w1 ⟨rfl, hg1⟩
    have HG1 : Hid (w.grownBy w1 none) := grown_trans HG0.out hg1
    clear hg1 HX0
    go_wp2_with fail
    go_ret
    exact ⟨by rw [HBB.out]; rfl, HG1.out⟩
  · have hd : decide (s < tn) = false := decide_eq_false h
    rw [hd] at HIT
    obtain ⟨k, hk⟩ : ∃ k, k = s - tn := ⟨_, rfl⟩
    have hsk : (s : Int) - (tn : Int) = (k : Int) := by omega
    have hk0 : (0 : Int) ≤ (k : Int) := by omega
    have hk1 : (k : Int) < (nn : Int) := by omega
    have HBB : Hid (b = F k) := by show _ = _; rw [HB.out, decide_eq_true (by omega), hk]; rfl
    clear hk
    go_enter Tryz.func58, Tryz.ntmps58
    go_wp2_with fail
    refine Calls.mono (HIT.out _) ?_
    rintro e w1 ⟨rfl, hg1⟩
    have HG1 : Hid (w.grownBy w1 none) := grown_trans HG0.out hg1
    have hbx := box_kept HX0.out hg1
    have c5 : w1.cell? ⟨w.heap.size, 5, none⟩ = some (.slice (some ⟨nb, 0, none⟩) nn nn) := by rw [cell_of_row _ _ _ _ _ _ hbx]; rfl
    have c0 : w1.cell? ⟨w.heap.size, 0, none⟩ = some (.slice ta tn tc) := by rw [cell_of_row _ _ _ _ _ _ hbx]; rfl
    have cv : w1.cell? ⟨nb, k, none⟩ = some (.bool (F k)) := (HV.out.kept HG1.out).cell k (by omega)
    clear hg1 HX0 hbx
    go_wp2_with fail
    go_ret
    exact ⟨by rw [HBB.out]; rfl, HG1.out⟩
end

end Go.Proofs.YthoamlahbnphkaaGreat.J
