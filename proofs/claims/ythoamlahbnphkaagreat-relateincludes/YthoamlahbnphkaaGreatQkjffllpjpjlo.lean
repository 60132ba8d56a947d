import Derived.Test.YthoamlahbnphkaaGreatQcgnaobagfikh
import Derived.Test.YthoamlahbnphkaaGreatQidgogjahlole
import Derived.Test.YthoamlahbnphkaaGreatQcolfchmhgfap
import Derived.Test.YthoamlahbnphkaaGreatQhilhekbodjfg
import Derived.BigQuiet

/-
  relate: Reads, Includes, Lookback, whatever automatonOf tells.
-/
namespace Go.Proofs.YthoamlahbnphkaaGreat.J
open Go.RowKit Go.Maps Go.Shelf

attribute [local go_sem] Oper.semAt_some

/-- What Reads and Includes tell. -/
def RelTold (T : Nat) (Q : Nat → List Int) (w : World) (e : Ending) (y : World) : Prop := ∃ P kb bx ua uc, w.grownBy P none ∧ e = .returned (.tuple #[.slice (some ⟨kb, 0, none⟩) T T, .int .i64 0]) ∧ LqP P y bx kb T Q ua uc
/-- What Lookback tells. -/
def BkTold (N n : Nat) (Q : Nat → List Int) (w : World) (e : Ending) (y : World) : Prop := ∃ P a c bx kb rb ua uc, w.grownBy P none ∧ e = .returned (.tuple #[.slice a (bkI Q n N).length c, .int .i64 0]) ∧ LbP P y bx kb N n Q rb ua uc ∧ y.ownsRow P.heap.size 40 3 (.slice a (bkI Q n N).length c) (bkI Q n N).length (bkV n Q ua uc (bkI Q n N))

section
variable (ta na la pa : Option Addr) (tc nc lc pc : Nat) (n : Nat) (st : Int) (w : World) (tn nn ln : Nat)

set_option maxRecDepth 100000 in
set_option maxHeartbeats 1000000 in
theorem ureads_bad (err : Int) (herr : err = 1 ∨ err = 11) (hOf : ∀ X, w.grownBy X none → Calls Tryz.prog 30 #[.agg #[.slice ta tn tc, .slice na nn nc, .slice la ln lc, .int .i64 st, .slice pa n pc]] X fun e y => e = .returned (.tuple #[.agg #[.slice none 0 0, .slice none 0 0, .slice none 0 0, .int .i64 0, .slice none 0 0, .slice none 0 0, .slice none 0 0, .slice none 0 0, .slice none 0 0, .slice none 0 0], .int .i64 err]) ∧ X.grownBy y none) : Calls Tryz.prog 12 #[.agg #[.slice ta tn tc, .slice na nn nc, .slice la ln lc, .int .i64 st, .slice pa n pc]] w fun e y => e = .returned (.tuple #[.slice none 0 0, .int .i64 err]) ∧ w.grownBy y none := by
  have HOF := show Hid _ from hOf
  have HG0 : Hid (w.grownBy (w.alloc (.cells #[.slice ta tn tc, .slice na nn nc, .slice la ln lc, .int .i64 st, .slice pa n pc] 27)) none) := World.grownBy_alloc _ _ none
  have hex : (err != 0) = true := by rcases herr with h | h <;> rw [h] <;> decide
  clear hOf herr
  go_enter Tryz.func12, Tryz.ntmps12
  go_wp2_with fail
  refine Calls.mono (HOF.out _ HG0.out) ?_
  rintro e w1 ⟨rfl, hg1⟩
  have HG1 : Hid (∀ o, w.grownBy (w1.alloc o) none) := fun o => grown_trans HG0.out (grown_trans hg1 (World.grownBy_alloc _ _ none))
  clear hg1
  go_wp2_with fail
  go_ret2
  exact ⟨rfl, HG1.out _⟩

set_option maxRecDepth 100000 in
set_option maxHeartbeats 1000000 in
theorem ureads_ok (ks : List (List It)) (es : List (List (Nat × Nat))) (tl : List It) (F : Nat → Bool) (hK : RlOK ks.length tl.length (tn + nn) tn nn ks es tl)
    (hOf : ∀ X, w.grownBy X none → Calls Tryz.prog 30 #[.agg #[.slice ta tn tc, .slice na nn nc, .slice la ln lc, .int .i64 st, .slice pa n pc]] X fun e y => UofTold ta na la pa tc nc lc pc n st tn nn ln ks es tl F X e y) : Calls Tryz.prog 12 #[.agg #[.slice ta tn tc, .slice na nn nc, .slice la ln lc, .int .i64 st, .slice pa n pc]] w fun e y => RelTold tl.length (foldQ (fun _ => []) (rdT es tl tn F tl.length)) w e y := by
  have HOF := show Hid _ from hOf
  have HG0 : Hid (w.grownBy (w.alloc (.cells #[.slice ta tn tc, .slice na nn nc, .slice la ln lc, .int .i64 st, .slice pa n pc] 27)) none) := World.grownBy_alloc _ _ none
  have HK := show Hid _ from hK
  clear hOf hK
  go_enter Tryz.func12, Tryz.ntmps12
  go_wp2_with fail
  refine Calls.mono (HOF.out _ HG0.out) ?_
  rintro e w1 ⟨nb, sa, xa, l1, m1, sc, xc, lc1, mc1, kv, ev, lb, mb, rfl, hR, hg1⟩
  obtain ⟨N, hN⟩ : ∃ N, N = ks.length := ⟨_, rfl⟩
  obtain ⟨T, hT⟩ : ∃ T, T = tl.length := ⟨_, rfl⟩
  rw [← hN, ← hT] at hR HK ⊢
  have HN := show Hid _ from hN
  have HT := show Hid _ from hT
  clear hN hT
  obtain ⟨W, hW⟩ : ∃ W, W = w1.alloc (.cells #[.slice ta tn tc, .slice na nn nc, .slice la ln lc, .int .i64 st, .slice pa n pc, .slice (some ⟨nb, 0, none⟩) nn nn, .slice sa N sc, .slice xa T xc, .slice l1 N lc1, .slice m1 N mc1] 81) := ⟨_, rfl⟩
  have hgW : w1.grownBy W none := by rw [hW]; exact World.grownBy_alloc _ _ none
  have hbW : W.heap[w1.heap.size]? = some (.cells #[.slice ta tn tc, .slice na nn nc, .slice la ln lc, .int .i64 st, .slice pa n pc, .slice (some ⟨nb, 0, none⟩) nn nn, .slice sa N sc, .slice xa T xc, .slice l1 N lc1, .slice m1 N mc1] 81 (0, 0)) := by rw [hW]; exact heap_alloc_last w1 _
  have HGW : Hid (w.grownBy W none) := grown_trans HG0.out (grown_trans hg1 hgW)
  have HRW : Hid (RaAt (w.alloc (.cells #[.slice ta tn tc, .slice na nn nc, .slice la ln lc, .int .i64 st, .slice pa n pc] 27)).heap.size W nb nn (tn + nn) (.slice sa N sc) (.slice xa T xc) (.slice l1 N lc1) (.slice m1 N mc1) ks es kv ev tl F lb mb) := hR.kept hgW
  have HCL : Hid (Calls Tryz.prog 31 #[.agg #[.slice ta tn tc, .slice na nn nc, .slice la ln lc, .int .i64 st, .slice pa n pc, .slice (some ⟨nb, 0, none⟩) nn nn, .slice sa N sc, .slice xa T xc, .slice l1 N lc1, .slice m1 N mc1], .func (.func 32) #[.agg #[.slice ta tn tc, .slice na nn nc, .slice la ln lc, .int .i64 st, .slice pa n pc, .slice (some ⟨nb, 0, none⟩) nn nn, .slice sa N sc, .slice xa T xc, .slice l1 N lc1, .slice m1 N mc1]] #[]] W fun e y => ListsTold T (foldQ (fun _ => []) (rdT es tl tn F T)) W e y) :=
    ulists_rd ta na la pa sa xa l1 m1 tc nc lc pc sc xc lc1 mc1 n N T nb st W tn nn ln _ HK.out.t40 fun X bx kb hl => uread_any ta na la pa sa xa l1 m1 tc nc lc pc sc xc lc1 mc1 n N T nb st X tn nn ln W _ (tn + nn) bx kb ks es kv ev tl F lb mb HK.out HRW.out (fun _ => []) (fun _ => Nat.zero_le _) ⟨_, _, hl⟩
  obtain ⟨a0, a1, a2, a3, a4, a5, a6, a7, a8, a9⟩ := av_cells hbW
  rw [hW] at a0 a1 a2 a3 a4 a5 a6 a7 a8 a9
  have HWE := show Hid _ from hW
  clear hR hgW hbW hg1 hW HOF HG0
  go_wp2_with fail
  rw [← HWE.out]
  refine Calls.mono HCL.out ?_
  rintro e y ⟨kb, bx, ua, uc, rfl, hL⟩
  have HL := show Hid _ from hL
  clear hL HCL HRW  a0 a1 a2 a3 a4 a5 a6 a7 a8 a9
  go_wp2_with fail
  go_ret2
  have e1 := HT.out
  subst e1
  exact ⟨W, kb, bx, ua, uc, HGW.out, rfl, HL.out⟩

set_option maxRecDepth 100000 in
set_option maxHeartbeats 1000000 in
theorem uincludes_bad (err : Int) (herr : err = 1 ∨ err = 11) (hOf : ∀ X, w.grownBy X none → Calls Tryz.prog 30 #[.agg #[.slice ta tn tc, .slice na nn nc, .slice la ln lc, .int .i64 st, .slice pa n pc]] X fun e y => e = .returned (.tuple #[.agg #[.slice none 0 0, .slice none 0 0, .slice none 0 0, .int .i64 0, .slice none 0 0, .slice none 0 0, .slice none 0 0, .slice none 0 0, .slice none 0 0, .slice none 0 0], .int .i64 err]) ∧ X.grownBy y none) : Calls Tryz.prog 13 #[.agg #[.slice ta tn tc, .slice na nn nc, .slice la ln lc, .int .i64 st, .slice pa n pc]] w fun e y => e = .returned (.tuple #[.slice none 0 0, .int .i64 err]) ∧ w.grownBy y none := by
  have HOF := show Hid _ from hOf
  have HG0 : Hid (w.grownBy (w.alloc (.cells #[.slice ta tn tc, .slice na nn nc, .slice la ln lc, .int .i64 st, .slice pa n pc] 27)) none) := World.grownBy_alloc _ _ none
  have hex : (err != 0) = true := by rcases herr with h | h <;> rw [h] <;> decide
  clear hOf herr
  go_enter Tryz.func13, Tryz.ntmps13
  go_wp2_with fail
  refine Calls.mono (HOF.out _ HG0.out) ?_
  rintro e w1 ⟨rfl, hg1⟩
  have HG1 : Hid (∀ o, w.grownBy (w1.alloc o) none) := fun o => grown_trans HG0.out (grown_trans hg1 (World.grownBy_alloc _ _ none))
  clear hg1
  go_wp2_with fail
  go_ret2
  exact ⟨rfl, HG1.out _⟩

set_option maxRecDepth 100000 in
set_option maxHeartbeats 1000000 in
theorem uincludes_ok (ks : List (List It)) (es : List (List (Nat × Nat))) (tl : List It) (F : Nat → Bool) (L : Nat → Int) (R : Nat → List Int) (ra : Nat → Option Addr) (rc : Nat → Nat) (V : Nat → Int) (hK : RlOK ks.length tl.length (tn + nn) tn nn ks es tl) (hPr : ProdsAt w pa n L R ra rc V) (hn : n ≤ 1000) (hrow : RowsOK n tl.length (tn + nn) tl L R)
    (hOf : ∀ X, w.grownBy X none → Calls Tryz.prog 30 #[.agg #[.slice ta tn tc, .slice na nn nc, .slice la ln lc, .int .i64 st, .slice pa n pc]] X fun e y => UofTold ta na la pa tc nc lc pc n st tn nn ln ks es tl F X e y) : Calls Tryz.prog 13 #[.agg #[.slice ta tn tc, .slice na nn nc, .slice la ln lc, .int .i64 st, .slice pa n pc]] w fun e y => RelTold tl.length (foldQ (fun _ => []) (inT es tl tn F n L R tl.length)) w e y := by
  have HOF := show Hid _ from hOf
  have HG0 : Hid (w.grownBy (w.alloc (.cells #[.slice ta tn tc, .slice na nn nc, .slice la ln lc, .int .i64 st, .slice pa n pc] 27)) none) := World.grownBy_alloc _ _ none
  have HPR : Hid (∀ X, w.grownBy X none → ProdsAt X pa n L R ra rc V) := fun X hX => hPr.kept hX
  have HK := show Hid _ from hK
  have HROW := show Hid _ from hrow
  clear hOf hPr hK hrow
  go_enter Tryz.func13, Tryz.ntmps13
  go_wp2_with fail
  refine Calls.mono (HOF.out _ HG0.out) ?_
  rintro e w1 ⟨nb, sa, xa, l1, m1, sc, xc, lc1, mc1, kv, ev, lb, mb, rfl, hR, hg1⟩
  obtain ⟨N, hN⟩ : ∃ N, N = ks.length := ⟨_, rfl⟩
  obtain ⟨T, hT⟩ : ∃ T, T = tl.length := ⟨_, rfl⟩
  rw [← hN, ← hT] at hR HK ⊢
  rw [← hT] at HROW
  have HN := show Hid _ from hN
  have HT := show Hid _ from hT
  clear hN hT
  obtain ⟨W, hW⟩ : ∃ W, W = w1.alloc (.cells #[.slice ta tn tc, .slice na nn nc, .slice la ln lc, .int .i64 st, .slice pa n pc, .slice (some ⟨nb, 0, none⟩) nn nn, .slice sa N sc, .slice xa T xc, .slice l1 N lc1, .slice m1 N mc1] 81) := ⟨_, rfl⟩
  have hgW : w1.grownBy W none := by rw [hW]; exact World.grownBy_alloc _ _ none
  have hbW : W.heap[w1.heap.size]? = some (.cells #[.slice ta tn tc, .slice na nn nc, .slice la ln lc, .int .i64 st, .slice pa n pc, .slice (some ⟨nb, 0, none⟩) nn nn, .slice sa N sc, .slice xa T xc, .slice l1 N lc1, .slice m1 N mc1] 81 (0, 0)) := by rw [hW]; exact heap_alloc_last w1 _
  have HGW : Hid (w.grownBy W none) := grown_trans HG0.out (grown_trans hg1 hgW)
  have HRW : Hid (RaAt (w.alloc (.cells #[.slice ta tn tc, .slice na nn nc, .slice la ln lc, .int .i64 st, .slice pa n pc] 27)).heap.size W nb nn (tn + nn) (.slice sa N sc) (.slice xa T xc) (.slice l1 N lc1) (.slice m1 N mc1) ks es kv ev tl F lb mb) := hR.kept hgW
  have HPW : Hid (ProdsAt W pa n L R ra rc V) := HPR.out W HGW.out
  have HCL : Hid (Calls Tryz.prog 31 #[.agg #[.slice ta tn tc, .slice na nn nc, .slice la ln lc, .int .i64 st, .slice pa n pc, .slice (some ⟨nb, 0, none⟩) nn nn, .slice sa N sc, .slice xa T xc, .slice l1 N lc1, .slice m1 N mc1], .func (.func 33) #[.agg #[.slice ta tn tc, .slice na nn nc, .slice la ln lc, .int .i64 st, .slice pa n pc, .slice (some ⟨nb, 0, none⟩) nn nn, .slice sa N sc, .slice xa T xc, .slice l1 N lc1, .slice m1 N mc1]] #[]] W fun e y => ListsTold T (foldQ (fun _ => []) (inT es tl tn F n L R T)) W e y) :=
    ulists_inc ta na la pa sa xa l1 m1 tc nc lc pc sc xc lc1 mc1 n N T nb st W tn nn ln _ HK.out.t40 fun X bx kb hl => uinc_any ta na la pa sa xa l1 m1 tc nc lc pc sc xc lc1 mc1 n N T nb st X tn nn ln W _ (tn + nn) bx kb ks es kv ev tl F lb mb L R ra rc V HK.out HRW.out HPW.out hn HROW.out ⟨_, _, hl⟩
  obtain ⟨a0, a1, a2, a3, a4, a5, a6, a7, a8, a9⟩ := av_cells hbW
  rw [hW] at a0 a1 a2 a3 a4 a5 a6 a7 a8 a9
  have HWE := show Hid _ from hW
  clear hR hgW hbW hg1 hW HPR HOF HG0
  go_wp2_with fail
  rw [← HWE.out]
  refine Calls.mono HCL.out ?_
  rintro e y ⟨kb, bx, ua, uc, rfl, hL⟩
  have HL := show Hid _ from hL
  clear hL HCL HRW HPW a0 a1 a2 a3 a4 a5 a6 a7 a8 a9
  go_wp2_with fail
  go_ret2
  have e1 := HT.out
  subst e1
  exact ⟨W, kb, bx, ua, uc, HGW.out, rfl, HL.out⟩

set_option maxRecDepth 100000 in
set_option maxHeartbeats 1000000 in
theorem ulookback_bad (err : Int) (herr : err = 1 ∨ err = 11) (hOf : ∀ X, w.grownBy X none → Calls Tryz.prog 30 #[.agg #[.slice ta tn tc, .slice na nn nc, .slice la ln lc, .int .i64 st, .slice pa n pc]] X fun e y => e = .returned (.tuple #[.agg #[.slice none 0 0, .slice none 0 0, .slice none 0 0, .int .i64 0, .slice none 0 0, .slice none 0 0, .slice none 0 0, .slice none 0 0, .slice none 0 0, .slice none 0 0], .int .i64 err]) ∧ X.grownBy y none) : Calls Tryz.prog 14 #[.agg #[.slice ta tn tc, .slice na nn nc, .slice la ln lc, .int .i64 st, .slice pa n pc]] w fun e y => e = .returned (.tuple #[.slice none 0 0, .int .i64 err]) ∧ w.grownBy y none := by
  have HOF := show Hid _ from hOf
  have HG0 : Hid (w.grownBy (w.alloc (.cells #[.slice ta tn tc, .slice na nn nc, .slice la ln lc, .int .i64 st, .slice pa n pc] 27)) none) := World.grownBy_alloc _ _ none
  have hex : (err != 0) = true := by rcases herr with h | h <;> rw [h] <;> decide
  clear hOf herr
  go_enter Tryz.func14, Tryz.ntmps14
  go_wp2_with fail
  refine Calls.mono (HOF.out _ HG0.out) ?_
  rintro e w1 ⟨rfl, hg1⟩
  have HG1 : Hid (∀ o, w.grownBy (w1.alloc o) none) := fun o => grown_trans HG0.out (grown_trans hg1 (World.grownBy_alloc _ _ none))
  clear hg1
  go_wp2_with fail
  go_ret2
  exact ⟨rfl, HG1.out _⟩

set_option maxRecDepth 100000 in
set_option maxHeartbeats 1000000 in
theorem ulookback_ok (ks : List (List It)) (es : List (List (Nat × Nat))) (tl : List It) (F : Nat → Bool) (L : Nat → Int) (R : Nat → List Int) (ra : Nat → Option Addr) (rc : Nat → Nat) (V : Nat → Int) (hK : RlOK ks.length tl.length (tn + nn) tn nn ks es tl) (hPr : ProdsAt w pa n L R ra rc V) (hn : n ≤ 1000) (hrow : RowsOK n tl.length (tn + nn) tl L R)
    (hOf : ∀ X, w.grownBy X none → Calls Tryz.prog 30 #[.agg #[.slice ta tn tc, .slice na nn nc, .slice la ln lc, .int .i64 st, .slice pa n pc]] X fun e y => UofTold ta na la pa tc nc lc pc n st tn nn ln ks es tl F X e y) : Calls Tryz.prog 14 #[.agg #[.slice ta tn tc, .slice na nn nc, .slice la ln lc, .int .i64 st, .slice pa n pc]] w fun e y => BkTold ks.length n (foldA (lbT es tl n L R tl.length)) w e y := by
  have HOF := show Hid _ from hOf
  have HG0 : Hid (w.grownBy (w.alloc (.cells #[.slice ta tn tc, .slice na nn nc, .slice la ln lc, .int .i64 st, .slice pa n pc] 27)) none) := World.grownBy_alloc _ _ none
  have HPR : Hid (∀ X, w.grownBy X none → ProdsAt X pa n L R ra rc V) := fun X hX => hPr.kept hX
  have HK := show Hid _ from hK
  have HROW := show Hid _ from hrow
  clear hOf hPr hK hrow
  go_enter Tryz.func14, Tryz.ntmps14
  go_wp2_with fail
  refine Calls.mono (HOF.out _ HG0.out) ?_
  rintro e w1 ⟨nb, sa, xa, l1, m1, sc, xc, lc1, mc1, kv, ev, lb, mb, rfl, hR, hg1⟩
  obtain ⟨N, hN⟩ : ∃ N, N = ks.length := ⟨_, rfl⟩
  obtain ⟨T, hT⟩ : ∃ T, T = tl.length := ⟨_, rfl⟩
  rw [← hN, ← hT] at hR HK ⊢
  rw [← hT] at HROW
  have HN := show Hid _ from hN
  have HT := show Hid _ from hT
  clear hN hT
  obtain ⟨W, hW⟩ : ∃ W, W = w1.alloc (.cells #[.slice ta tn tc, .slice na nn nc, .slice la ln lc, .int .i64 st, .slice pa n pc, .slice (some ⟨nb, 0, none⟩) nn nn, .slice sa N sc, .slice xa T xc, .slice l1 N lc1, .slice m1 N mc1] 81) := ⟨_, rfl⟩
  have hgW : w1.grownBy W none := by rw [hW]; exact World.grownBy_alloc _ _ none
  have hbW : W.heap[w1.heap.size]? = some (.cells #[.slice ta tn tc, .slice na nn nc, .slice la ln lc, .int .i64 st, .slice pa n pc, .slice (some ⟨nb, 0, none⟩) nn nn, .slice sa N sc, .slice xa T xc, .slice l1 N lc1, .slice m1 N mc1] 81 (0, 0)) := by rw [hW]; exact heap_alloc_last w1 _
  have HGW : Hid (w.grownBy W none) := grown_trans HG0.out (grown_trans hg1 hgW)
  have HRW : Hid (RaAt (w.alloc (.cells #[.slice ta tn tc, .slice na nn nc, .slice la ln lc, .int .i64 st, .slice pa n pc] 27)).heap.size W nb nn (tn + nn) (.slice sa N sc) (.slice xa T xc) (.slice l1 N lc1) (.slice m1 N mc1) ks es kv ev tl F lb mb) := hR.kept hgW
  have HPW : Hid (ProdsAt W pa n L R ra rc V) := HPR.out W HGW.out
  have HCL : Hid (Calls Tryz.prog 34 #[.agg #[.slice ta tn tc, .slice na nn nc, .slice la ln lc, .int .i64 st, .slice pa n pc, .slice (some ⟨nb, 0, none⟩) nn nn, .slice sa N sc, .slice xa T xc, .slice l1 N lc1, .slice m1 N mc1]] W fun e y => BacksTold N n (foldA (lbT es tl n L R T)) W e y) :=
    ubacks_any ta na la pa sa xa l1 m1 tc nc lc pc sc xc lc1 mc1 n N T nb st W tn nn ln _ HK.out.n256 hn fun X bx kb rb hl => ulb_any ta na la pa sa xa l1 m1 tc nc lc pc sc xc lc1 mc1 n N T nb st X tn nn ln W _ (tn + nn) bx kb ks es kv ev tl F lb mb L R ra rc V HK.out HRW.out HPW.out hn HROW.out rb ⟨_, _, hl⟩
  obtain ⟨a0, a1, a2, a3, a4, a5, a6, a7, a8, a9⟩ := av_cells hbW
  rw [hW] at a0 a1 a2 a3 a4 a5 a6 a7 a8 a9
  have HWE := show Hid _ from hW
  clear hR hgW hbW hg1 hW HPR HOF HG0
  go_wp2_with fail
  rw [← HWE.out]
  refine Calls.mono HCL.out ?_
  rintro e y ⟨a, c, bx, kb, rb, ua, uc, rfl, hL, ho⟩
  have HL := show Hid _ from hL
  have HO := show Hid _ from ho
  clear hL ho HCL HRW HPW a0 a1 a2 a3 a4 a5 a6 a7 a8 a9
  go_wp2_with fail
  go_ret2
  have e1 := HT.out
  subst e1
  have e2 := HN.out
  subst e2
  exact ⟨W, a, c, bx, kb, rb, ua, uc, HGW.out, rfl, HL.out, HO.out⟩
end

end Go.Proofs.YthoamlahbnphkaaGreat.J

/-
  relate: the rows that are gone over are short.
-/
namespace Go.Proofs.YthoamlahbnphkaaGreat.J
open Go.RowKit Go.Maps Go.Shelf

/-- No dot of a kernel stands further than its state's number. -/
def PD (n : Nat) (R : Nat → List Int) (j : Nat) (k : List It) : Prop := PJ n R j k ∧ ∀ x ∈ k, x.2 ≤ (j : Int)
theorem CLo_dot {tn n : Nat} {L : Nat → Int} {R : Nat → List Int} {k : List It} {j : Int} (hj : 0 ≤ j) (hk : ∀ x ∈ k, x.2 ≤ j) : ∀ x ∈ CLo tn n L R k, x.2 ≤ j := by
  unfold CLo
  by_cases hh : ∃ l, IsClo tn n L R k l ∧ l.length ≤ k.length + 13000
  · rw [dif_pos hh]
    have h1 := Classical.choose_spec hh
    exact fun x hx => ((h1.1.mem x).1 hx) (fun y => y.2 ≤ j) hk (fun y m _ _ _ _ => hj)
  · rw [dif_neg hh]
    exact fun x hx => absurd hx (by simp)
theorem PD.GG {tn n : Nat} {L : Nat → Int} {R : Nat → List Int} {i m : Nat} {k : List It} (s : Nat) (h : PD n R i k) (hm : i < m) : PD n R m (GG tn n L R k s) := by
  refine ⟨h.1.GG s hm, fun x hx => ?_⟩
  obtain ⟨y, hy, _, rfl⟩ := mem_GG.1 hx
  have := CLo_dot (by omega) h.2 y hy
  simp only
  omega
theorem dot_le {tn nn n : Nat} {L : Nat → Int} {R : Nat → List Int} (hn0 : 0 < n) {ks : List (List It)} {es : List (List (Nat × Nat))} (h : autoF (GG tn n L R) (tn + nn) 256 = some (ks, es)) {q : Nat} (hq : q < ks.length) : ∀ x ∈ ks.getD q [], x.2 ≤ (q : Int) :=
  ((autoOK (P := PD n R) ⟨⟨fun x hx => by
    rw [List.mem_singleton.1 hx]
    unfold itB
    simp only [Bool.and_eq_true, decide_eq_true_eq]
    exact ⟨⟨⟨by omega, by omega⟩, by omega⟩, by omega⟩, by simp⟩, fun x hx => by rw [List.mem_singleton.1 hx]; exact Int.le_refl _⟩ (fun _ _ _ s hp hm => hp.GG s hm) 256 h).kok.each q hq).2
/-- A production that is begun has a short row. -/
theorem row_short {tn nn n : Nat} {L : Nat → Int} {R : Nat → List Int} {ks : List (List It)} {es : List (List (Nat × Nat))} (hn0 : 0 < n) (hau : autoF (GG tn n L R) (tn + nn) 256 = some (ks, es)) (h : AutF (GG tn n L R) n R (tn + nn) ks es) (hR : ∀ k, k < n → ∀ x ∈ R k, (0 : Int) < x ∧ x < ((tn + nn : Nat) : Int)) (hCl : ∀ q, q < ks.length → IsClo tn n L R (ks.getD q []) (CLo tn n L R (ks.getD q []))) {q P : Nat} (hq : q < ks.length) (hP : P < n) (hx : ((P : Int), (0 : Int)) ∈ CLo tn n L R (ks.getD q [])) : (R P).length ≤ 256 := by
  by_cases e : (R P).length = 0
  · omega
  · obtain ⟨h1, h2, h3⟩ := right_st h hR hCl hq hP hx ((R P).length - 1) (by omega)
    obtain ⟨u, h4, h5, h6⟩ := goes_on h hR h1 hP (by omega) h3
    have h7 := dot_le hn0 hau h4 _ h6
    have h8 := h.kok.le
    simp only at h7
    omega

end Go.Proofs.YthoamlahbnphkaaGreat.J

/-
  relate: the law's small grammar. (Printed by tools/usmallgen.py.)
-/
namespace Go.Proofs.YthoamlahbnphkaaGreat.J
open Go.RowKit Go.Maps Go.Shelf

attribute [local go_sem] Oper.semAt_some

def vTs : List (ByteArray × Int) := [(⟨#[]⟩, 0), (⟨#[120]⟩, 0), (⟨#[121]⟩, 0)]
def vNs : List ByteArray := [⟨#[]⟩, ⟨#[115]⟩, ⟨#[97]⟩, ⟨#[98]⟩]
def vL (i : Nat) : Int := if i = 0 then 3 else if i = 1 then 4 else if i = 2 then 4 else if i = 3 then 5 else 6
def vR (i : Nat) : List Int := if i = 0 then [4] else if i = 1 then [5, 4, 6] else if i = 2 then [1] else if i = 5 then [2] else []

theorem v_gat {Z : World} {b1 b2 b3 b4 b5 b6 b7 : Nat} (h1 : Z.heap[b1]? = some (.cells #[.string ⟨#[]⟩, .int .i64 0, .string ⟨#[120]⟩, .int .i64 0, .string ⟨#[121]⟩, .int .i64 0] 88 (0, 0))) (h2 : Z.heap[b2]? = some (.cells #[.string ⟨#[]⟩, .string ⟨#[115]⟩, .string ⟨#[97]⟩, .string ⟨#[98]⟩] 9 (0, 0))) (h3 : Z.heap[b3]? = some (.cells #[.int .i64 4] 3 (0, 0))) (h4 : Z.heap[b4]? = some (.cells #[.int .i64 5, .int .i64 4, .int .i64 6] 3 (0, 0))) (h5 : Z.heap[b5]? = some (.cells #[.int .i64 1] 3 (0, 0))) (h6 : Z.heap[b6]? = some (.cells #[.int .i64 2] 3 (0, 0))) (h7 : Z.heap[b7]? = some (.cells #[.int .i64 3, .slice (some ⟨b3, 0, none⟩) 1 1, .int .i64 0, .int .i64 4, .slice (some ⟨b4, 0, none⟩) 3 3, .int .i64 0, .int .i64 4, .slice (some ⟨b5, 0, none⟩) 1 1, .int .i64 0, .int .i64 5, .slice none 0 0, .int .i64 0, .int .i64 6, .slice none 0 0, .int .i64 0, .int .i64 6, .slice (some ⟨b6, 0, none⟩) 1 1, .int .i64 0] 71 (0, 0))) :
    ∃ ra rc, GAt Z (some ⟨b1, 0, none⟩) (some ⟨b2, 0, none⟩) none (some ⟨b7, 0, none⟩) 3 4 0 6 vTs vNs [] 6 vL vR ra rc (fun _ => 0) := by
  refine ⟨fun i => if i = 0 then some ⟨b3, 0, none⟩ else if i = 1 then some ⟨b4, 0, none⟩ else if i = 2 then some ⟨b5, 0, none⟩ else if i = 5 then some ⟨b6, 0, none⟩ else none, fun i => if i = 1 then 3 else if i = 3 then 0 else if i = 4 then 0 else 1, .inr ⟨_, 0, rfl, fun i hi => ?_⟩, .inr ⟨_, 0, rfl, fun i hi => ?_⟩, .inl rfl, .inr ⟨_, 0, rfl, fun k hk => ?_⟩, by decide, by decide, by decide, (fun h => by cases h), (fun h => by cases h), by decide, by decide, by decide, by decide⟩
  · have h8 : i = 0 ∨ i = 1 ∨ i = 2 := by simp [vTs] at hi; omega
    rcases h8 with rfl | rfl | rfl <;> exact ⟨by rw [cell_of_row _ _ _ _ _ _ h1]; rfl, by rw [cell_of_row _ _ _ _ _ _ h1]; rfl⟩
  · have h8 : i = 0 ∨ i = 1 ∨ i = 2 ∨ i = 3 := by simp [vNs] at hi; omega
    rcases h8 with rfl | rfl | rfl | rfl <;> (rw [cell_of_row _ _ _ _ _ _ h2]; rfl)
  · have h8 : k = 0 ∨ k = 1 ∨ k = 2 ∨ k = 3 ∨ k = 4 ∨ k = 5 := by omega
    rcases h8 with rfl | rfl | rfl | rfl | rfl | rfl
    · refine ⟨by rw [cell_of_row _ _ _ _ _ _ h7]; rfl, by rw [cell_of_row _ _ _ _ _ _ h7]; rfl, by rw [cell_of_row _ _ _ _ _ _ h7]; rfl, .inr ⟨b3, 0, rfl, fun i hi => ?_⟩, (fun h => by cases h), by decide⟩
      have h9 : i = 0 := by simp [vR] at hi; omega
      subst h9
      rw [cell_of_row _ _ _ _ _ _ h3]; rfl
    · refine ⟨by rw [cell_of_row _ _ _ _ _ _ h7]; rfl, by rw [cell_of_row _ _ _ _ _ _ h7]; rfl, by rw [cell_of_row _ _ _ _ _ _ h7]; rfl, .inr ⟨b4, 0, rfl, fun i hi => ?_⟩, (fun h => by cases h), by decide⟩
      have h9 : i = 0 ∨ i = 1 ∨ i = 2 := by simp [vR] at hi; omega
      rcases h9 with rfl | rfl | rfl <;> (rw [cell_of_row _ _ _ _ _ _ h4]; rfl)
    · refine ⟨by rw [cell_of_row _ _ _ _ _ _ h7]; rfl, by rw [cell_of_row _ _ _ _ _ _ h7]; rfl, by rw [cell_of_row _ _ _ _ _ _ h7]; rfl, .inr ⟨b5, 0, rfl, fun i hi => ?_⟩, (fun h => by cases h), by decide⟩
      have h9 : i = 0 := by simp [vR] at hi; omega
      subst h9
      rw [cell_of_row _ _ _ _ _ _ h5]; rfl
    · exact ⟨by rw [cell_of_row _ _ _ _ _ _ h7]; rfl, by rw [cell_of_row _ _ _ _ _ _ h7]; rfl, by rw [cell_of_row _ _ _ _ _ _ h7]; rfl, .inl rfl, (fun _ => by decide), by decide⟩
    · exact ⟨by rw [cell_of_row _ _ _ _ _ _ h7]; rfl, by rw [cell_of_row _ _ _ _ _ _ h7]; rfl, by rw [cell_of_row _ _ _ _ _ _ h7]; rfl, .inl rfl, (fun _ => by decide), by decide⟩
    · refine ⟨by rw [cell_of_row _ _ _ _ _ _ h7]; rfl, by rw [cell_of_row _ _ _ _ _ _ h7]; rfl, by rw [cell_of_row _ _ _ _ _ _ h7]; rfl, .inr ⟨b6, 0, rfl, fun i hi => ?_⟩, (fun h => by cases h), by decide⟩
      have h9 : i = 0 := by simp [vR] at hi; omega
      subst h9
      rw [cell_of_row _ _ _ _ _ _ h6]; rfl

theorem v_chain (w : World) (cs : Array Value) : (((((((((w.alloc (.cells cs 27)).alloc (.cells #[.string ⟨#[]⟩, .int .i64 0, .string ⟨#[120]⟩, .int .i64 0, .string ⟨#[121]⟩, .int .i64 0] 88)).alloc (.cells #[.string ⟨#[]⟩, .string ⟨#[115]⟩, .string ⟨#[97]⟩, .string ⟨#[98]⟩] 9)).alloc (.cells #[.int .i64 4] 3)).alloc (.cells #[.int .i64 5, .int .i64 4, .int .i64 6] 3)).alloc (.cells #[.int .i64 1] 3)).alloc (.cells #[.int .i64 2] 3)).alloc (.cells #[.int .i64 3, .slice (some ⟨w.heap.size + 1 + 1 + 1, 0, none⟩) 1 1, .int .i64 0, .int .i64 4, .slice (some ⟨w.heap.size + 1 + 1 + 1 + 1, 0, none⟩) 3 3, .int .i64 0, .int .i64 4, .slice (some ⟨w.heap.size + 1 + 1 + 1 + 1 + 1, 0, none⟩) 1 1, .int .i64 0, .int .i64 5, .slice none 0 0, .int .i64 0, .int .i64 6, .slice none 0 0, .int .i64 0, .int .i64 6, .slice (some ⟨w.heap.size + 1 + 1 + 1 + 1 + 1 + 1, 0, none⟩) 1 1, .int .i64 0] 71)).heap[w.heap.size]? = some (.cells cs 27 (0, 0)) ∧ ((((((((w.alloc (.cells cs 27)).alloc (.cells #[.string ⟨#[]⟩, .int .i64 0, .string ⟨#[120]⟩, .int .i64 0, .string ⟨#[121]⟩, .int .i64 0] 88)).alloc (.cells #[.string ⟨#[]⟩, .string ⟨#[115]⟩, .string ⟨#[97]⟩, .string ⟨#[98]⟩] 9)).alloc (.cells #[.int .i64 4] 3)).alloc (.cells #[.int .i64 5, .int .i64 4, .int .i64 6] 3)).alloc (.cells #[.int .i64 1] 3)).alloc (.cells #[.int .i64 2] 3)).alloc (.cells #[.int .i64 3, .slice (some ⟨w.heap.size + 1 + 1 + 1, 0, none⟩) 1 1, .int .i64 0, .int .i64 4, .slice (some ⟨w.heap.size + 1 + 1 + 1 + 1, 0, none⟩) 3 3, .int .i64 0, .int .i64 4, .slice (some ⟨w.heap.size + 1 + 1 + 1 + 1 + 1, 0, none⟩) 1 1, .int .i64 0, .int .i64 5, .slice none 0 0, .int .i64 0, .int .i64 6, .slice none 0 0, .int .i64 0, .int .i64 6, .slice (some ⟨w.heap.size + 1 + 1 + 1 + 1 + 1 + 1, 0, none⟩) 1 1, .int .i64 0] 71)).heap[w.heap.size + 1]? = some (.cells #[.string ⟨#[]⟩, .int .i64 0, .string ⟨#[120]⟩, .int .i64 0, .string ⟨#[121]⟩, .int .i64 0] 88 (0, 0)) ∧ ((((((((w.alloc (.cells cs 27)).alloc (.cells #[.string ⟨#[]⟩, .int .i64 0, .string ⟨#[120]⟩, .int .i64 0, .string ⟨#[121]⟩, .int .i64 0] 88)).alloc (.cells #[.string ⟨#[]⟩, .string ⟨#[115]⟩, .string ⟨#[97]⟩, .string ⟨#[98]⟩] 9)).alloc (.cells #[.int .i64 4] 3)).alloc (.cells #[.int .i64 5, .int .i64 4, .int .i64 6] 3)).alloc (.cells #[.int .i64 1] 3)).alloc (.cells #[.int .i64 2] 3)).alloc (.cells #[.int .i64 3, .slice (some ⟨w.heap.size + 1 + 1 + 1, 0, none⟩) 1 1, .int .i64 0, .int .i64 4, .slice (some ⟨w.heap.size + 1 + 1 + 1 + 1, 0, none⟩) 3 3, .int .i64 0, .int .i64 4, .slice (some ⟨w.heap.size + 1 + 1 + 1 + 1 + 1, 0, none⟩) 1 1, .int .i64 0, .int .i64 5, .slice none 0 0, .int .i64 0, .int .i64 6, .slice none 0 0, .int .i64 0, .int .i64 6, .slice (some ⟨w.heap.size + 1 + 1 + 1 + 1 + 1 + 1, 0, none⟩) 1 1, .int .i64 0] 71)).heap[w.heap.size + 1 + 1]? = some (.cells #[.string ⟨#[]⟩, .string ⟨#[115]⟩, .string ⟨#[97]⟩, .string ⟨#[98]⟩] 9 (0, 0)) ∧ ((((((((w.alloc (.cells cs 27)).alloc (.cells #[.string ⟨#[]⟩, .int .i64 0, .string ⟨#[120]⟩, .int .i64 0, .string ⟨#[121]⟩, .int .i64 0] 88)).alloc (.cells #[.string ⟨#[]⟩, .string ⟨#[115]⟩, .string ⟨#[97]⟩, .string ⟨#[98]⟩] 9)).alloc (.cells #[.int .i64 4] 3)).alloc (.cells #[.int .i64 5, .int .i64 4, .int .i64 6] 3)).alloc (.cells #[.int .i64 1] 3)).alloc (.cells #[.int .i64 2] 3)).alloc (.cells #[.int .i64 3, .slice (some ⟨w.heap.size + 1 + 1 + 1, 0, none⟩) 1 1, .int .i64 0, .int .i64 4, .slice (some ⟨w.heap.size + 1 + 1 + 1 + 1, 0, none⟩) 3 3, .int .i64 0, .int .i64 4, .slice (some ⟨w.heap.size + 1 + 1 + 1 + 1 + 1, 0, none⟩) 1 1, .int .i64 0, .int .i64 5, .slice none 0 0, .int .i64 0, .int .i64 6, .slice none 0 0, .int .i64 0, .int .i64 6, .slice (some ⟨w.heap.size + 1 + 1 + 1 + 1 + 1 + 1, 0, none⟩) 1 1, .int .i64 0] 71)).heap[w.heap.size + 1 + 1 + 1]? = some (.cells #[.int .i64 4] 3 (0, 0)) ∧ ((((((((w.alloc (.cells cs 27)).alloc (.cells #[.string ⟨#[]⟩, .int .i64 0, .string ⟨#[120]⟩, .int .i64 0, .string ⟨#[121]⟩, .int .i64 0] 88)).alloc (.cells #[.string ⟨#[]⟩, .string ⟨#[115]⟩, .string ⟨#[97]⟩, .string ⟨#[98]⟩] 9)).alloc (.cells #[.int .i64 4] 3)).alloc (.cells #[.int .i64 5, .int .i64 4, .int .i64 6] 3)).alloc (.cells #[.int .i64 1] 3)).alloc (.cells #[.int .i64 2] 3)).alloc (.cells #[.int .i64 3, .slice (some ⟨w.heap.size + 1 + 1 + 1, 0, none⟩) 1 1, .int .i64 0, .int .i64 4, .slice (some ⟨w.heap.size + 1 + 1 + 1 + 1, 0, none⟩) 3 3, .int .i64 0, .int .i64 4, .slice (some ⟨w.heap.size + 1 + 1 + 1 + 1 + 1, 0, none⟩) 1 1, .int .i64 0, .int .i64 5, .slice none 0 0, .int .i64 0, .int .i64 6, .slice none 0 0, .int .i64 0, .int .i64 6, .slice (some ⟨w.heap.size + 1 + 1 + 1 + 1 + 1 + 1, 0, none⟩) 1 1, .int .i64 0] 71)).heap[w.heap.size + 1 + 1 + 1 + 1]? = some (.cells #[.int .i64 5, .int .i64 4, .int .i64 6] 3 (0, 0)) ∧ ((((((((w.alloc (.cells cs 27)).alloc (.cells #[.string ⟨#[]⟩, .int .i64 0, .string ⟨#[120]⟩, .int .i64 0, .string ⟨#[121]⟩, .int .i64 0] 88)).alloc (.cells #[.string ⟨#[]⟩, .string ⟨#[115]⟩, .string ⟨#[97]⟩, .string ⟨#[98]⟩] 9)).alloc (.cells #[.int .i64 4] 3)).alloc (.cells #[.int .i64 5, .int .i64 4, .int .i64 6] 3)).alloc (.cells #[.int .i64 1] 3)).alloc (.cells #[.int .i64 2] 3)).alloc (.cells #[.int .i64 3, .slice (some ⟨w.heap.size + 1 + 1 + 1, 0, none⟩) 1 1, .int .i64 0, .int .i64 4, .slice (some ⟨w.heap.size + 1 + 1 + 1 + 1, 0, none⟩) 3 3, .int .i64 0, .int .i64 4, .slice (some ⟨w.heap.size + 1 + 1 + 1 + 1 + 1, 0, none⟩) 1 1, .int .i64 0, .int .i64 5, .slice none 0 0, .int .i64 0, .int .i64 6, .slice none 0 0, .int .i64 0, .int .i64 6, .slice (some ⟨w.heap.size + 1 + 1 + 1 + 1 + 1 + 1, 0, none⟩) 1 1, .int .i64 0] 71)).heap[w.heap.size + 1 + 1 + 1 + 1 + 1]? = some (.cells #[.int .i64 1] 3 (0, 0)) ∧ ((((((((w.alloc (.cells cs 27)).alloc (.cells #[.string ⟨#[]⟩, .int .i64 0, .string ⟨#[120]⟩, .int .i64 0, .string ⟨#[121]⟩, .int .i64 0] 88)).alloc (.cells #[.string ⟨#[]⟩, .string ⟨#[115]⟩, .string ⟨#[97]⟩, .string ⟨#[98]⟩] 9)).alloc (.cells #[.int .i64 4] 3)).alloc (.cells #[.int .i64 5, .int .i64 4, .int .i64 6] 3)).alloc (.cells #[.int .i64 1] 3)).alloc (.cells #[.int .i64 2] 3)).alloc (.cells #[.int .i64 3, .slice (some ⟨w.heap.size + 1 + 1 + 1, 0, none⟩) 1 1, .int .i64 0, .int .i64 4, .slice (some ⟨w.heap.size + 1 + 1 + 1 + 1, 0, none⟩) 3 3, .int .i64 0, .int .i64 4, .slice (some ⟨w.heap.size + 1 + 1 + 1 + 1 + 1, 0, none⟩) 1 1, .int .i64 0, .int .i64 5, .slice none 0 0, .int .i64 0, .int .i64 6, .slice none 0 0, .int .i64 0, .int .i64 6, .slice (some ⟨w.heap.size + 1 + 1 + 1 + 1 + 1 + 1, 0, none⟩) 1 1, .int .i64 0] 71)).heap[w.heap.size + 1 + 1 + 1 + 1 + 1 + 1]? = some (.cells #[.int .i64 2] 3 (0, 0)) ∧ ((((((((w.alloc (.cells cs 27)).alloc (.cells #[.string ⟨#[]⟩, .int .i64 0, .string ⟨#[120]⟩, .int .i64 0, .string ⟨#[121]⟩, .int .i64 0] 88)).alloc (.cells #[.string ⟨#[]⟩, .string ⟨#[115]⟩, .string ⟨#[97]⟩, .string ⟨#[98]⟩] 9)).alloc (.cells #[.int .i64 4] 3)).alloc (.cells #[.int .i64 5, .int .i64 4, .int .i64 6] 3)).alloc (.cells #[.int .i64 1] 3)).alloc (.cells #[.int .i64 2] 3)).alloc (.cells #[.int .i64 3, .slice (some ⟨w.heap.size + 1 + 1 + 1, 0, none⟩) 1 1, .int .i64 0, .int .i64 4, .slice (some ⟨w.heap.size + 1 + 1 + 1 + 1, 0, none⟩) 3 3, .int .i64 0, .int .i64 4, .slice (some ⟨w.heap.size + 1 + 1 + 1 + 1 + 1, 0, none⟩) 1 1, .int .i64 0, .int .i64 5, .slice none 0 0, .int .i64 0, .int .i64 6, .slice none 0 0, .int .i64 0, .int .i64 6, .slice (some ⟨w.heap.size + 1 + 1 + 1 + 1 + 1 + 1, 0, none⟩) 1 1, .int .i64 0] 71)).heap[w.heap.size + 1 + 1 + 1 + 1 + 1 + 1 + 1]? = some (.cells #[.int .i64 3, .slice (some ⟨w.heap.size + 1 + 1 + 1, 0, none⟩) 1 1, .int .i64 0, .int .i64 4, .slice (some ⟨w.heap.size + 1 + 1 + 1 + 1, 0, none⟩) 3 3, .int .i64 0, .int .i64 4, .slice (some ⟨w.heap.size + 1 + 1 + 1 + 1 + 1, 0, none⟩) 1 1, .int .i64 0, .int .i64 5, .slice none 0 0, .int .i64 0, .int .i64 6, .slice none 0 0, .int .i64 0, .int .i64 6, .slice (some ⟨w.heap.size + 1 + 1 + 1 + 1 + 1 + 1, 0, none⟩) 1 1, .int .i64 0] 71 (0, 0))) ∧ w.grownBy ((((((((w.alloc (.cells cs 27)).alloc (.cells #[.string ⟨#[]⟩, .int .i64 0, .string ⟨#[120]⟩, .int .i64 0, .string ⟨#[121]⟩, .int .i64 0] 88)).alloc (.cells #[.string ⟨#[]⟩, .string ⟨#[115]⟩, .string ⟨#[97]⟩, .string ⟨#[98]⟩] 9)).alloc (.cells #[.int .i64 4] 3)).alloc (.cells #[.int .i64 5, .int .i64 4, .int .i64 6] 3)).alloc (.cells #[.int .i64 1] 3)).alloc (.cells #[.int .i64 2] 3)).alloc (.cells #[.int .i64 3, .slice (some ⟨w.heap.size + 1 + 1 + 1, 0, none⟩) 1 1, .int .i64 0, .int .i64 4, .slice (some ⟨w.heap.size + 1 + 1 + 1 + 1, 0, none⟩) 3 3, .int .i64 0, .int .i64 4, .slice (some ⟨w.heap.size + 1 + 1 + 1 + 1 + 1, 0, none⟩) 1 1, .int .i64 0, .int .i64 5, .slice none 0 0, .int .i64 0, .int .i64 6, .slice none 0 0, .int .i64 0, .int .i64 6, .slice (some ⟨w.heap.size + 1 + 1 + 1 + 1 + 1 + 1, 0, none⟩) 1 1, .int .i64 0] 71)) none := by
  have g0 := World.grownBy_alloc w (.cells cs 27) none
  have c0 := heap_alloc_last w (.cells cs 27)
  have g1 := World.grownBy_alloc (w.alloc (.cells cs 27)) (.cells #[.string ⟨#[]⟩, .int .i64 0, .string ⟨#[120]⟩, .int .i64 0, .string ⟨#[121]⟩, .int .i64 0] 88) none
  have c1 := heap_alloc_last (w.alloc (.cells cs 27)) (.cells #[.string ⟨#[]⟩, .int .i64 0, .string ⟨#[120]⟩, .int .i64 0, .string ⟨#[121]⟩, .int .i64 0] 88)
  rw [World.size_alloc] at c1
  have g2 := World.grownBy_alloc ((w.alloc (.cells cs 27)).alloc (.cells #[.string ⟨#[]⟩, .int .i64 0, .string ⟨#[120]⟩, .int .i64 0, .string ⟨#[121]⟩, .int .i64 0] 88)) (.cells #[.string ⟨#[]⟩, .string ⟨#[115]⟩, .string ⟨#[97]⟩, .string ⟨#[98]⟩] 9) none
  have c2 := heap_alloc_last ((w.alloc (.cells cs 27)).alloc (.cells #[.string ⟨#[]⟩, .int .i64 0, .string ⟨#[120]⟩, .int .i64 0, .string ⟨#[121]⟩, .int .i64 0] 88)) (.cells #[.string ⟨#[]⟩, .string ⟨#[115]⟩, .string ⟨#[97]⟩, .string ⟨#[98]⟩] 9)
  rw [World.size_alloc, World.size_alloc] at c2
  have g3 := World.grownBy_alloc (((w.alloc (.cells cs 27)).alloc (.cells #[.string ⟨#[]⟩, .int .i64 0, .string ⟨#[120]⟩, .int .i64 0, .string ⟨#[121]⟩, .int .i64 0] 88)).alloc (.cells #[.string ⟨#[]⟩, .string ⟨#[115]⟩, .string ⟨#[97]⟩, .string ⟨#[98]⟩] 9)) (.cells #[.int .i64 4] 3) none
  have c3 := heap_alloc_last (((w.alloc (.cells cs 27)).alloc (.cells #[.string ⟨#[]⟩, .int .i64 0, .string ⟨#[120]⟩, .int .i64 0, .string ⟨#[121]⟩, .int .i64 0] 88)).alloc (.cells #[.string ⟨#[]⟩, .string ⟨#[115]⟩, .string ⟨#[97]⟩, .string ⟨#[98]⟩] 9)) (.cells #[.int .i64 4] 3)
  rw [World.size_alloc, World.size_alloc, World.size_alloc] at c3
  have g4 := World.grownBy_alloc ((((w.alloc (.cells cs 27)).alloc (.cells #[.string ⟨#[]⟩, .int .i64 0, .string ⟨#[120]⟩, .int .i64 0, .string ⟨#[121]⟩, .int .i64 0] 88)).alloc (.cells #[.string ⟨#[]⟩, .string ⟨#[115]⟩, .string ⟨#[97]⟩, .string ⟨#[98]⟩] 9)).alloc (.cells #[.int .i64 4] 3)) (.cells #[.int .i64 5, .int .i64 4, .int .i64 6] 3) none
  have c4 := heap_alloc_last ((((w.alloc (.cells cs 27)).alloc (.cells #[.string ⟨#[]⟩, .int .i64 0, .string ⟨#[120]⟩, .int .i64 0, .string ⟨#[121]⟩, .int .i64 0] 88)).alloc (.cells #[.string ⟨#[]⟩, .string ⟨#[115]⟩, .string ⟨#[97]⟩, .string ⟨#[98]⟩] 9)).alloc (.cells #[.int .i64 4] 3)) (.cells #[.int .i64 5, .int .i64 4, .int .i64 6] 3)
  rw [World.size_alloc, World.size_alloc, World.size_alloc, World.size_alloc] at c4
  have g5 := World.grownBy_alloc (((((w.alloc (.cells cs 27)).alloc (.cells #[.string ⟨#[]⟩, .int .i64 0, .string ⟨#[120]⟩, .int .i64 0, .string ⟨#[121]⟩, .int .i64 0] 88)).alloc (.cells #[.string ⟨#[]⟩, .string ⟨#[115]⟩, .string ⟨#[97]⟩, .string ⟨#[98]⟩] 9)).alloc (.cells #[.int .i64 4] 3)).alloc (.cells #[.int .i64 5, .int .i64 4, .int .i64 6] 3)) (.cells #[.int .i64 1] 3) none
  have c5 := heap_alloc_last (((((w.alloc (.cells cs 27)).alloc (.cells #[.string ⟨#[]⟩, .int .i64 0, .string ⟨#[120]⟩, .int .i64 0, .string ⟨#[121]⟩, .int .i64 0] 88)).alloc (.cells #[.string ⟨#[]⟩, .string ⟨#[115]⟩, .string ⟨#[97]⟩, .string ⟨#[98]⟩] 9)).alloc (.cells #[.int .i64 4] 3)).alloc (.cells #[.int .i64 5, .int .i64 4, .int .i64 6] 3)) (.cells #[.int .i64 1] 3)
  rw [World.size_alloc, World.size_alloc, World.size_alloc, World.size_alloc, World.size_alloc] at c5
  have g6 := World.grownBy_alloc ((((((w.alloc (.cells cs 27)).alloc (.cells #[.string ⟨#[]⟩, .int .i64 0, .string ⟨#[120]⟩, .int .i64 0, .string ⟨#[121]⟩, .int .i64 0] 88)).alloc (.cells #[.string ⟨#[]⟩, .string ⟨#[115]⟩, .string ⟨#[97]⟩, .string ⟨#[98]⟩] 9)).alloc (.cells #[.int .i64 4] 3)).alloc (.cells #[.int .i64 5, .int .i64 4, .int .i64 6] 3)).alloc (.cells #[.int .i64 1] 3)) (.cells #[.int .i64 2] 3) none
  have c6 := heap_alloc_last ((((((w.alloc (.cells cs 27)).alloc (.cells #[.string ⟨#[]⟩, .int .i64 0, .string ⟨#[120]⟩, .int .i64 0, .string ⟨#[121]⟩, .int .i64 0] 88)).alloc (.cells #[.string ⟨#[]⟩, .string ⟨#[115]⟩, .string ⟨#[97]⟩, .string ⟨#[98]⟩] 9)).alloc (.cells #[.int .i64 4] 3)).alloc (.cells #[.int .i64 5, .int .i64 4, .int .i64 6] 3)).alloc (.cells #[.int .i64 1] 3)) (.cells #[.int .i64 2] 3)
  rw [World.size_alloc, World.size_alloc, World.size_alloc, World.size_alloc, World.size_alloc, World.size_alloc] at c6
  have g7 := World.grownBy_alloc (((((((w.alloc (.cells cs 27)).alloc (.cells #[.string ⟨#[]⟩, .int .i64 0, .string ⟨#[120]⟩, .int .i64 0, .string ⟨#[121]⟩, .int .i64 0] 88)).alloc (.cells #[.string ⟨#[]⟩, .string ⟨#[115]⟩, .string ⟨#[97]⟩, .string ⟨#[98]⟩] 9)).alloc (.cells #[.int .i64 4] 3)).alloc (.cells #[.int .i64 5, .int .i64 4, .int .i64 6] 3)).alloc (.cells #[.int .i64 1] 3)).alloc (.cells #[.int .i64 2] 3)) (.cells #[.int .i64 3, .slice (some ⟨w.heap.size + 1 + 1 + 1, 0, none⟩) 1 1, .int .i64 0, .int .i64 4, .slice (some ⟨w.heap.size + 1 + 1 + 1 + 1, 0, none⟩) 3 3, .int .i64 0, .int .i64 4, .slice (some ⟨w.heap.size + 1 + 1 + 1 + 1 + 1, 0, none⟩) 1 1, .int .i64 0, .int .i64 5, .slice none 0 0, .int .i64 0, .int .i64 6, .slice none 0 0, .int .i64 0, .int .i64 6, .slice (some ⟨w.heap.size + 1 + 1 + 1 + 1 + 1 + 1, 0, none⟩) 1 1, .int .i64 0] 71) none
  have c7 := heap_alloc_last (((((((w.alloc (.cells cs 27)).alloc (.cells #[.string ⟨#[]⟩, .int .i64 0, .string ⟨#[120]⟩, .int .i64 0, .string ⟨#[121]⟩, .int .i64 0] 88)).alloc (.cells #[.string ⟨#[]⟩, .string ⟨#[115]⟩, .string ⟨#[97]⟩, .string ⟨#[98]⟩] 9)).alloc (.cells #[.int .i64 4] 3)).alloc (.cells #[.int .i64 5, .int .i64 4, .int .i64 6] 3)).alloc (.cells #[.int .i64 1] 3)).alloc (.cells #[.int .i64 2] 3)) (.cells #[.int .i64 3, .slice (some ⟨w.heap.size + 1 + 1 + 1, 0, none⟩) 1 1, .int .i64 0, .int .i64 4, .slice (some ⟨w.heap.size + 1 + 1 + 1 + 1, 0, none⟩) 3 3, .int .i64 0, .int .i64 4, .slice (some ⟨w.heap.size + 1 + 1 + 1 + 1 + 1, 0, none⟩) 1 1, .int .i64 0, .int .i64 5, .slice none 0 0, .int .i64 0, .int .i64 6, .slice none 0 0, .int .i64 0, .int .i64 6, .slice (some ⟨w.heap.size + 1 + 1 + 1 + 1 + 1 + 1, 0, none⟩) 1 1, .int .i64 0] 71)
  rw [World.size_alloc, World.size_alloc, World.size_alloc, World.size_alloc, World.size_alloc, World.size_alloc, World.size_alloc] at c7
  have c0 := (boxKept c0 g1).out
  have c0 := (boxKept c0 g2).out
  have c0 := (boxKept c0 g3).out
  have c0 := (boxKept c0 g4).out
  have c0 := (boxKept c0 g5).out
  have c0 := (boxKept c0 g6).out
  have c0 := (boxKept c0 g7).out
  have c1 := (boxKept c1 g2).out
  have c1 := (boxKept c1 g3).out
  have c1 := (boxKept c1 g4).out
  have c1 := (boxKept c1 g5).out
  have c1 := (boxKept c1 g6).out
  have c1 := (boxKept c1 g7).out
  have c2 := (boxKept c2 g3).out
  have c2 := (boxKept c2 g4).out
  have c2 := (boxKept c2 g5).out
  have c2 := (boxKept c2 g6).out
  have c2 := (boxKept c2 g7).out
  have c3 := (boxKept c3 g4).out
  have c3 := (boxKept c3 g5).out
  have c3 := (boxKept c3 g6).out
  have c3 := (boxKept c3 g7).out
  have c4 := (boxKept c4 g5).out
  have c4 := (boxKept c4 g6).out
  have c4 := (boxKept c4 g7).out
  have c5 := (boxKept c5 g6).out
  have c5 := (boxKept c5 g7).out
  have c6 := (boxKept c6 g7).out
  exact ⟨⟨c0, c1, c2, c3, c4, c5, c6, c7⟩, (grown_trans g0 (grown_trans g1 (grown_trans g2 (grown_trans g3 (grown_trans g4 (grown_trans g5 (grown_trans g6 g7)))))))⟩

set_option maxRecDepth 100000 in
set_option maxHeartbeats 1000000 in
theorem vsmall_any (w : World) : Calls Tryz.prog 25 #[] w fun e y => ∃ b1 b2 b7 ra rc, e = .returned (.agg #[.slice (some ⟨b1, 0, none⟩) 3 3, .slice (some ⟨b2, 0, none⟩) 4 4, .slice none 0 0, .int .i64 4, .slice (some ⟨b7, 0, none⟩) 6 6]) ∧ GAt y (some ⟨b1, 0, none⟩) (some ⟨b2, 0, none⟩) none (some ⟨b7, 0, none⟩) 3 4 0 6 vTs vNs [] 6 vL vR ra rc (fun _ => 0) ∧ w.grownBy y none := by
  have HC := show Hid _ from v_chain w #[.slice (some ⟨w.heap.size + 1, 0, none⟩) 3 3, .slice (some ⟨w.heap.size + 1 + 1, 0, none⟩) 4 4, .slice none 0 0, .int .i64 4, .slice (some ⟨w.heap.size + 1 + 1 + 1 + 1 + 1 + 1 + 1, 0, none⟩) 6 6]
  go_enter Tryz.func25, Tryz.ntmps25
  go_wp2_with fail
  obtain ⟨⟨c0, c1, c2, c3, c4, c5, c6, c7⟩, hg⟩ := HC.out
  obtain ⟨ra, rc, hG⟩ := v_gat c1 c2 c3 c4 c5 c6 c7
  exact bodyPost_ret (v := .agg #[.slice (some ⟨w.heap.size + 1, 0, none⟩) 3 3, .slice (some ⟨w.heap.size + 1 + 1, 0, none⟩) 4 4, .slice none 0 0, .int .i64 4, .slice (some ⟨w.heap.size + 1 + 1 + 1 + 1 + 1 + 1 + 1, 0, none⟩) 6 6]) (results_cell_row (fr := (0, 0)) rfl _ _ w.heap.size 27 #[.slice (some ⟨w.heap.size + 1, 0, none⟩) 3 3, .slice (some ⟨w.heap.size + 1 + 1, 0, none⟩) 4 4, .slice none 0 0, .int .i64 4, .slice (some ⟨w.heap.size + 1 + 1 + 1 + 1 + 1 + 1 + 1, 0, none⟩) 6 6] _ rfl c0 Tryz.underlying27 rfl infoGramK) rfl ⟨_, _, _, ra, rc, rfl, hG, hg⟩

theorem v_closed : closedOK vTs vNs [] 4 6 vL vR (fun _ => 0) := by
  refine ⟨⟨by decide, rfl, by decide, rfl, rfl, rfl⟩, ⟨by decide, by decide, by decide, by decide, by decide, by decide, ⟨⟨by decide, rfl⟩, fun i h1 h2 => ?_⟩, fun j hj => absurd hj (Nat.not_lt_zero j), fun i h1 h2 => ?_, fun i h1 h2 => ?_, rfl, ⟨by decide, by decide⟩⟩⟩
  · have h3 : i = 1 ∨ i = 2 := by simp [vTs] at h2; omega
    rcases h3 with rfl | rfl
    · exact ⟨⟨by rfl, by decide, by decide⟩, fun k h4 h5 => absurd h5 (by omega)⟩
    · refine ⟨⟨by rfl, by decide, by decide⟩, fun k h4 h5 => ?_⟩
      have h6 : k = 1 := by omega
      subst h6
      decide
  · have h3 : i = 1 ∨ i = 2 ∨ i = 3 := by simp [vNs] at h2; omega
    rcases h3 with rfl | rfl | rfl
    · exact ⟨by rfl, fun k h4 h5 => absurd h5 (by omega)⟩
    · refine ⟨by rfl, fun k h4 h5 => ?_⟩
      have h6 : k = 1 := by omega
      subst h6
      decide
    · refine ⟨by rfl, fun k h4 h5 => ?_⟩
      have h6 : k = 1 ∨ k = 2 := by omega
      rcases h6 with rfl | rfl <;> decide
  · have h3 : i = 1 ∨ i = 2 ∨ i = 3 ∨ i = 4 ∨ i = 5 := by omega
    rcases h3 with rfl | rfl | rfl | rfl | rfl
    · refine ⟨⟨by decide, by decide⟩, ⟨by decide, by decide⟩, ?_⟩
      intro x hx
      simp [vR] at hx
      rcases hx with rfl | rfl | rfl
      · exact .inr ⟨by decide, by decide⟩
      · exact .inr ⟨by decide, by decide⟩
      · exact .inr ⟨by decide, by decide⟩
    · refine ⟨⟨by decide, by decide⟩, ⟨by decide, by decide⟩, ?_⟩
      intro x hx
      simp [vR] at hx
      subst hx
      exact .inl ⟨by decide, by decide⟩
    · exact ⟨⟨by decide, by decide⟩, ⟨by decide, by decide⟩, fun x hx => absurd hx (by simp [vR])⟩
    · exact ⟨⟨by decide, by decide⟩, ⟨by decide, by decide⟩, fun x hx => absurd hx (by simp [vR])⟩
    · refine ⟨⟨by decide, by decide⟩, ⟨by decide, by decide⟩, ?_⟩
      intro x hx
      simp [vR] at hx
      subst hx
      exact .inl ⟨by decide, by decide⟩

def vCl (k : List It) : List It := if k = [(0, 0)] then [(0, 0), (1, 0), (2, 0), (3, 0)] else if k = [(1, 1)] then [(1, 0), (1, 1), (2, 0), (3, 0)] else if k = [(1, 2)] then [(1, 2), (4, 0), (5, 0)] else k
def vKs : List (List It) := [[(0, 0)], [(2, 1)], [(0, 1)], [(1, 1)], [(1, 2)], [(5, 1)], [(1, 3)]]
def vEs : List (List (Nat × Nat)) := [[(1, 1), (4, 2), (5, 3)], [], [], [(1, 1), (4, 4), (5, 3)], [(2, 5), (6, 6)], [], []]

theorem v_six {k : Nat} (h : k < 6) : k = 0 ∨ k = 1 ∨ k = 2 ∨ k = 3 ∨ k = 4 ∨ k = 5 := by omega
theorem v_clo : ∀ k ∈ vKs, IsClo 3 6 vL vR k (vCl k) := by
  intro k hk
  simp only [vKs, List.mem_cons, List.not_mem_nil, or_false] at hk
  rcases hk with rfl | rfl | rfl | rfl | rfl | rfl | rfl
  · refine isClo_mk (by simp [vCl, Asc, ltI]) (by simp [vCl]) (fun x hx => ?_) (fun y hy k hk h1 h2 => ?_)
    · have h0 : Clo 3 6 vL vR [((0 : Int), (0 : Int))] ((0 : Int), (0 : Int)) := Clo.base (by simp)
      have h1 : Clo 3 6 vL vR [((0 : Int), (0 : Int))] ((1 : Int), (0 : Int)) := h0.step (k := 1) (by decide) (by decide) (by decide)
      simp [vCl] at hx
      rcases hx with rfl | rfl | rfl | rfl
      · exact h0
      · exact h1
      · exact h0.step (k := 2) (by decide) (by decide) (by decide)
      · exact h1.step (k := 3) (by decide) (by decide) (by decide)
    · simp [vCl] at hy
      rcases hy with rfl | rfl | rfl | rfl <;> rcases v_six hk with rfl | rfl | rfl | rfl | rfl | rfl <;> first | (simp [vCl]; done) | exact absurd h2 (by decide) | exact absurd h1 (by decide)
  · refine isClo_self (by simp [Asc, ltI]) (fun y hy => ?_)
    simp at hy
    subst hy; decide
  · refine isClo_self (by simp [Asc, ltI]) (fun y hy => ?_)
    simp at hy
    subst hy; decide
  · refine isClo_mk (by simp [vCl, Asc, ltI]) (by simp [vCl]) (fun x hx => ?_) (fun y hy k hk h1 h2 => ?_)
    · have h0 : Clo 3 6 vL vR [((1 : Int), (1 : Int))] ((1 : Int), (1 : Int)) := Clo.base (by simp)
      have h1 : Clo 3 6 vL vR [((1 : Int), (1 : Int))] ((1 : Int), (0 : Int)) := h0.step (k := 1) (by decide) (by decide) (by decide)
      simp [vCl] at hx
      rcases hx with rfl | rfl | rfl | rfl
      · exact h1
      · exact h0
      · exact h0.step (k := 2) (by decide) (by decide) (by decide)
      · exact h1.step (k := 3) (by decide) (by decide) (by decide)
    · simp [vCl] at hy
      rcases hy with rfl | rfl | rfl | rfl <;> rcases v_six hk with rfl | rfl | rfl | rfl | rfl | rfl <;> first | (simp [vCl]; done) | exact absurd h2 (by decide) | exact absurd h1 (by decide)
  · refine isClo_mk (by simp [vCl, Asc, ltI]) (by simp [vCl]) (fun x hx => ?_) (fun y hy k hk h1 h2 => ?_)
    · have h0 : Clo 3 6 vL vR [((1 : Int), (2 : Int))] ((1 : Int), (2 : Int)) := Clo.base (by simp)
      simp [vCl] at hx
      rcases hx with rfl | rfl | rfl
      · exact h0
      · exact h0.step (k := 4) (by decide) (by decide) (by decide)
      · exact h0.step (k := 5) (by decide) (by decide) (by decide)
    · simp [vCl] at hy
      rcases hy with rfl | rfl | rfl <;> rcases v_six hk with rfl | rfl | rfl | rfl | rfl | rfl <;> first | (simp [vCl]; done) | exact absurd h2 (by decide) | exact absurd h1 (by decide)
  · refine isClo_self (by simp [Asc, ltI]) (fun y hy => ?_)
    simp at hy
    subst hy; decide
  · refine isClo_self (by simp [Asc, ltI]) (fun y hy => ?_)
    simp at hy
    subst hy; decide

theorem v_auto {CL : List It → List It} (h : ∀ k ∈ vKs, IsClo 3 6 vL vR k (CL k)) : autoF (fun k (s : Nat) => kerT vR (CL k) (s : Int)) 7 256 = some (vKs, vEs) := by
  have hc : ∀ k ∈ vKs, CL k = vCl k := fun k hk => (h k hk).unique (v_clo k hk)
  have c0 := hc [(0, 0)] (by simp [vKs])
  have c1 := hc [(2, 1)] (by simp [vKs])
  have c2 := hc [(0, 1)] (by simp [vKs])
  have c3 := hc [(1, 1)] (by simp [vKs])
  have c4 := hc [(1, 2)] (by simp [vKs])
  have c5 := hc [(5, 1)] (by simp [vKs])
  have c6 := hc [(1, 3)] (by simp [vKs])
  obtain ⟨G, hG⟩ : ∃ G : List It → Nat → List It, G = fun k (s : Nat) => kerT vR (CL k) (s : Int) := ⟨_, rfl⟩
  rw [← hG]
  have g0 : G [(0, 0)] = fun (s : Nat) => kerT vR (vCl [(0, 0)]) (s : Int) := by rw [hG]; simp only; rw [c0]
  have g1 : G [(2, 1)] = fun (s : Nat) => kerT vR (vCl [(2, 1)]) (s : Int) := by rw [hG]; simp only; rw [c1]
  have g2 : G [(0, 1)] = fun (s : Nat) => kerT vR (vCl [(0, 1)]) (s : Int) := by rw [hG]; simp only; rw [c2]
  have g3 : G [(1, 1)] = fun (s : Nat) => kerT vR (vCl [(1, 1)]) (s : Int) := by rw [hG]; simp only; rw [c3]
  have g4 : G [(1, 2)] = fun (s : Nat) => kerT vR (vCl [(1, 2)]) (s : Int) := by rw [hG]; simp only; rw [c4]
  have g5 : G [(5, 1)] = fun (s : Nat) => kerT vR (vCl [(5, 1)]) (s : Int) := by rw [hG]; simp only; rw [c5]
  have g6 : G [(1, 3)] = fun (s : Nat) => kerT vR (vCl [(1, 3)]) (s : Int) := by rw [hG]; simp only; rw [c6]
  have a0 : autoF G 7 0 = some ([[(0, 0)]], []) := rfl
  have a1 : autoF G 7 1 = some ([[(0, 0)], [(2, 1)], [(0, 1)], [(1, 1)]], [[(1, 1), (4, 2), (5, 3)]]) := by
    rw [autoF_step a0 (by decide), show ([[(0, 0)]] : List (List It)).getD 0 [] = [(0, 0)] from rfl, g0]
    decide
  have a2 : autoF G 7 2 = some ([[(0, 0)], [(2, 1)], [(0, 1)], [(1, 1)]], [[(1, 1), (4, 2), (5, 3)], []]) := by
    rw [autoF_step a1 (by decide), show ([[(0, 0)], [(2, 1)], [(0, 1)], [(1, 1)]] : List (List It)).getD 1 [] = [(2, 1)] from rfl, g1]
    decide
  have a3 : autoF G 7 3 = some ([[(0, 0)], [(2, 1)], [(0, 1)], [(1, 1)]], [[(1, 1), (4, 2), (5, 3)], [], []]) := by
    rw [autoF_step a2 (by decide), show ([[(0, 0)], [(2, 1)], [(0, 1)], [(1, 1)]] : List (List It)).getD 2 [] = [(0, 1)] from rfl, g2]
    decide
  have a4 : autoF G 7 4 = some ([[(0, 0)], [(2, 1)], [(0, 1)], [(1, 1)], [(1, 2)]], [[(1, 1), (4, 2), (5, 3)], [], [], [(1, 1), (4, 4), (5, 3)]]) := by
    rw [autoF_step a3 (by decide), show ([[(0, 0)], [(2, 1)], [(0, 1)], [(1, 1)]] : List (List It)).getD 3 [] = [(1, 1)] from rfl, g3]
    decide
  have a5 : autoF G 7 5 = some ([[(0, 0)], [(2, 1)], [(0, 1)], [(1, 1)], [(1, 2)], [(5, 1)], [(1, 3)]], [[(1, 1), (4, 2), (5, 3)], [], [], [(1, 1), (4, 4), (5, 3)], [(2, 5), (6, 6)]]) := by
    rw [autoF_step a4 (by decide), show ([[(0, 0)], [(2, 1)], [(0, 1)], [(1, 1)], [(1, 2)]] : List (List It)).getD 4 [] = [(1, 2)] from rfl, g4]
    decide
  have a6 : autoF G 7 6 = some ([[(0, 0)], [(2, 1)], [(0, 1)], [(1, 1)], [(1, 2)], [(5, 1)], [(1, 3)]], [[(1, 1), (4, 2), (5, 3)], [], [], [(1, 1), (4, 4), (5, 3)], [(2, 5), (6, 6)], []]) := by
    rw [autoF_step a5 (by decide), show ([[(0, 0)], [(2, 1)], [(0, 1)], [(1, 1)], [(1, 2)], [(5, 1)], [(1, 3)]] : List (List It)).getD 5 [] = [(5, 1)] from rfl, g5]
    decide
  have a7 : autoF G 7 7 = some ([[(0, 0)], [(2, 1)], [(0, 1)], [(1, 1)], [(1, 2)], [(5, 1)], [(1, 3)]], [[(1, 1), (4, 2), (5, 3)], [], [], [(1, 1), (4, 4), (5, 3)], [(2, 5), (6, 6)], [], []]) := by
    rw [autoF_step a6 (by decide), show ([[(0, 0)], [(2, 1)], [(0, 1)], [(1, 1)], [(1, 2)], [(5, 1)], [(1, 3)]] : List (List It)).getD 6 [] = [(1, 3)] from rfl, g6]
    decide
  exact autoF_stay a7 (by decide) 249
theorem v_ggT : autoF (GG 3 6 vL vR) (3 + 4) 256 = some (vKs, vEs) := by
  have h : ∀ k ∈ vKs, IsClo 3 6 vL vR k (CLo 3 6 vL vR k) := fun k hk => by
    have h1 := v_clo k hk
    rw [CLo_eq h1 (by
      simp only [vKs, List.mem_cons, List.not_mem_nil, or_false] at hk
      rcases hk with rfl | rfl | rfl | rfl | rfl | rfl | rfl <;> decide)]
    exact h1
  exact v_auto h
theorem v_trT : trT 3 vEs vKs.length = [(0, 4), (0, 5), (3, 4), (3, 5), (4, 6)] := by decide

end Go.Proofs.YthoamlahbnphkaaGreat.J

/-
  relate: the relations of the law's small grammar.
-/
namespace Go.Proofs.YthoamlahbnphkaaGreat.J
open Go.RowKit Go.Maps Go.Shelf

def vTl : List It := [(0, 4), (0, 5), (3, 4), (3, 5), (4, 6)]
def vF (i : Nat) : Bool := decide (i = 2) || decide (i = 3)
theorem v_nul_only {s : Int} (h : Nul 6 vL vR s) : s = 5 ∨ s = 6 := by
  induction h with
  | prod k hk h ih =>
    rcases v_six hk with rfl | rfl | rfl | rfl | rfl | rfl
    · have := ih 4 (by decide); omega
    · have := ih 4 (by decide); omega
    · have := ih 1 (by decide); omega
    · exact .inl rfl
    · exact .inr rfl
    · exact .inr rfl
theorem v_nul : nulB 3 6 vL vR = vF := funext fun i => by
  have h5 : Nul 6 vL vR 5 := Nul.prod (L := vL) (R := vR) 3 (by decide) (fun x hx => absurd hx (by simp [vR]))
  have h6 : Nul 6 vL vR 6 := Nul.prod (L := vL) (R := vR) 4 (by decide) (fun x hx => absurd hx (by simp [vR]))
  rw [Bool.eq_iff_iff, nulB_iff]
  unfold vF
  simp only [Bool.or_eq_true, decide_eq_true_eq]
  constructor
  · intro h
    have := v_nul_only h
    omega
  · rintro (rfl | rfl)
    · exact h5
    · exact h6
theorem v_rd : foldQ (fun _ => []) (rdT vEs vTl 3 vF 5) 1 = [3] := by decide
theorem v_in : (foldQ (fun _ => []) (inT vEs vTl 3 vF 6 vL vR 5) 2).length = 2 := by decide
theorem v_lb : lbT vEs vTl 6 vL vR 5 = [(37, 0), (8, 0), (3, 1), (37, 2), (8, 2), (21, 3), (28, 4), (35, 4)] := by decide
def vQ : Nat → List Int := foldA [(37, 0), (8, 0), (3, 1), (37, 2), (8, 2), (21, 3), (28, 4), (35, 4)]
theorem v_bk : bkI vQ 6 7 = [(0, 3), (1, 2), (3, 3), (4, 4), (5, 5), (6, 1)] := by decide
theorem v_b5 : (vQ 37).length = 2 := by decide

end Go.Proofs.YthoamlahbnphkaaGreat.J

/-
  relate: Reads, Includes, Lookback of any grammar.
-/
namespace Go.Proofs.YthoamlahbnphkaaGreat.J
open Go.RowKit Go.Maps Go.Shelf

theorem calls_exU {P : Program} {f : FuncId} {args : Array Value} {w : World} {R : Ending → World → Prop} (h : Calls P f args w R) : ∃ e y, R e y := by
  obtain ⟨e, y, _, h1, _⟩ := h []
  exact ⟨e, y, h1⟩

/-- What is so of a closed grammar that has an automaton. -/
structure RelOK (n : Nat) (L : Nat → Int) (R : Nat → List Int) (st : Int) (tn nn : Nat) (ks : List (List It)) (es : List (List (Nat × Nat))) : Prop where
  may : MayOK tn nn n st L R true
  aut : AutF (GG tn n L R) n R (tn + nn) ks es
  clo : ∀ q, q < ks.length → IsClo tn n L R (ks.getD q []) (CLo tn n L R (ks.getD q [])) ∧ (CLo tn n L R (ks.getD q [])).length ≤ (ks.getD q []).length + 13000
  klen : ∀ q, q < ks.length → (ks.getD q []).length ≤ 3341001
  eok : EsOK ks es
  nodup : (trT tn es ks.length).Nodup
  rl : RlOK ks.length (trT tn es ks.length).length (tn + nn) tn nn ks es (trT tn es ks.length)
  rows : RowsOK n (trT tn es ks.length).length (tn + nn) (trT tn es ks.length) L R
  noadd : ∀ k, k < n → ∀ x ∈ R k, x ≠ (tn : Int)

section
variable (ta na la pa : Option Addr) (tc nc lc pc : Nat) (ts : List (ByteArray × Int)) (ns : List ByteArray) (lv : List Int) (n : Nat) (L : Nat → Int) (R : Nat → List Int) (ra : Nat → Option Addr) (rc : Nat → Nat) (V : Nat → Int) (st : Int) (w : World) (tn nn ln : Nat) (hlen : ts.length = tn ∧ ns.length = nn ∧ lv.length = ln) (hG : GAt w ta na la pa tc nc lc pc ts ns lv n L R ra rc V)
include hlen hG
theorem relOK (hc : closedOK ts ns lv st n L R V) {ks : List (List It)} {es : List (List (Nat × Nat))} (h : autoF (GG tn n L R) (tn + nn) 256 = some (ks, es)) : RelOK n L R st tn nn ks es := by
  have hM : MayOK tn nn n st L R true := by obtain ⟨rfl, rfl, rfl⟩ := hlen; exact mayOK_closed hc
  obtain ⟨_, hE, hnd, htl⟩ := uofOk ta na la pa tc nc lc pc ts ns lv n L R ra rc V st w tn nn ln hlen hG hc h
  have hA := autF hM.p0 h
  have hB := build_some ta na la pa tc nc lc pc ts ns lv n L R ra rc V st w tn nn ln hlen hG hc h
  have hkl : ∀ q, q < ks.length → (ks.getD q []).length ≤ 3341001 := fun q hq => (hA.kok.each q hq).len (by have := hA.kok.le; omega)
  have hCl : ∀ q, q < ks.length → IsClo tn n L R (ks.getD q []) (CLo tn n L R (ks.getD q [])) ∧ (CLo tn n L R (ks.getD q [])).length ≤ (ks.getD q []).length + 13000 := fun q hq => by
    obtain ⟨_, y, sa, sc, kv, ev, _, hAP, hg⟩ := calls_exU (hB w (grown_refl _ _))
    obtain ⟨a, c, _, hI, hn⟩ := hAP.kerAt hq
    obtain ⟨_, _, l, h1, h2, _⟩ := calls_exU (closureOk ta na la pa tc nc lc pc ts ns lv n L R ra rc V st y tn nn ln hlen (hG.kept hg) a c (ks.getD q []) hI (by have := hkl q hq; omega) hn hc (hA.kok.each q hq).1)
    rw [CLo_eq h1 h2]
    exact ⟨h1, h2⟩
  have htb : ∀ x ∈ trT tn es ks.length, ∃ q s : Nat, x = ((q : Int), (s : Int)) ∧ q < ks.length ∧ s < tn + nn := fun x hx => by
    obtain ⟨q, hq, e, he, h1, rfl⟩ := trT_mem hx
    exact ⟨q, e.1, rfl, hq, (hA.snd q hq e he).1⟩
  refine ⟨hM, hA, hCl, hkl, hE, hnd, ⟨rfl, rfl, rfl, hM.tmax, hM.nmax, hE.le, hE, fun q hq x hx => (hA.snd q hq x hx).1, htl, htb⟩, fun p hp => ⟨fun k hk e => ?_, fun x hx => ?_⟩, by rw [← hlen.1]; exact no_added hc⟩
  · have hin := getD_in (l := trT tn es ks.length) (i := k) (d := (0, 0)) hk
    obtain ⟨q, s, e1, h1, h2⟩ := htb _ hin
    rw [e1] at e hin
    simp only at e
    obtain ⟨b1, b2⟩ := tr_begun hA (fun q hq => (hCl q hq).1) hin hp e.symm
    have := row_short hM.p0 h hA hM.right (fun q hq => (hCl q hq).1) b1 hp b2
    omega
  · have := hM.right p hp x hx
    omega
theorem rel_reads (hc : closedOK ts ns lv st n L R V) {ks : List (List It)} {es : List (List (Nat × Nat))} (h : autoF (GG tn n L R) (tn + nn) 256 = some (ks, es)) (X : World) (hX : w.grownBy X none) : Calls Tryz.prog 12 #[.agg #[.slice ta tn tc, .slice na nn nc, .slice la ln lc, .int .i64 st, .slice pa n pc]] X fun e y => RelTold (trT tn es ks.length).length (foldQ (fun _ => []) (rdT es (trT tn es ks.length) tn (nulB tn n L R) (trT tn es ks.length).length)) X e y := by
  have hO := relOK ta na la pa tc nc lc pc ts ns lv n L R ra rc V st w tn nn ln hlen hG hc h
  exact ureads_ok ta na la pa tc nc lc pc n st X tn nn ln ks es (trT tn es ks.length) (nulB tn n L R) hO.rl fun Y hY => (uofOk ta na la pa tc nc lc pc ts ns lv n L R ra rc V st Y tn nn ln hlen (hG.kept (grown_trans hX hY)) hc h).1
theorem rel_includes (hc : closedOK ts ns lv st n L R V) {ks : List (List It)} {es : List (List (Nat × Nat))} (h : autoF (GG tn n L R) (tn + nn) 256 = some (ks, es)) (X : World) (hX : w.grownBy X none) : Calls Tryz.prog 13 #[.agg #[.slice ta tn tc, .slice na nn nc, .slice la ln lc, .int .i64 st, .slice pa n pc]] X fun e y => RelTold (trT tn es ks.length).length (foldQ (fun _ => []) (inT es (trT tn es ks.length) tn (nulB tn n L R) n L R (trT tn es ks.length).length)) X e y := by
  have hO := relOK ta na la pa tc nc lc pc ts ns lv n L R ra rc V st w tn nn ln hlen hG hc h
  exact uincludes_ok ta na la pa tc nc lc pc n st X tn nn ln ks es (trT tn es ks.length) (nulB tn n L R) L R ra rc V hO.rl (hG.kept hX).prods (by have := hO.may.pmax; omega) hO.rows fun Y hY => (uofOk ta na la pa tc nc lc pc ts ns lv n L R ra rc V st Y tn nn ln hlen (hG.kept (grown_trans hX hY)) hc h).1
theorem rel_lookback (hc : closedOK ts ns lv st n L R V) {ks : List (List It)} {es : List (List (Nat × Nat))} (h : autoF (GG tn n L R) (tn + nn) 256 = some (ks, es)) (X : World) (hX : w.grownBy X none) : Calls Tryz.prog 14 #[.agg #[.slice ta tn tc, .slice na nn nc, .slice la ln lc, .int .i64 st, .slice pa n pc]] X fun e y => BkTold ks.length n (foldA (lbT es (trT tn es ks.length) n L R (trT tn es ks.length).length)) X e y := by
  have hO := relOK ta na la pa tc nc lc pc ts ns lv n L R ra rc V st w tn nn ln hlen hG hc h
  exact ulookback_ok ta na la pa tc nc lc pc n st X tn nn ln ks es (trT tn es ks.length) (nulB tn n L R) L R ra rc V hO.rl (hG.kept hX).prods (by have := hO.may.pmax; omega) hO.rows fun Y hY => (uofOk ta na la pa tc nc lc pc ts ns lv n L R ra rc V st Y tn nn ln hlen (hG.kept (grown_trans hX hY)) hc h).1
/-- Where there is no automaton. -/
theorem rel_bad {err : Int} (he : (err = 1 ∧ ¬ closedOK ts ns lv st n L R V) ∨ (err = 11 ∧ closedOK ts ns lv st n L R V ∧ autoF (GG tn n L R) (tn + nn) 256 = none)) (X : World) (hX : w.grownBy X none) : (Calls Tryz.prog 12 #[.agg #[.slice ta tn tc, .slice na nn nc, .slice la ln lc, .int .i64 st, .slice pa n pc]] X fun e y => e = .returned (.tuple #[.slice none 0 0, .int .i64 err]) ∧ X.grownBy y none) ∧ (Calls Tryz.prog 13 #[.agg #[.slice ta tn tc, .slice na nn nc, .slice la ln lc, .int .i64 st, .slice pa n pc]] X fun e y => e = .returned (.tuple #[.slice none 0 0, .int .i64 err]) ∧ X.grownBy y none) ∧ (Calls Tryz.prog 14 #[.agg #[.slice ta tn tc, .slice na nn nc, .slice la ln lc, .int .i64 st, .slice pa n pc]] X fun e y => e = .returned (.tuple #[.slice none 0 0, .int .i64 err]) ∧ X.grownBy y none) := by
  have hOf : ∀ Y, X.grownBy Y none → Calls Tryz.prog 30 #[.agg #[.slice ta tn tc, .slice na nn nc, .slice la ln lc, .int .i64 st, .slice pa n pc]] Y fun e y => e = .returned (.tuple #[.agg #[.slice none 0 0, .slice none 0 0, .slice none 0 0, .int .i64 0, .slice none 0 0, .slice none 0 0, .slice none 0 0, .slice none 0 0, .slice none 0 0, .slice none 0 0], .int .i64 err]) ∧ Y.grownBy y none := fun Y hY => by
    rcases he with ⟨rfl, hc⟩ | ⟨rfl, hc, h⟩
    · exact uofBad1 ta na la pa tc nc lc pc ts ns lv n L R ra rc V st Y tn nn ln hlen (hG.kept (grown_trans hX hY)) hc
    · exact uofBad11 ta na la pa tc nc lc pc ts ns lv n L R ra rc V st Y tn nn ln hlen (hG.kept (grown_trans hX hY)) hc h
  have he' : err = 1 ∨ err = 11 := by
    rcases he with h | h
    · exact .inl h.1
    · exact .inr h.1
  exact ⟨ureads_bad ta na la pa tc nc lc pc n st X tn nn ln err he' hOf, uincludes_bad ta na la pa tc nc lc pc n st X tn nn ln err he' hOf, ulookback_bad ta na la pa tc nc lc pc n st X tn nn ln err he' hOf⟩
end

end Go.Proofs.YthoamlahbnphkaaGreat.J

/-
  relate: the law's awake.
-/
namespace Go.Proofs.YthoamlahbnphkaaGreat.J
open Go.RowKit Go.Maps Go.Shelf

attribute [local go_sem] Oper.semAt_some

set_option maxRecDepth 100000 in
set_option maxHeartbeats 2000000 in
theorem uawake_any (w : World) : Calls Tryz.prog 7 #[] w fun e w' => e = .returned (.bool true) ∧ w.grownBy w' none := by
  go_enter Tryz.func7, Tryz.ntmps7
  go_wp2_with fail
  refine Calls.mono (vsmall_any w) ?_
  rintro e w1 ⟨b1, b2, b7, ra, rc, rfl, hG1, hg1⟩
  have HRD : Hid (∀ X, w1.grownBy X none → Calls Tryz.prog 12 #[.agg #[.slice (some ⟨b1, 0, none⟩) 3 3, .slice (some ⟨b2, 0, none⟩) 4 4, .slice none 0 0, .int .i64 4, .slice (some ⟨b7, 0, none⟩) 6 6]] X fun e y => ∃ kb a c, e = .returned (.tuple #[.slice (some ⟨kb, 0, none⟩) 5 5, .int .i64 0]) ∧ y.cell? ⟨kb, 1, none⟩ = some (.slice (some ⟨a, 0, none⟩) 1 c) ∧ y.cell? ⟨a, 0, none⟩ = some (.int .i64 3) ∧ X.grownBy y none) := fun X hX => by
    refine (rel_reads (some ⟨b1, 0, none⟩) (some ⟨b2, 0, none⟩) none (some ⟨b7, 0, none⟩) 3 4 0 6 vTs vNs [] 6 vL vR ra rc (fun _ => 0) 4 w1 3 4 0 ⟨rfl, rfl, rfl⟩ hG1 v_closed v_ggT X hX).mono ?_
    rintro e y ⟨P, kb, bx, ua, uc, hP, rfl, hL⟩
    rw [v_trT] at hL ⊢
    rw [v_nul] at hL
    have h1 := hL.val.cell 1 (by decide)
    have h2 := hL.own 1 (by decide)
    have e1 : foldQ (fun _ => []) (rdT vEs [(0, 4), (0, 5), (3, 4), (3, 5), (4, 6)] 3 vF [((0 : Int), (4 : Int)), (0, 5), (3, 4), (3, 5), (4, 6)].length) 1 = [3] := v_rd
    rw [e1] at h1 h2
    obtain ⟨g, c, he, hc⟩ := owns_at h2 (by decide)
    simp only [Value.slice.injEq] at he
    rw [he.1] at h1
    exact ⟨kb, g, uc 1, rfl, h1, hc 0 _ rfl, grown_trans hP hL.grown⟩
  have HIN : Hid (∀ X, w1.grownBy X none → Calls Tryz.prog 13 #[.agg #[.slice (some ⟨b1, 0, none⟩) 3 3, .slice (some ⟨b2, 0, none⟩) 4 4, .slice none 0 0, .int .i64 4, .slice (some ⟨b7, 0, none⟩) 6 6]] X fun e y => ∃ kb a c, e = .returned (.tuple #[.slice (some ⟨kb, 0, none⟩) 5 5, .int .i64 0]) ∧ y.cell? ⟨kb, 2, none⟩ = some (.slice a 2 c) ∧ X.grownBy y none) := fun X hX => by
    refine (rel_includes (some ⟨b1, 0, none⟩) (some ⟨b2, 0, none⟩) none (some ⟨b7, 0, none⟩) 3 4 0 6 vTs vNs [] 6 vL vR ra rc (fun _ => 0) 4 w1 3 4 0 ⟨rfl, rfl, rfl⟩ hG1 v_closed v_ggT X hX).mono ?_
    rintro e y ⟨P, kb, bx, ua, uc, hP, rfl, hL⟩
    rw [v_trT] at hL ⊢
    rw [v_nul] at hL
    have h1 := hL.val.cell 2 (by decide)
    have e1 : (foldQ (fun _ => []) (inT vEs [(0, 4), (0, 5), (3, 4), (3, 5), (4, 6)] 3 vF 6 vL vR [((0 : Int), (4 : Int)), (0, 5), (3, 4), (3, 5), (4, 6)].length) 2).length = 2 := v_in
    rw [e1] at h1
    exact ⟨kb, ua 2, uc 2, rfl, h1, grown_trans hP hL.grown⟩
  have HLB : Hid (∀ X, w1.grownBy X none → Calls Tryz.prog 14 #[.agg #[.slice (some ⟨b1, 0, none⟩) 3 3, .slice (some ⟨b2, 0, none⟩) 4 4, .slice none 0 0, .int .i64 4, .slice (some ⟨b7, 0, none⟩) 6 6]] X fun e y => ∃ g a c c', e = .returned (.tuple #[.slice (some ⟨g, 0, none⟩) 6 c', .int .i64 0]) ∧ y.cell? ⟨g, 17, none⟩ = some (.slice a 2 c) ∧ X.grownBy y none) := fun X hX => by
    refine (rel_lookback (some ⟨b1, 0, none⟩) (some ⟨b2, 0, none⟩) none (some ⟨b7, 0, none⟩) 3 4 0 6 vTs vNs [] 6 vL vR ra rc (fun _ => 0) 4 w1 3 4 0 ⟨rfl, rfl, rfl⟩ hG1 v_closed v_ggT X hX).mono ?_
    rintro e y ⟨P, a, c, bx, kb, rb, ua, uc, hP, rfl, hL, ho⟩
    rw [v_trT] at hL ho ⊢
    have e0 : lbT vEs [(0, 4), (0, 5), (3, 4), (3, 5), (4, 6)] 6 vL vR [((0 : Int), (4 : Int)), (0, 5), (3, 4), (3, 5), (4, 6)].length = [(37, 0), (8, 0), (3, 1), (37, 2), (8, 2), (21, 3), (28, 4), (35, 4)] := v_lb
    rw [e0] at hL ho ⊢
    have e1 : bkI (foldA [(37, 0), (8, 0), (3, 1), (37, 2), (8, 2), (21, 3), (28, 4), (35, 4)]) 6 vKs.length = [(0, 3), (1, 2), (3, 3), (4, 4), (5, 5), (6, 1)] := v_bk
    rw [e1] at ho ⊢
    obtain ⟨g, c2, he, hc⟩ := owns_at ho (by decide)
    simp only [Value.slice.injEq] at he
    obtain ⟨rfl, _, rfl⟩ := he
    have h1 := hc 17 _ rfl
    have e2 : (foldA [(37, 0), (8, 0), (3, 1), (37, 2), (8, 2), (21, 3), (28, 4), (35, 4)] (6 * 6 + 1)).length = 2 := v_b5
    rw [e2] at h1
    exact ⟨g, _, _, c, rfl, h1, grown_trans hP hL.grown⟩
  obtain ⟨gb, hgb⟩ : ∃ gb, gb = w1.heap.size := ⟨_, rfl⟩
  obtain ⟨X1, hX1⟩ : ∃ X1, X1 = w1.alloc (.cells #[.slice (some ⟨b1, 0, none⟩) 3 3, .slice (some ⟨b2, 0, none⟩) 4 4, .slice none 0 0, .int .i64 4, .slice (some ⟨b7, 0, none⟩) 6 6] 27) := ⟨_, rfl⟩
  have HP1 : Hid (PhAt w1 X1 gb #[.slice (some ⟨b1, 0, none⟩) 3 3, .slice (some ⟨b2, 0, none⟩) 4 4, .slice none 0 0, .int .i64 4, .slice (some ⟨b7, 0, none⟩) 6 6]) := ⟨by rw [hX1]; exact World.grownBy_alloc _ _ none, by rw [hX1, hgb]; exact heap_alloc_last w1 _⟩
  have HGW : Hid (w.grownBy w1 none) := hg1
  have HXE := show Hid _ from hX1
  have HGE := show Hid _ from hgb
  clear hG1 hg1 hX1 hgb
  go_wp2_with fail
  rw [← HXE.out, ← HGE.out]
  refine Calls.mono (HRD.out X1 HP1.out.grown) ?_
  rintro e w2 ⟨k2, g2, c2, rfl, r0, r1, hg2⟩
  have HP2 : Hid (PhAt w1 w2 gb #[.slice (some ⟨b1, 0, none⟩) 3 3, .slice (some ⟨b2, 0, none⟩) 4 4, .slice none 0 0, .int .i64 4, .slice (some ⟨b7, 0, none⟩) 6 6]) := HP1.out.kept hg2
  clear hg2 HP1 HXE HGE HRD
  obtain ⟨k0, k1, k2', k3, k4⟩ := HP2.out.cells
  go_wp2_with fail
  refine Calls.mono (HIN.out w2 HP2.out.grown) ?_
  rintro e w3 ⟨kc, a3, c3, rfl, y0, hg3⟩
  have HP3 : Hid (PhAt w1 w3 gb #[.slice (some ⟨b1, 0, none⟩) 3 3, .slice (some ⟨b2, 0, none⟩) 4 4, .slice none 0 0, .int .i64 4, .slice (some ⟨b7, 0, none⟩) 6 6]) := HP2.out.kept hg3
  have q0 := hg3.cell r0 (by simp)
  have q1 := hg3.cell r1 (by simp)
  clear hg3 HP2 HIN k0 k1 k2' k3 k4 r0 r1
  obtain ⟨k0, k1, k2', k3, k4⟩ := HP3.out.cells
  go_wp2_with fail
  refine Calls.mono (HLB.out w3 HP3.out.grown) ?_
  rintro e w4 ⟨g4, a4, c4, c5, rfl, z0, hg4⟩
  have s0 := hg4.cell q0 (by simp)
  have s1 := hg4.cell q1 (by simp)
  have s2 := hg4.cell y0 (by simp)
  have HG4 : Hid (w.grownBy w4 none) := grown_trans HGW.out (grown_trans HP3.out.grown hg4)
  clear hg4 HP3 HLB k0 k1 k2' k3 k4 q0 q1 y0 HGW
  go_wp2_with fail
  go_ret
  exact ⟨rfl, HG4.out⟩

end Go.Proofs.YthoamlahbnphkaaGreat.J

/-
  relate: the law's asked.
-/
namespace Go.Proofs.YthoamlahbnphkaaGreat.J
open Go.RowKit Go.Maps Go.Shelf

attribute [local go_sem] Oper.semAt_some

section
variable (ta na la pa : Option Addr) (tc nc lc pc : Nat) (n : Nat) (st : Int) (w : World) (tn nn ln : Nat)

set_option maxRecDepth 100000 in
set_option maxHeartbeats 1000000 in
theorem uasked_bad1 (hBU : ∀ X, w.grownBy X none → Calls Tryz.prog 22 #[.agg #[.slice ta tn tc, .slice na nn nc, .slice la ln lc, .int .i64 st, .slice pa n pc]] X fun e y => e = .returned (.tuple #[.agg #[.slice none 0 0, .int .i64 0, .int .i64 0], .int .i64 1]) ∧ X.grownBy y none)
    (hLI : ∀ X, w.grownBy X none → Calls Tryz.prog 36 #[.agg #[.slice ta tn tc, .slice na nn nc, .slice la ln lc, .int .i64 st, .slice pa n pc]] X fun e y => e = .returned (.tuple #[.slice none 0 0, .int .i64 1]) ∧ X.grownBy y none)
    (hRE : ∀ X, w.grownBy X none → (Calls Tryz.prog 12 #[.agg #[.slice ta tn tc, .slice na nn nc, .slice la ln lc, .int .i64 st, .slice pa n pc]] X fun e y => e = .returned (.tuple #[.slice none 0 0, .int .i64 1]) ∧ X.grownBy y none) ∧ (Calls Tryz.prog 13 #[.agg #[.slice ta tn tc, .slice na nn nc, .slice la ln lc, .int .i64 st, .slice pa n pc]] X fun e y => e = .returned (.tuple #[.slice none 0 0, .int .i64 1]) ∧ X.grownBy y none) ∧ (Calls Tryz.prog 14 #[.agg #[.slice ta tn tc, .slice na nn nc, .slice la ln lc, .int .i64 st, .slice pa n pc]] X fun e y => e = .returned (.tuple #[.slice none 0 0, .int .i64 1]) ∧ X.grownBy y none))
    (hCL : ∀ X, w.grownBy X none → Calls Tryz.prog 37 #[.agg #[.slice ta tn tc, .slice na nn nc, .slice la ln lc, .int .i64 st, .slice pa n pc]] X fun e y => e = .returned (.bool false) ∧ X.grownBy y none) :
    Calls Tryz.prog 18 #[.agg #[.slice ta tn tc, .slice na nn nc, .slice la ln lc, .int .i64 st, .slice pa n pc]] w fun e y => e = .returned (.tuple #[.pointer none, .bool true]) ∧ w.grownBy y none := by
  have HBU := show Hid _ from hBU
  have HLI := show Hid _ from hLI
  have HRE := show Hid _ from hRE
  have HCL := show Hid _ from hCL
  have HP0 : Hid (PhAt w (w.alloc (.cells #[.slice ta tn tc, .slice na nn nc, .slice la ln lc, .int .i64 st, .slice pa n pc] 27)) w.heap.size #[.slice ta tn tc, .slice na nn nc, .slice la ln lc, .int .i64 st, .slice pa n pc]) := ⟨World.grownBy_alloc _ _ none, heap_alloc_last w _⟩
  clear hBU hLI hRE hCL
  go_enter Tryz.func18, Tryz.ntmps18
  go_wp2_with fail
  refine Calls.mono (HBU.out _ HP0.out.grown) ?_
  rintro e w1 ⟨rfl, hg1⟩
  have HP1 : Hid (PhAt w (w1.alloc (.cells #[.slice none 0 0, .int .i64 0, .int .i64 0] 59)) w.heap.size #[.slice ta tn tc, .slice na nn nc, .slice la ln lc, .int .i64 st, .slice pa n pc]) := HP0.out.kept (grown_trans hg1 (World.grownBy_alloc _ _ none))
  clear hg1 HP0
  obtain ⟨k0, k1, k2, k3, k4⟩ := HP1.out.cells
  go_wp2_with fail
  refine Calls.mono (HLI.out _ HP1.out.grown) ?_
  rintro e w2 ⟨rfl, hg2⟩
  have HP2 : Hid (PhAt w w2 w.heap.size #[.slice ta tn tc, .slice na nn nc, .slice la ln lc, .int .i64 st, .slice pa n pc]) := HP1.out.kept hg2
  clear hg2 HP1 k0 k1 k2 k3 k4
  obtain ⟨k0, k1, k2, k3, k4⟩ := HP2.out.cells
  go_wp2_with fail
  refine Calls.mono (HRE.out _ HP2.out.grown).1 ?_
  rintro e w3 ⟨rfl, hg3⟩
  have HP3 : Hid (PhAt w w3 w.heap.size #[.slice ta tn tc, .slice na nn nc, .slice la ln lc, .int .i64 st, .slice pa n pc]) := HP2.out.kept hg3
  clear hg3 HP2 k0 k1 k2 k3 k4
  obtain ⟨k0, k1, k2, k3, k4⟩ := HP3.out.cells
  go_wp2_with fail
  refine Calls.mono (HRE.out _ HP3.out.grown).2.1 ?_
  rintro e w4 ⟨rfl, hg4⟩
  have HP4 : Hid (PhAt w w4 w.heap.size #[.slice ta tn tc, .slice na nn nc, .slice la ln lc, .int .i64 st, .slice pa n pc]) := HP3.out.kept hg4
  clear hg4 HP3 k0 k1 k2 k3 k4
  obtain ⟨k0, k1, k2, k3, k4⟩ := HP4.out.cells
  go_wp2_with fail
  refine Calls.mono (HRE.out _ HP4.out.grown).2.2 ?_
  rintro e w5 ⟨rfl, hg5⟩
  have HP5 : Hid (PhAt w w5 w.heap.size #[.slice ta tn tc, .slice na nn nc, .slice la ln lc, .int .i64 st, .slice pa n pc]) := HP4.out.kept hg5
  clear hg5 HP4 k0 k1 k2 k3 k4
  obtain ⟨k0, k1, k2, k3, k4⟩ := HP5.out.cells
  go_wp2_with fail
  refine Calls.mono (HCL.out _ HP5.out.grown) ?_
  rintro e w6 ⟨rfl, hg6⟩
  have HG6 : Hid (w.grownBy w6 none) := grown_trans HP5.out.grown hg6
  clear hg6 HP5 k0 k1 k2 k3 k4
  go_wp2_with fail
  go_ret2
  exact ⟨rfl, HG6.out⟩

set_option maxRecDepth 100000 in
set_option maxHeartbeats 1000000 in
theorem uasked_bad11 (hBU : ∀ X, w.grownBy X none → Calls Tryz.prog 22 #[.agg #[.slice ta tn tc, .slice na nn nc, .slice la ln lc, .int .i64 st, .slice pa n pc]] X fun e y => e = .returned (.tuple #[.agg #[.slice none 0 0, .int .i64 0, .int .i64 0], .int .i64 11]) ∧ X.grownBy y none)
    (hLI : ∀ X, w.grownBy X none → Calls Tryz.prog 36 #[.agg #[.slice ta tn tc, .slice na nn nc, .slice la ln lc, .int .i64 st, .slice pa n pc]] X fun e y => e = .returned (.tuple #[.slice none 0 0, .int .i64 11]) ∧ X.grownBy y none)
    (hRE : ∀ X, w.grownBy X none → (Calls Tryz.prog 12 #[.agg #[.slice ta tn tc, .slice na nn nc, .slice la ln lc, .int .i64 st, .slice pa n pc]] X fun e y => e = .returned (.tuple #[.slice none 0 0, .int .i64 11]) ∧ X.grownBy y none) ∧ (Calls Tryz.prog 13 #[.agg #[.slice ta tn tc, .slice na nn nc, .slice la ln lc, .int .i64 st, .slice pa n pc]] X fun e y => e = .returned (.tuple #[.slice none 0 0, .int .i64 11]) ∧ X.grownBy y none) ∧ (Calls Tryz.prog 14 #[.agg #[.slice ta tn tc, .slice na nn nc, .slice la ln lc, .int .i64 st, .slice pa n pc]] X fun e y => e = .returned (.tuple #[.slice none 0 0, .int .i64 11]) ∧ X.grownBy y none))
    (hCL : ∀ X, w.grownBy X none → Calls Tryz.prog 37 #[.agg #[.slice ta tn tc, .slice na nn nc, .slice la ln lc, .int .i64 st, .slice pa n pc]] X fun e y => e = .returned (.bool true) ∧ X.grownBy y none) :
    Calls Tryz.prog 18 #[.agg #[.slice ta tn tc, .slice na nn nc, .slice la ln lc, .int .i64 st, .slice pa n pc]] w fun e y => e = .returned (.tuple #[.pointer none, .bool true]) ∧ w.grownBy y none := by
  have HBU := show Hid _ from hBU
  have HLI := show Hid _ from hLI
  have HRE := show Hid _ from hRE
  have HCL := show Hid _ from hCL
  have HP0 : Hid (PhAt w (w.alloc (.cells #[.slice ta tn tc, .slice na nn nc, .slice la ln lc, .int .i64 st, .slice pa n pc] 27)) w.heap.size #[.slice ta tn tc, .slice na nn nc, .slice la ln lc, .int .i64 st, .slice pa n pc]) := ⟨World.grownBy_alloc _ _ none, heap_alloc_last w _⟩
  clear hBU hLI hRE hCL
  go_enter Tryz.func18, Tryz.ntmps18
  go_wp2_with fail
  refine Calls.mono (HBU.out _ HP0.out.grown) ?_
  rintro e w1 ⟨rfl, hg1⟩
  have HP1 : Hid (PhAt w (w1.alloc (.cells #[.slice none 0 0, .int .i64 0, .int .i64 0] 59)) w.heap.size #[.slice ta tn tc, .slice na nn nc, .slice la ln lc, .int .i64 st, .slice pa n pc]) := HP0.out.kept (grown_trans hg1 (World.grownBy_alloc _ _ none))
  clear hg1 HP0
  obtain ⟨k0, k1, k2, k3, k4⟩ := HP1.out.cells
  go_wp2_with fail
  refine Calls.mono (HLI.out _ HP1.out.grown) ?_
  rintro e w2 ⟨rfl, hg2⟩
  have HP2 : Hid (PhAt w w2 w.heap.size #[.slice ta tn tc, .slice na nn nc, .slice la ln lc, .int .i64 st, .slice pa n pc]) := HP1.out.kept hg2
  clear hg2 HP1 k0 k1 k2 k3 k4
  obtain ⟨k0, k1, k2, k3, k4⟩ := HP2.out.cells
  go_wp2_with fail
  refine Calls.mono (HRE.out _ HP2.out.grown).1 ?_
  rintro e w3 ⟨rfl, hg3⟩
  have HP3 : Hid (PhAt w w3 w.heap.size #[.slice ta tn tc, .slice na nn nc, .slice la ln lc, .int .i64 st, .slice pa n pc]) := HP2.out.kept hg3
  clear hg3 HP2 k0 k1 k2 k3 k4
  obtain ⟨k0, k1, k2, k3, k4⟩ := HP3.out.cells
  go_wp2_with fail
  refine Calls.mono (HRE.out _ HP3.out.grown).2.1 ?_
  rintro e w4 ⟨rfl, hg4⟩
  have HP4 : Hid (PhAt w w4 w.heap.size #[.slice ta tn tc, .slice na nn nc, .slice la ln lc, .int .i64 st, .slice pa n pc]) := HP3.out.kept hg4
  clear hg4 HP3 k0 k1 k2 k3 k4
  obtain ⟨k0, k1, k2, k3, k4⟩ := HP4.out.cells
  go_wp2_with fail
  refine Calls.mono (HRE.out _ HP4.out.grown).2.2 ?_
  rintro e w5 ⟨rfl, hg5⟩
  have HP5 : Hid (PhAt w w5 w.heap.size #[.slice ta tn tc, .slice na nn nc, .slice la ln lc, .int .i64 st, .slice pa n pc]) := HP4.out.kept hg5
  clear hg5 HP4 k0 k1 k2 k3 k4
  obtain ⟨k0, k1, k2, k3, k4⟩ := HP5.out.cells
  go_wp2_with fail
  refine Calls.mono (HCL.out _ HP5.out.grown) ?_
  rintro e w6 ⟨rfl, hg6⟩
  have HG6 : Hid (w.grownBy w6 none) := grown_trans HP5.out.grown hg6
  clear hg6 HP5 k0 k1 k2 k3 k4
  go_wp2_with fail
  go_ret2
  exact ⟨rfl, HG6.out⟩

/-- What asked tells. -/
def UAskTold (ta na la pa : Option Addr) (tc nc lc pc : Nat) (n : Nat) (st : Int) (tn nn ln : Nat) (tl : List It) (F : Nat → Bool) (w : World) (e : Ending) (y : World) : Prop := ∃ wb a c nb, e = .returned (.tuple #[.pointer (some ⟨wb, 0, none⟩), .bool true]) ∧ y.heap[wb]? = some (.cells #[.slice ta tn tc, .slice na nn nc, .slice la ln lc, .int .i64 st, .slice pa n pc, .slice a tl.length c, .slice (some ⟨nb, 0, none⟩) nn nn] 49 (0, 0)) ∧ y.ownsRow w.heap.size 53 2 (.slice a tl.length c) tl.length (itsV tl) ∧ ValAt y nb nn 4 (fun i => .bool (F i)) ∧ w.grownBy y none

set_option maxRecDepth 100000 in
set_option maxHeartbeats 1000000 in
theorem uasked_ok (ks : List (List It)) (es : List (List (Nat × Nat))) (tl : List It) (F : Nat → Bool) (N T : Nat) (Q1 Q2 Q3 : Nat → List Int)
    (hBU : ∀ X, w.grownBy X none → Calls Tryz.prog 22 #[.agg #[.slice ta tn tc, .slice na nn nc, .slice la ln lc, .int .i64 st, .slice pa n pc]] X fun e y => ∃ sa sc kv ev, e = .returned (.tuple #[.agg #[.slice sa ks.length sc, .int .i64 (askN es : Int), .int .i64 (ks.length : Int)], .int .i64 0]) ∧ AutP X.heap.size y (.slice sa ks.length sc) ks (elF es) kv ev ∧ X.grownBy y none)
    (hLI : ∀ X, w.grownBy X none → Calls Tryz.prog 36 #[.agg #[.slice ta tn tc, .slice na nn nc, .slice la ln lc, .int .i64 st, .slice pa n pc]] X fun e y => TrErr tl X e y)
    (hRD : ∀ X, w.grownBy X none → Calls Tryz.prog 12 #[.agg #[.slice ta tn tc, .slice na nn nc, .slice la ln lc, .int .i64 st, .slice pa n pc]] X fun e y => RelTold T Q1 X e y)
    (hIN : ∀ X, w.grownBy X none → Calls Tryz.prog 13 #[.agg #[.slice ta tn tc, .slice na nn nc, .slice la ln lc, .int .i64 st, .slice pa n pc]] X fun e y => RelTold T Q2 X e y)
    (hLB : ∀ X, w.grownBy X none → Calls Tryz.prog 14 #[.agg #[.slice ta tn tc, .slice na nn nc, .slice la ln lc, .int .i64 st, .slice pa n pc]] X fun e y => BkTold N n Q3 X e y)
    (hCL : ∀ X, w.grownBy X none → Calls Tryz.prog 37 #[.agg #[.slice ta tn tc, .slice na nn nc, .slice la ln lc, .int .i64 st, .slice pa n pc]] X fun e y => e = .returned (.bool true) ∧ X.grownBy y none)
    (hNU : ∀ X, w.grownBy X none → Calls Tryz.prog 38 #[.agg #[.slice ta tn tc, .slice na nn nc, .slice la ln lc, .int .i64 st, .slice pa n pc]] X fun e y => ∃ k, e = .returned (.tuple #[.slice (some ⟨k, 0, none⟩) nn nn, .int .i64 0]) ∧ X.heap.size ≤ k ∧ ValAt y k nn 4 (fun i => .bool (F i)) ∧ X.grownBy y none) :
    Calls Tryz.prog 18 #[.agg #[.slice ta tn tc, .slice na nn nc, .slice la ln lc, .int .i64 st, .slice pa n pc]] w fun e y => UAskTold ta na la pa tc nc lc pc n st tn nn ln tl F w e y := by
  have HBU := show Hid _ from hBU
  have HLI := show Hid _ from hLI
  have HRD := show Hid _ from hRD
  have HIN := show Hid _ from hIN
  have HLB := show Hid _ from hLB
  have HCL := show Hid _ from hCL
  have HNU := show Hid _ from hNU
  have HP0 : Hid (PhAt w (w.alloc (.cells #[.slice ta tn tc, .slice na nn nc, .slice la ln lc, .int .i64 st, .slice pa n pc] 27)) w.heap.size #[.slice ta tn tc, .slice na nn nc, .slice la ln lc, .int .i64 st, .slice pa n pc]) := ⟨World.grownBy_alloc _ _ none, heap_alloc_last w _⟩
  clear hBU hLI hRD hIN hLB hCL hNU
  go_enter Tryz.func18, Tryz.ntmps18
  go_wp2_with fail
  refine Calls.mono (HBU.out _ HP0.out.grown) ?_
  rintro e w1 ⟨sa, sc, kv, ev, rfl, _, hg1⟩
  have HP1 : Hid (PhAt w (w1.alloc (.cells #[.slice sa ks.length sc, .int .i64 (askN es : Int), .int .i64 (ks.length : Int)] 59)) w.heap.size #[.slice ta tn tc, .slice na nn nc, .slice la ln lc, .int .i64 st, .slice pa n pc]) := HP0.out.kept (grown_trans hg1 (World.grownBy_alloc _ _ none))
  clear hg1 HP0
  obtain ⟨k0, k1, k2, k3, k4⟩ := HP1.out.cells
  go_wp2_with fail
  refine Calls.mono (HLI.out _ HP1.out.grown) ?_
  rintro e w2 ⟨a, c, rfl, ho2, hg2⟩
  have HP2 : Hid (PhAt w w2 w.heap.size #[.slice ta tn tc, .slice na nn nc, .slice la ln lc, .int .i64 st, .slice pa n pc]) := HP1.out.kept hg2
  have HO2 : Hid (w2.ownsRow w.heap.size 53 2 (.slice a tl.length c) tl.length (itsV tl)) := owns_base ho2 HP1.out.grown.size
  clear hg2 ho2 HP1 k0 k1 k2 k3 k4
  obtain ⟨k0, k1, k2, k3, k4⟩ := HP2.out.cells
  go_wp2_with fail
  refine Calls.mono (HRD.out _ HP2.out.grown) ?_
  rintro e w3 ⟨P3, kb3, bx3, ua3, uc3, hp3, rfl, hl3⟩
  have hg3 := grown_trans hp3 hl3.grown
  have HP3 : Hid (PhAt w w3 w.heap.size #[.slice ta tn tc, .slice na nn nc, .slice la ln lc, .int .i64 st, .slice pa n pc]) := HP2.out.kept hg3
  have HO3 := show Hid _ from keep0 HO2.out hg3
  clear hg3 hp3 hl3 HP2 HO2 k0 k1 k2 k3 k4
  obtain ⟨k0, k1, k2, k3, k4⟩ := HP3.out.cells
  go_wp2_with fail
  refine Calls.mono (HIN.out _ HP3.out.grown) ?_
  rintro e w4 ⟨P4, kb4, bx4, ua4, uc4, hp4, rfl, hl4⟩
  have hg4 := grown_trans hp4 hl4.grown
  have HP4 : Hid (PhAt w w4 w.heap.size #[.slice ta tn tc, .slice na nn nc, .slice la ln lc, .int .i64 st, .slice pa n pc]) := HP3.out.kept hg4
  have HO4 := show Hid _ from keep0 HO3.out hg4
  clear hg4 hp4 hl4 HP3 HO3 k0 k1 k2 k3 k4
  obtain ⟨k0, k1, k2, k3, k4⟩ := HP4.out.cells
  go_wp2_with fail
  refine Calls.mono (HLB.out _ HP4.out.grown) ?_
  rintro e w5 ⟨P5, a5, c5, bx5, kb5, rb5, ua5, uc5, hp5, rfl, hl5, _⟩
  have hg5 := grown_trans hp5 hl5.grown
  have HP5 : Hid (PhAt w w5 w.heap.size #[.slice ta tn tc, .slice na nn nc, .slice la ln lc, .int .i64 st, .slice pa n pc]) := HP4.out.kept hg5
  have HO5 := show Hid _ from keep0 HO4.out hg5
  clear hg5 hp5 hl5 HP4 HO4 k0 k1 k2 k3 k4
  obtain ⟨k0, k1, k2, k3, k4⟩ := HP5.out.cells
  go_wp2_with fail
  refine Calls.mono (HCL.out _ HP5.out.grown) ?_
  rintro e w6 ⟨rfl, hg6⟩
  have HP6 : Hid (PhAt w w6 w.heap.size #[.slice ta tn tc, .slice na nn nc, .slice la ln lc, .int .i64 st, .slice pa n pc]) := HP5.out.kept hg6
  have HO6 := show Hid _ from keep0 HO5.out hg6
  clear hg6 HP5 HO5 k0 k1 k2 k3 k4
  obtain ⟨k0, k1, k2, k3, k4⟩ := HP6.out.cells
  go_wp2_with fail
  refine Calls.mono (HNU.out _ HP6.out.grown) ?_
  rintro e w7 ⟨nb, rfl, _, hv7, hg7⟩
  have HP7 : Hid (PhAt w w7 w.heap.size #[.slice ta tn tc, .slice na nn nc, .slice la ln lc, .int .i64 st, .slice pa n pc]) := HP6.out.kept hg7
  have HO7 := show Hid _ from keep0 HO6.out hg7
  have HV7 : Hid (ValAt w7 nb nn 4 (fun i => .bool (F i))) := hv7
  clear hg7 hv7 HP6 HO6 k0 k1 k2 k3 k4
  obtain ⟨k0, k1, k2, k3, k4⟩ := HP7.out.cells
  have hnn : (nn != nn) = false := bne_self_eq_false _
  have hnn2 : ((nn : Int) != (nn : Int)) = false := bne_self_eq_false _
  have hbd : ∀ u, (Instr.build 49 #[(0, .agg #[.slice ta tn tc, .slice na nn nc, .slice la ln lc, .int .i64 st, .slice pa n pc]), (1, .slice a tl.length c), (2, .slice (some ⟨nb, 0, none⟩) nn nn)]).run Tryz.prog u = .ok (.agg #[.slice ta tn tc, .slice na nn nc, .slice la ln lc, .int .i64 st, .slice pa n pc, .slice a tl.length c, .slice (some ⟨nb, 0, none⟩) nn nn]) u := fun u => run_build u _ _ _ (by kernel_rfl)
  have HFIN : Hid (UAskTold ta na la pa tc nc lc pc n st tn nn ln tl F w (.returned (.tuple #[.pointer (some ⟨w7.heap.size, 0, none⟩), .bool true])) (w7.alloc (.cells #[.slice ta tn tc, .slice na nn nc, .slice la ln lc, .int .i64 st, .slice pa n pc, .slice a tl.length c, .slice (some ⟨nb, 0, none⟩) nn nn] 49))) :=
    ⟨_, a, c, nb, rfl, heap_alloc_last w7 _, keep0 HO7.out (World.grownBy_alloc _ _ none), HV7.out.kept (World.grownBy_alloc _ _ none), grown_trans HP7.out.grown (World.grownBy_alloc _ _ none)⟩
  clear HP7 HO7 HV7
  go_wp2_with fail
  go_ret2
  exact HFIN.out
end

end Go.Proofs.YthoamlahbnphkaaGreat.J

/-
  relate: the law's has.
-/
namespace Go.Proofs.YthoamlahbnphkaaGreat.J
open Go.RowKit Go.Maps Go.Shelf

attribute [local go_sem] Oper.semAt_some

set_option maxRecDepth 100000 in
set_option maxHeartbeats 1000000 in
theorem uhas_any (w : World) (a : Option Addr) (c : Nat) (l : List Int) (hI : IntsAt w a l) (hl : l.length ≤ 1000000) (z : Int) (r : Bool) (hr : r = decide (z ∈ l)) : Calls Tryz.prog 20 #[.slice a l.length c, .int .i64 z] w fun e w' => e = .returned (.bool r) ∧ w' = w := by
  have HI := show Hid _ from hI
  have HR := show Hid _ from hr
  obtain ⟨m, hm⟩ : ∃ m, m = l.length := ⟨_, rfl⟩
  have HM := show Hid _ from hm
  rw [← hm] at hl ⊢
  clear hI hr hm
  go_enter Tryz.func20, Tryz.ntmps20
  go_wp2_with fail
  go_loopg [5] m (fun gk v5 wr => ∃ (j : Nat), j ≤ m ∧ gk = m - j ∧ v5 = .int .i64 j ∧ wr = w ∧ ∀ x ∈ l.take j, x ≠ z)
  case atStart => exact ⟨0, Nat.zero_le _, rfl, rfl, rfl, fun x hx => by simp at hx⟩
  case round =>
    obtain ⟨j, hj, hgj, rfl, rfl, hno⟩ := hrel
    have HGJ : Hid (gk = m - j) := hgj
    have HNO := show Hid _ from hno
    clear hgj hno
    by_cases hlt : j < m
    · have hjd : decide (j < m) = true := decide_eq_true hlt
      have hj0 : (0 : Int) ≤ (j : Int) := by omega
      have hj1 : (j : Int) < (m : Int) := by omega
      have hjl : j < l.length := by rw [← HM.out]; exact hlt
      obtain ⟨x, hx⟩ : ∃ x, x = l.getD j 0 := ⟨_, rfl⟩
      obtain ⟨b, o, rfl, r0⟩ : ∃ b o, a = some ⟨b, o, none⟩ ∧ wr.cell? ⟨b, o + j, none⟩ = some (.int .i64 x) := by
        rcases HI.out with h | ⟨b, o, e, h⟩
        · rw [h] at hjl; exact absurd hjl (by simp)
        · exact ⟨b, o, e, by rw [hx]; exact h j hjl⟩
      have hjw : IntKind.i64.wrap ((j : Int) + 1) = (j : Int) + 1 := by rw [IntKind.wrap_i64]; omega
      by_cases e : x = z
      · have hxz : (x == z) = true := by rw [e]; exact beq_self_eq_true _
        have HRT : Hid (r = true) := by
          show _ = _
          rw [HR.out]
          refine decide_eq_true ?_
          rw [← e, hx]
          exact getD_in hjl
        clear hx e
        go_wp2_with fail
        go_ret
        exact ⟨by rw [HRT.out]; rfl, rfl⟩
      · have hxz : (x == z) = false := beq_eq_false_iff_ne.2 e
        have HN2 : Hid (∀ y ∈ l.take (j + 1), y ≠ z) := fun y hy => by
          rw [List.take_succ_eq_append_getElem hjl] at hy
          rcases List.mem_append.1 hy with h | h
          · exact HNO.out y h
          · rw [List.mem_singleton.1 h]
            rw [hx, List.getD_eq_getElem?_getD, List.getElem?_eq_getElem hjl] at e
            exact e
        clear hx e
        go_wp2_with fail
        go_roundg (m - (j + 1))
        all_goals first
          | exact (show ∃ (j' : Nat), _ from ⟨j + 1, by omega, rfl, by go_num, rfl, HN2.out⟩)
          | (have := HGJ.out; omega)
    · have hjm : m = j := by omega
      have hjd : decide (j < m) = false := decide_eq_false hlt
      have HRF : Hid (r = false) := by
        show _ = _
        rw [HR.out]
        refine decide_eq_false fun h => HNO.out z ?_ rfl
        rw [← hjm, HM.out, List.take_length]
        exact h
      clear hjm
      go_wp2_with fail
      go_ret
      exact ⟨by rw [HRF.out]; rfl, rfl⟩

end Go.Proofs.YthoamlahbnphkaaGreat.J

/-
  relate: the law RelateReads, walked.
-/
namespace Go.Proofs.YthoamlahbnphkaaGreat.J
open Go.RowKit Go.Maps Go.Shelf

attribute [local go_sem] Oper.semAt_some

/-- What the laws that ask without the document's answer hold in memory. -/
structure LwP (w X : World) (gv wv : Array Value) (wb nb nn T kb : Nat) (a : Option Addr) (c : Nat) (tl : List It) (F : Nat → Bool) (Q : Nat → List Int) (ua : Nat → Option Addr) (uc : Nat → Nat) : Prop where
  ph : PhAt w X w.heap.size gv
  wbox : X.heap[wb]? = some (.cells wv 49 (0, 0))
  trs : X.ownsRow w.heap.size 53 2 (.slice a T c) T (itsV tl)
  nul : ValAt X nb nn 4 (fun i => .bool (F i))
  val : ValAt X kb T 24 (fun k => .slice (ua k) (Q k).length (uc k))
  ints : ∀ k, k < T → IntsAt X (ua k) (Q k)
theorem LwP.kept {w X Y : World} {gv wv : Array Value} {wb nb nn T kb : Nat} {a : Option Addr} {c : Nat} {tl : List It} {F : Nat → Bool} {Q : Nat → List Int} {ua : Nat → Option Addr} {uc : Nat → Nat} (h : LwP w X gv wv wb nb nn T kb a c tl F Q ua uc) (hg : X.grownBy Y none) : LwP w Y gv wv wb nb nn T kb a c tl F Q ua uc :=
  ⟨h.ph.kept hg, box_kept h.wbox hg, keep0 h.trs hg, h.nul.kept hg, h.val.kept hg, fun k hk => (h.ints k hk).kept hg⟩
theorem LwP.tr {w X : World} {gv wv : Array Value} {wb nb nn T kb : Nat} {a : Option Addr} {c : Nat} {tl : List It} {F : Nat → Bool} {Q : Nat → List Int} {ua : Nat → Option Addr} {uc : Nat → Nat} (h : LwP w X gv wv wb nb nn T kb a c tl F Q ua uc) (hT : T = tl.length) {j q s : Nat} (hj : j < T) (e : tl.getD j (0, 0) = ((q : Int), (s : Int))) : ∃ xg, a = some ⟨xg, 0, none⟩ ∧ X.cell? ⟨xg, j * 2, none⟩ = some (.int .i64 (q : Int)) ∧ X.cell? ⟨xg, j * 2 + 1, none⟩ = some (.int .i64 (s : Int)) := by
  have hl : j < tl.length := by rw [← hT]; exact hj
  obtain ⟨g, c, e1, h1⟩ := owns_at h.trs (by omega)
  simp only [Value.slice.injEq] at e1
  obtain ⟨h2, h3⟩ := itsV_at tl j hl
  rw [e] at h2 h3
  exact ⟨g, e1.1, h1 _ _ h2, h1 _ _ h3⟩
theorem ints_of {X : World} {B c : Nat} {a : Option Addr} {l : List Int} (h : X.ownsRow B 3 1 (.slice a l.length c) l.length (intV l)) : IntsAt X a l := by
  by_cases e : l.length = 0
  · exact .inl (List.length_eq_zero_iff.1 e)
  · obtain ⟨g, c', e1, h1⟩ := owns_at h (by omega)
    simp only [Value.slice.injEq] at e1
    refine .inr ⟨g, 0, e1.1, fun i hi => ?_⟩
    rw [Nat.zero_add]
    refine h1 i _ ?_
    unfold intV
    rw [List.getElem?_map, List.getElem?_eq_getElem hi, List.getD_eq_getElem?_getD, List.getElem?_eq_getElem hi]; rfl
theorem wv_cells {X : World} {wb : Nat} {v0 v1 v2 v3 v4 v5 v6 : Value} {t : TypeId} (h : X.heap[wb]? = some (.cells #[v0, v1, v2, v3, v4, v5, v6] t (0, 0))) : X.cell? ⟨wb, 0, none⟩ = some v0 ∧ X.cell? ⟨wb, 4, none⟩ = some v4 ∧ X.cell? ⟨wb, 5, none⟩ = some v5 ∧ X.cell? ⟨wb, 6, none⟩ = some v6 := by
  refine ⟨?_, ?_, ?_, ?_⟩ <;> rw [cell_of_row _ _ _ _ _ _ h] <;> rfl

section
variable (ta na la pa : Option Addr) (tc nc lc pc : Nat) (n : Nat) (st : Int) (w : World) (tn nn ln : Nat)

end

end Go.Proofs.YthoamlahbnphkaaGreat.J

/-
  relate: the law RelateReads, for every grammar.
-/
namespace Go.Proofs.YthoamlahbnphkaaGreat.J
open Go.RowKit Go.Maps Go.Shelf

theorem getD_some' {l : List It} {k : Nat} {x : It} (hk : k < l.length) (e : l.getD k (0, 0) = x) : l[k]? = some x := by
  rw [List.getD_eq_getElem?_getD, List.getElem?_eq_getElem hk] at e
  rw [List.getElem?_eq_getElem hk]
  exact congrArg some e
theorem nextL_of_in {tn N : Nat} {es : List (List (Nat × Nat))} {q s : Nat} (h : ((q : Int), (s : Int)) ∈ trT tn es N) : q < N ∧ tn ≤ s ∧ ∃ t : Nat, nextL (es.getD q []) (s : Int) = some (t : Int) := by
  obtain ⟨q', h1, e, h2, h3, h4⟩ := trT_mem h
  simp only [Prod.mk.injEq] at h4
  have e1 : q = q' := by omega
  have e2 : s = e.1 := by omega
  subst e1
  obtain ⟨t, h5, _⟩ := nextL_some h2
  exact ⟨h1, by omega, t, by rw [e2]; exact h5⟩

section
variable (ta na la pa : Option Addr) (tc nc lc pc : Nat) (ts : List (ByteArray × Int)) (ns : List ByteArray) (lv : List Int) (n : Nat) (L : Nat → Int) (R : Nat → List Int) (ra : Nat → Option Addr) (rc : Nat → Nat) (V : Nat → Int) (st : Int) (w : World) (tn nn ln : Nat) (hlen : ts.length = tn ∧ ns.length = nn ∧ lv.length = ln) (hG : GAt w ta na la pa tc nc lc pc ts ns lv n L R ra rc V) (hts : ∀ t ∈ ts, t.1.size ≤ 140737488355328) (hns : ∀ s ∈ ns, s.size ≤ 140737488355328)
include hlen hG hts hns
theorem closedU (r : Bool) (hr : r = true ↔ closedOK ts ns lv st n L R V) (X : World) (hX : w.grownBy X none) : Calls Tryz.prog 37 #[.agg #[.slice ta tn tc, .slice na nn nc, .slice la ln lc, .int .i64 st, .slice pa n pc]] X fun e y => e = .returned (.bool r) ∧ X.grownBy y none := by
  obtain ⟨rfl, rfl, rfl⟩ := hlen
  exact rclosed_any ta na la pa tc nc lc pc st ts ns lv n L R ra rc V X (hG.kept hX) hts hns r hr
theorem askedBad (h : ¬ closedOK ts ns lv st n L R V ∨ (closedOK ts ns lv st n L R V ∧ autoF (GG tn n L R) (tn + nn) 256 = none)) (X : World) (hX : w.grownBy X none) : Calls Tryz.prog 18 #[.agg #[.slice ta tn tc, .slice na nn nc, .slice la ln lc, .int .i64 st, .slice pa n pc]] X fun e y => e = .returned (.tuple #[.pointer none, .bool true]) ∧ X.grownBy y none := by
  rcases h with hc | ⟨hc, hau⟩
  · exact uasked_bad1 ta na la pa tc nc lc pc n st X tn nn ln
      (fun Y hY => buildBad ta na la pa tc nc lc pc ts ns lv n L R ra rc V st Y tn nn ln hlen (hG.kept (grown_trans hX hY)) hc)
      (fun Y hY => listX_bad ta na la pa tc nc lc pc n st Y tn nn ln 1 (.inl rfl) (ofBad1 ta na la pa tc nc lc pc ts ns lv n L R ra rc V st Y tn nn ln hlen (hG.kept (grown_trans hX hY)) hc))
      (fun Y hY => rel_bad ta na la pa tc nc lc pc ts ns lv n L R ra rc V st w tn nn ln hlen hG (.inl ⟨rfl, hc⟩) Y (grown_trans hX hY))
      (fun Y hY => closedU ta na la pa tc nc lc pc ts ns lv n L R ra rc V st w tn nn ln hlen hG hts hns false (by simp [hc]) Y (grown_trans hX hY))
  · exact uasked_bad11 ta na la pa tc nc lc pc n st X tn nn ln
      (fun Y hY => build_none ta na la pa tc nc lc pc ts ns lv n L R ra rc V st w tn nn ln hlen hG hc hau Y (grown_trans hX hY))
      (fun Y hY => listX_bad ta na la pa tc nc lc pc n st Y tn nn ln 11 (.inr rfl) (ofBad11 ta na la pa tc nc lc pc ts ns lv n L R ra rc V st Y tn nn ln hlen (hG.kept (grown_trans hX hY)) hc hau))
      (fun Y hY => rel_bad ta na la pa tc nc lc pc ts ns lv n L R ra rc V st w tn nn ln hlen hG (.inr ⟨rfl, hc, hau⟩) Y (grown_trans hX hY))
      (fun Y hY => closedU ta na la pa tc nc lc pc ts ns lv n L R ra rc V st w tn nn ln hlen hG hts hns true (by simp [hc]) Y (grown_trans hX hY))
theorem askedOk (hc : closedOK ts ns lv st n L R V) {ks : List (List It)} {es : List (List (Nat × Nat))} (h : autoF (GG tn n L R) (tn + nn) 256 = some (ks, es)) (X : World) (hX : w.grownBy X none) : Calls Tryz.prog 18 #[.agg #[.slice ta tn tc, .slice na nn nc, .slice la ln lc, .int .i64 st, .slice pa n pc]] X fun e y => UAskTold ta na la pa tc nc lc pc n st tn nn ln (trT tn es ks.length) (nulB tn n L R) X e y := by
  have hO := relOK ta na la pa tc nc lc pc ts ns lv n L R ra rc V st w tn nn ln hlen hG hc h
  have hM := hO.may
  exact uasked_ok ta na la pa tc nc lc pc n st X tn nn ln ks es (trT tn es ks.length) (nulB tn n L R) ks.length (trT tn es ks.length).length _ _ _
    (fun Y hY => build_some ta na la pa tc nc lc pc ts ns lv n L R ra rc V st w tn nn ln hlen hG hc h Y (grown_trans hX hY))
    (fun Y hY => listX_ok ta na la pa tc nc lc pc n st Y tn nn ln ks es hO.eok.le (fun q hq => (hO.eok.each q hq).1) (ofOk ta na la pa tc nc lc pc ts ns lv n L R ra rc V st Y tn nn ln hlen (hG.kept (grown_trans hX hY)) hc h).1)
    (fun Y hY => rel_reads ta na la pa tc nc lc pc ts ns lv n L R ra rc V st w tn nn ln hlen hG hc h Y (grown_trans hX hY))
    (fun Y hY => rel_includes ta na la pa tc nc lc pc ts ns lv n L R ra rc V st w tn nn ln hlen hG hc h Y (grown_trans hX hY))
    (fun Y hY => rel_lookback ta na la pa tc nc lc pc ts ns lv n L R ra rc V st w tn nn ln hlen hG hc h Y (grown_trans hX hY))
    (fun Y hY => closedU ta na la pa tc nc lc pc ts ns lv n L R ra rc V st w tn nn ln hlen hG hts hns true (by simp [hc]) Y (grown_trans hX hY))
    (fun Y hY => nullable_ok ta na la pa tc nc lc pc ts ns lv n L R ra rc V st Y tn nn ln hlen (hG.kept (grown_trans hX hY)) (.inr hc) (cl := true) ⟨hM.t0, hM.tmax, hM.n0, hM.nmax, hM.pmax, hM.p0, hM.left, hM.right, hM.start, hM.added⟩ (nulB tn n L R) (fun i => nulB_iff tn n L R i))
omit hts hns in
theorem walkU (hc : closedOK ts ns lv st n L R V) {ks : List (List It)} {es : List (List (Nat × Nat))} (h : autoF (GG tn n L R) (tn + nn) 256 = some (ks, es)) (X : World) (hX : w.grownBy X none) (q : Nat) (hq : q < ks.length) (a : Option Addr) (c : Nat) (row : List Int) (hI : IntsAt X a row) (hl : row.length ≤ 1000000) (hs : ∀ x ∈ row, 0 ≤ x ∧ x < ((tn + nn : Nat) : Int)) : Calls Tryz.prog 19 #[.agg #[.slice ta tn tc, .slice na nn nc, .slice la ln lc, .int .i64 st, .slice pa n pc], .int .i64 (q : Int), .slice a row.length c] X fun e y => e = .returned (.tuple #[.int .i64 (wayV (wayF es (some (q : Int)) row)), .int .i64 0]) ∧ X.grownBy y none := by
  have hO := relOK ta na la pa tc nc lc pc ts ns lv n L R ra rc V st w tn nn ln hlen hG hc h
  exact walkX_ok ta na la pa tc nc lc pc n st X tn nn ln ks es hO.may.tmax hO.may.nmax hO.eok.le hO.eok.ok (ofOk ta na la pa tc nc lc pc ts ns lv n L R ra rc V st X tn nn ln hlen (hG.kept hX) hc h).1 q hq a c row hI (by omega) (fun x hx => by
    unfold noB
    rw [decide_eq_true (hs x hx)]; rfl)
end

end Go.Proofs.YthoamlahbnphkaaGreat.J

/-
  relate: the law's vanishes.
-/
namespace Go.Proofs.YthoamlahbnphkaaGreat.J
open Go.RowKit Go.Maps Go.Shelf

attribute [local go_sem] Oper.semAt_some

theorem take_snocI {l : List Int} {j : Nat} (hj : j < l.length) : l.take (j + 1) = l.take j ++ [l.getD j 0] := by
  rw [List.take_succ_eq_append_getElem hj, List.getD_eq_getElem?_getD, List.getElem?_eq_getElem hj]; rfl
/-- A row of symbols that vanish. -/
def VanP (tn : Nat) (F : Nat → Bool) (x : Int) : Prop := (tn : Int) ≤ x ∧ F (x.toNat - tn) = true

set_option maxRecDepth 100000 in
set_option maxHeartbeats 2000000 in
theorem uvanL_any (w : World) (wb nb tn nn tc : Nat) (ta : Option Addr) (F : Nat → Bool) (c0 : w.cell? ⟨wb, 0, none⟩ = some (.slice ta tn tc)) (c6 : w.cell? ⟨wb, 6, none⟩ = some (.slice (some ⟨nb, 0, none⟩) nn nn)) (hnul : ValAt w nb nn 4 (fun i => .bool (F i))) (hnn : nn ≤ 65) (a : Option Addr) (c : Nat) (row : List Int) (hI : IntsAt w a row) (hl : row.length ≤ 1000000) (hs : ∀ x ∈ row, 0 ≤ x ∧ x < ((tn + nn : Nat) : Int)) (r : Bool) (hr : r = true ↔ ∀ x ∈ row, VanP tn F x) : Calls Tryz.prog 43 #[.pointer (some ⟨wb, 0, none⟩), .slice a row.length c] w fun e y => e = .returned (.bool r) ∧ w.grownBy y none := by
  have HI : Hid (∀ X, w.grownBy X none → IntsAt X a row) := fun X hX => hI.kept hX
  have HC : Hid (∀ X, w.grownBy X none → X.cell? ⟨wb, 0, none⟩ = some (.slice ta tn tc) ∧ X.cell? ⟨wb, 6, none⟩ = some (.slice (some ⟨nb, 0, none⟩) nn nn)) := fun X hX => ⟨hX.cell c0 (by simp), hX.cell c6 (by simp)⟩
  have HN : Hid (∀ X, w.grownBy X none → ValAt X nb nn 4 (fun i => .bool (F i))) := fun X hX => hnul.kept hX
  have HR := show Hid _ from hr
  have HS := show Hid _ from hs
  obtain ⟨m, hm⟩ : ∃ m, m = row.length := ⟨_, rfl⟩
  have HM := show Hid _ from hm
  rw [← hm] at hl ⊢
  clear hI hr hm c0 c6 hnul hs
  go_enter Tryz.func43, Tryz.ntmps43
  go_wp2_with fail
  go_loopg [5] m (fun gk v5 wr => ∃ (j : Nat), j ≤ m ∧ gk = m - j ∧ v5 = .int .i64 j ∧ w.grownBy wr none ∧ ∀ x ∈ row.take j, VanP tn F x)
  case atStart => exact ⟨0, Nat.zero_le _, rfl, rfl, grown_refl _ _, fun x hx => by simp at hx⟩
  case round =>
    obtain ⟨j, hj, hgj, rfl, hg, hno⟩ := hrel
    have HGJ : Hid (gk = m - j) := hgj
    have HG : Hid (w.grownBy wr none) := hg
    have HNO := show Hid _ from hno
    clear hgj hno hg
    generalize wr = Y at *
    by_cases hlt : j < m
    · have hjd : decide (j < m) = true := decide_eq_true hlt
      have hj0 : (0 : Int) ≤ (j : Int) := by omega
      have hj1 : (j : Int) < (m : Int) := by omega
      have hjl : j < row.length := by rw [← HM.out]; exact hlt
      have hsr := HS.out _ (getD_in (d := 0) hjl)
      obtain ⟨s, hsx⟩ : ∃ s : Nat, row.getD j 0 = (s : Int) := ⟨(row.getD j 0).toNat, by omega⟩
      have hsn : s < tn + nn := by omega
      obtain ⟨b, o, rfl, r0⟩ : ∃ b o, a = some ⟨b, o, none⟩ ∧ Y.cell? ⟨b, o + j, none⟩ = some (.int .i64 (s : Int)) := by
        rcases HI.out Y HG.out with h | ⟨b, o, e, h⟩
        · rw [h] at hjl; exact absurd hjl (by simp)
        · exact ⟨b, o, e, by rw [← hsx]; exact h j hjl⟩
      obtain ⟨d0, d6⟩ := HC.out Y HG.out
      have hjw : IntKind.i64.wrap ((j : Int) + 1) = (j : Int) + 1 := by rw [IntKind.wrap_i64]; omega
      have HIN : Hid ((s : Int) ∈ row) := by
        have h := getD_in (d := 0) hjl
        rw [hsx] at h
        exact h
      have HTK : Hid (row.take (j + 1) = row.take j ++ [(s : Int)]) := by
        show _ = _
        rw [take_snocI hjl, hsx]
      by_cases hst : s < tn
      · have hd1 : decide ((s : Int) < (tn : Int)) = true := decide_eq_true (by omega)
        have hd2 : decide (s < tn) = true := decide_eq_true hst
        have HRF : Hid (r = false) := by
          show _ = _
          cases hrr : r with
          | false => rfl
          | true =>
            have h := (HR.out.1 hrr) _ HIN.out
            have h2 := h.1
            omega
        clear hsx hsr
        go_wp2_with fail
        go_quiet (fail)
        go_wp2_with fail
        go_ret
        exact ⟨by rw [HRF.out]; rfl, grown_trans HG.out (grown_drewN _ _)⟩
      · have hd1 : decide ((s : Int) < (tn : Int)) = false := decide_eq_false (by omega)
        have hd2 : decide (s < tn) = false := decide_eq_false hst
        obtain ⟨nk, hnk⟩ : ∃ nk, nk = s - tn := ⟨_, rfl⟩
        have hsw : IntKind.i64.wrap ((s : Int) - (tn : Int)) = (nk : Int) := by rw [IntKind.wrap_i64]; omega
        have hn3 : (0 : Int) ≤ (nk : Int) := by omega
        have hn4 : (nk : Int) < (nn : Int) := by omega
        obtain ⟨fb, hfb⟩ : ∃ fb, fb = F nk := ⟨_, rfl⟩
        have y0 : Y.cell? ⟨nb, nk, none⟩ = some (.bool fb) := by rw [hfb]; exact (HN.out Y HG.out).cell nk (by omega)
        have HVP : Hid (VanP tn F (s : Int) ↔ fb = true) := by
          show _ ↔ _
          unfold VanP
          rw [Int.toNat_natCast, ← hnk, ← hfb]
          exact ⟨fun h => h.2, fun h => ⟨by omega, h⟩⟩
        clear hsx hsr hnk hfb
        cases fb with
        | false =>
          have HRF : Hid (r = false) := by
            show _ = _
            cases hrr : r with
            | false => rfl
            | true => exact absurd (HVP.out.1 ((HR.out.1 hrr) _ HIN.out)) (by decide)
          go_wp2_with fail
          go_quiet (fail)
          go_wp2_with fail
          go_ret
          exact ⟨by rw [HRF.out]; rfl, grown_trans HG.out (grown_drewN _ _)⟩
        | true =>
          have HN2 : Hid (∀ x ∈ row.take (j + 1), VanP tn F x) := fun x hx => by
            rw [HTK.out] at hx
            rcases List.mem_append.1 hx with h | h
            · exact HNO.out x h
            · rw [List.mem_singleton.1 h]; exact HVP.out.2 rfl
          go_wp2_with fail
          go_quiet (fail)
          go_wp2_with fail
          go_roundg (m - (j + 1))
          all_goals first
            | exact (show ∃ (j' : Nat), _ from ⟨j + 1, by omega, rfl, by go_num, grown_trans HG.out (grown_drewN _ _), HN2.out⟩)
            | (have := HGJ.out; omega)
    · have hjm : m = j := by omega
      have hjd : decide (j < m) = false := decide_eq_false hlt
      have HRT : Hid (r = true) := by
        show _ = _
        refine HR.out.2 fun x hx => HNO.out x ?_
        rw [← hjm, HM.out, List.take_length]
        exact hx
      clear hjm
      go_wp2_with fail
      go_ret
      exact ⟨by rw [HRT.out]; rfl, HG.out⟩

end Go.Proofs.YthoamlahbnphkaaGreat.J
