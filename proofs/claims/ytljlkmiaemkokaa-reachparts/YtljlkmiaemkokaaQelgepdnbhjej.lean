import Derived.Test.YtljlkmiaemkokaaQpdhpipidcmmp
import Derived.BigQuiet

/-
  ReachParts, walked: of a grammar that may not be, of one that was added to.
-/
namespace Go.Proofs.Ytljlkmiaemkokaa
open Go.RowKit Go.Maps Go.Shelf

attribute [local go_sem] Oper.semAt_some

/-- What the law's first calls give. -/
structure PtAt (w X : World) (gv cv : Array Value) (cb m : Nat) (a b : Option Addr) (F G : Nat → Bool) : Prop where
  grown : w.grownBy X none
  gbox : X.heap[w.heap.size]? = some (.cells gv 27 (0, 0))
  cbox : X.heap[cb]? = some (.cells cv 27 (0, 0))
  a : BAt X a m F
  b : BAt X b m G
theorem PtAt.kept {w X Y : World} {gv cv : Array Value} {cb m : Nat} {a b : Option Addr} {F G : Nat → Bool} (h : PtAt w X gv cv cb m a b F G) (hg : X.grownBy Y none) : PtAt w Y gv cv cb m a b F G :=
  ⟨grown_trans h.grown hg, (boxKept h.gbox hg).out, (boxKept h.cbox hg).out, h.a.kept hg, h.b.kept hg⟩

set_option maxRecDepth 100000 in
set_option maxHeartbeats 1000000 in
theorem eparts_bad (ta na la pa : Option Addr) (tc nc lc pc : Nat) (ts : List (ByteArray × Int)) (ns : List ByteArray) (lv : List Int) (n : Nat) (L : Nat → Int) (R : Nat → List Int) (ra : Nat → Option Addr) (rc : Nat → Nat) (V : Nat → Int) (st : Int) (w : World) (tn nn ln : Nat) (hlen : ts.length = tn ∧ ns.length = nn ∧ lv.length = ln) (hG : GAt w ta na la pa tc nc lc pc ts ns lv n L R ra rc V) (hnt : ta = none → tn = 0 ∧ tc = 0) (hnl : la = none → ln = 0 ∧ lc = 0) (h1 : tn * 24 ≤ 140737488355328) (h2 : nn * 16 ≤ 140737488355328) (h4 : n * 40 ≤ 140737488355328) (hv : ¬ validOK ts ns lv st n L R V) (hc : ¬ closedOK ts ns lv st n L R V) :
    Calls Try.prog 6 #[.agg #[.slice ta tn tc, .slice na nn nc, .slice la ln lc, .int .i64 st, .slice pa n pc]] w fun e w' => e = .returned (.bool true) ∧ w.grownBy w' none := by
  have HPR : Hid (∀ (X : World) (ta' na' la' pa' : Option Addr) (tc' nc' lc' pc' : Nat) (ra' : Nat → Option Addr) (rc' : Nat → Nat), GAt X ta' na' la' pa' tc' nc' lc' pc' ts ns lv n L R ra' rc' V → Calls Try.prog 9 #[.agg #[.slice ta' tn tc', .slice na' nn nc', .slice la' ln lc', .int .i64 st, .slice pa' n pc']] X fun e y => MTold 1 0 (fun _ => false) X e y) := fun X ta' na' la' pa' tc' nc' lc' pc' ra' rc' hX => productive_any ta' na' la' pa' tc' nc' lc' pc' ts ns lv n L R ra' rc' V st X tn nn ln hlen hX false false (by simp [hv]) (by simp [hc]) (fun _ => false) (fun _ => false) (fun h => by cases h)
  have HUS : Hid (∀ (X : World) (ta' na' la' pa' : Option Addr) (tc' nc' lc' pc' : Nat) (ra' : Nat → Option Addr) (rc' : Nat → Nat), GAt X ta' na' la' pa' tc' nc' lc' pc' ts ns lv n L R ra' rc' V → Calls Try.prog 10 #[.agg #[.slice ta' tn tc', .slice na' nn nc', .slice la' ln lc', .int .i64 st, .slice pa' n pc']] X fun e y => MTold 1 0 (fun _ => false) X e y) := fun X ta' na' la' pa' tc' nc' lc' pc' ra' rc' hX => useful_any ta' na' la' pa' tc' nc' lc' pc' ts ns lv n L R ra' rc' V st X tn nn ln hlen hX false false (by simp [hv]) (by simp [hc]) (fun _ => false) (fun _ => false) (fun h => by cases h)
  have HRE : Hid (∀ (X : World) (ta' na' la' pa' : Option Addr) (tc' nc' lc' pc' : Nat) (ra' : Nat → Option Addr) (rc' : Nat → Nat), GAt X ta' na' la' pa' tc' nc' lc' pc' ts ns lv n L R ra' rc' V → (ta' = none → tn = 0 ∧ tc' = 0) → (la' = none → ln = 0 ∧ lc' = 0) → Calls Try.prog 16 #[.agg #[.slice ta' tn tc', .slice na' nn nc', .slice la' ln lc', .int .i64 st, .slice pa' n pc']] X fun e y => CT 1 0 ⟨[], [], [], 0, []⟩ 0 0 0 0 X e y) := fun X ta' na' la' pa' tc' nc' lc' pc' ra' rc' hX e1 e2 => by
    have := reduce_any ta' na' la' pa' tc' nc' lc' pc' ts ns lv n L R ra' rc' V st X tn nn ln hlen hX e1 e2 false (by simp [hv]) (fun _ => false) (fun _ => false) (fun h => by cases h)
    rw [redC_bad] at this
    exact this
  have HCP : Hid (∀ X, w.grownBy X none → Calls Try.prog 8 #[.agg #[.slice ta tn tc, .slice na nn nc, .slice la ln lc, .int .i64 st, .slice pa n pc]] X fun e w' => ∃ ta' na' la' pa' tc' nc' lc' pc' ra' rc', e = .returned (.agg #[.slice ta' tn tc', .slice na' nn nc', .slice la' ln lc', .int .i64 st, .slice pa' n pc']) ∧ GAt w' ta' na' la' pa' tc' nc' lc' pc' ts ns lv n L R ra' rc' V ∧ (∀ i, i < n → (R i).length ≤ rc' i) ∧ (ta' = none → tn = 0 ∧ tc' = 0) ∧ (la' = none → ln = 0 ∧ lc' = 0) ∧ X.grownBy w' none) := fun X hX => rcopy_any ta na la pa tn nn ln n tc nc lc pc st ts ns lv L R ra rc V X hlen (hG.kept hX) hnt hnl h1 h2 h4
  have HX0 : Hid (PhAt w (w.alloc (.cells #[.slice ta tn tc, .slice na nn nc, .slice la ln lc, .int .i64 st, .slice pa n pc] 27)) w.heap.size #[.slice ta tn tc, .slice na nn nc, .slice la ln lc, .int .i64 st, .slice pa n pc]) := ⟨World.grownBy_alloc _ _ none, heap_alloc_last w _⟩
  clear hlen hG hnt hnl h1 h2 h4 hv hc
  obtain ⟨k0, k1, k2, k3, k4⟩ := HX0.out.cells
  go_enter Try.func6, Try.ntmps6
  go_wp2_with fail
  refine Calls.mono (HCP.out _ HX0.out.grown) ?_
  rintro e w1 ⟨ta1, na1, la1, pa1, tc1, nc1, lc1, pc1, ra1, rc1, rfl, hG1, _, hn1, hl1, hg1⟩
  have HX1 : Hid (PhAt w w1 w.heap.size #[.slice ta tn tc, .slice na nn nc, .slice la ln lc, .int .i64 st, .slice pa n pc]) := HX0.out.kept hg1
  have HG1 := show Hid _ from hG1
  clear hg1 HX0 hG1 hn1 hl1 k0 k1 k2 k3 k4
  go_wp2_with fail
  refine Calls.mono (HPR.out w1 _ _ _ _ _ _ _ _ _ _ HG1.out) ?_
  rintro e w2 ⟨a, rfl, hA2', hg2⟩
  have hA2 : BRow w1 w2 a 0 (fun _ => false) := hA2'
  have HA2 : Hid (BAt w2 a 0 (fun _ => false)) := hA2.at
  have HX2 : Hid (PhAt w w2 w.heap.size #[.slice ta tn tc, .slice na nn nc, .slice la ln lc, .int .i64 st, .slice pa n pc]) := HX1.out.kept hg2
  clear hA2 hA2' hg2 HG1 HX1
  obtain ⟨k0, k1, k2, k3, k4⟩ := HX2.out.cells
  go_wp2_with fail
  refine Calls.mono (HCP.out _ HX2.out.grown) ?_
  rintro e w3 ⟨ta1, na1, la1, pa1, tc1, nc1, lc1, pc1, ra1, rc1, rfl, hG1, _, hn1, hl1, hg1⟩
  have HX3 : Hid (PhAt w w3 w.heap.size #[.slice ta tn tc, .slice na nn nc, .slice la ln lc, .int .i64 st, .slice pa n pc]) := HX2.out.kept hg1
  have HA3 : Hid (BAt w3 a 0 (fun _ => false)) := HA2.out.kept hg1
  have HG1 := show Hid _ from hG1
  clear hg1 HX2 hG1 hn1 hl1 k0 k1 k2 k3 k4 HA2
  go_wp2_with fail
  refine Calls.mono (HUS.out w3 _ _ _ _ _ _ _ _ _ _ HG1.out) ?_
  rintro e w4 ⟨b, rfl, hA2', hg2⟩
  have hA2 : BRow w3 w4 b 0 (fun _ => false) := hA2'
  have HB4 : Hid (BAt w4 b 0 (fun _ => false)) := hA2.at
  have HA4 : Hid (BAt w4 a 0 (fun _ => false)) := HA3.out.kept hg2
  have HX4 : Hid (PhAt w w4 w.heap.size #[.slice ta tn tc, .slice na nn nc, .slice la ln lc, .int .i64 st, .slice pa n pc]) := HX3.out.kept hg2
  clear hA2 hA2' hg2 HG1 HX3 HA3
  obtain ⟨k0, k1, k2, k3, k4⟩ := HX4.out.cells
  go_wp2_with fail
  refine Calls.mono (HCP.out _ HX4.out.grown) ?_
  rintro e w5 ⟨ta1, na1, la1, pa1, tc1, nc1, lc1, pc1, ra1, rc1, rfl, hG1, _, hn1, hl1, hg1⟩
  have HX5 : Hid (PhAt w w5 w.heap.size #[.slice ta tn tc, .slice na nn nc, .slice la ln lc, .int .i64 st, .slice pa n pc]) := HX4.out.kept hg1
  have HA5 : Hid (BAt w5 a 0 (fun _ => false) ∧ BAt w5 b 0 (fun _ => false)) := ⟨HA4.out.kept hg1, HB4.out.kept hg1⟩
  have HG1 := show Hid _ from hG1
  have HN1 : Hid ((ta1 = none → tn = 0 ∧ tc1 = 0) ∧ (la1 = none → ln = 0 ∧ lc1 = 0)) := ⟨hn1, hl1⟩
  clear hg1 HX4 hG1 hn1 hl1 k0 k1 k2 k3 k4 HA4 HB4
  go_wp2_with fail
  refine Calls.mono (HRE.out w5 _ _ _ _ _ _ _ _ _ _ HG1.out HN1.out.1 HN1.out.2) ?_
  rintro e w6 ⟨ca, cb, cc, cd, c1, c2, c3, c4, rfl, hC6', hg6⟩
  have HC6 : Hid (CGr ⟨[], [], [], 0, []⟩ 0 0 0 0 w6 w5.heap.size ca cb cc cd c1 c2 c3 c4) := hC6'
  obtain ⟨kc, hkc⟩ : ∃ kc, kc = w6.heap.size := ⟨_, rfl⟩
  obtain ⟨X6, hX6⟩ : ∃ X6, X6 = w6.alloc (.cells #[.slice ca 0 c1, .slice cb 0 c2, .slice cc 0 c3, .int .i64 0, .slice cd 0 c4] 27) := ⟨_, rfl⟩
  have hgb : w6.grownBy X6 none := by rw [hX6]; exact World.grownBy_alloc _ _ none
  have HP : Hid (PtAt w X6 #[.slice ta tn tc, .slice na nn nc, .slice la ln lc, .int .i64 st, .slice pa n pc] #[.slice ca 0 c1, .slice cb 0 c2, .slice cc 0 c3, .int .i64 0, .slice cd 0 c4] kc 0 a b (fun _ => false) (fun _ => false)) :=
    have g56 := grown_trans hg6 hgb
    ⟨grown_trans HX5.out.grown g56, (boxKept HX5.out.box g56).out, by rw [hX6, hkc]; exact heap_alloc_last w6 _, HA5.out.1.kept g56, HA5.out.2.kept g56⟩
  have HXE := show Hid _ from hX6
  have HKC : Hid (kc = w6.heap.size) := hkc
  obtain ⟨k0, k1, k2, k3, k4⟩ := PhAt.cells (w := w) ⟨HP.out.grown, HP.out.gbox⟩
  rw [hX6] at k0 k1 k2 k3 k4
  clear hC6' hg6 hgb hX6 hkc HX5 HA5 HG1 HN1
  go_wp2_with fail
  rw [← HXE.out]
  refine Calls.mono (eawake_any X6) ?_
  rintro e w7 ⟨rfl, hg7⟩
  have HW7 : Hid (w.grownBy w7 none) := grown_trans HP.out.grown hg7
  clear hg7
  go_wp2_with fail
  go_ret
  exact ⟨rfl, HW7.out⟩


end Go.Proofs.Ytljlkmiaemkokaa

/-
  ReachParts, walked: of a grammar that was added to.
-/
namespace Go.Proofs.Ytljlkmiaemkokaa
open Go.RowKit Go.Maps Go.Shelf

attribute [local go_sem] Oper.semAt_some

set_option maxRecDepth 100000 in
set_option maxHeartbeats 1000000 in
theorem eparts_closed (ta na la pa : Option Addr) (tc nc lc pc : Nat) (ts : List (ByteArray × Int)) (ns : List ByteArray) (lv : List Int) (n : Nat) (L : Nat → Int) (R : Nat → List Int) (ra : Nat → Option Addr) (rc : Nat → Nat) (V : Nat → Int) (st : Int) (w : World) (tn nn ln : Nat) (hlen : ts.length = tn ∧ ns.length = nn ∧ lv.length = ln) (hG : GAt w ta na la pa tc nc lc pc ts ns lv n L R ra rc V) (hnt : ta = none → tn = 0 ∧ tc = 0) (hnl : la = none → ln = 0 ∧ lc = 0) (h1 : tn * 24 ≤ 140737488355328) (h2 : nn * 16 ≤ 140737488355328) (h4 : n * 40 ≤ 140737488355328) (hts : ∀ t ∈ ts, t.1.size ≤ 140737488355328) (hns : ∀ s ∈ ns, s.size ≤ 140737488355328) (hv : ¬ validOK ts ns lv st n L R V) (hc : closedOK ts ns lv st n L R V) :
    Calls Try.prog 6 #[.agg #[.slice ta tn tc, .slice na nn nc, .slice la ln lc, .int .i64 st, .slice pa n pc]] w fun e w' => e = .returned (.bool true) ∧ w.grownBy w' none := by
  obtain ⟨F, G, hM⟩ : ∃ F G, MarksOf tn nn n st L R true F G := by
    obtain ⟨rfl, rfl, rfl⟩ := hlen
    exact (mayOK_closed hc).marksOf
  have hsub := hM.sub'
  have hboth := hM.both
  have hnn : nn ≤ 65 := hM.may.nmax
  have hn0 : 0 < nn := hM.may.n0
  have htn : tn ≤ 65 := hM.may.tmax
  obtain ⟨s, hs⟩ : ∃ s : Nat, st = ((tn + s : Nat) : Int) := ⟨(st - tn).toNat, by have := hM.may.start; omega⟩
  have hsn : s < nn := by have := hM.may.start; omega
  have es : (st - (tn : Int)).toNat = s := by omega
  rw [es] at hboth
  have HSUB : Hid (∀ i, G i = true → F i = true) := hsub
  have HBOTH : Hid (G 0 = G s) := hboth
  have HVC := show Hid _ from rvc ta na la pa tc nc lc pc ts ns lv n L R ra rc V st w tn nn ln hlen hG hts hns
  have HVL : Hid (∀ X, w.grownBy X none → Calls Try.prog 20 #[.agg #[.slice ta tn tc, .slice na nn nc, .slice la ln lc, .int .i64 st, .slice pa n pc]] X (fun e w' => e = .returned (.bool false) ∧ X.grownBy w' none)) := fun X hX => (HVC.out X hX false true (by simp [hv]) (by simp [hc])).1
  have HCL : Hid (∀ X, w.grownBy X none → Calls Try.prog 18 #[.agg #[.slice ta tn tc, .slice na nn nc, .slice la ln lc, .int .i64 st, .slice pa n pc]] X (fun e w' => e = .returned (.bool true) ∧ X.grownBy w' none)) := fun X hX => (HVC.out X hX false true (by simp [hv]) (by simp [hc])).2
  have HPR : Hid (∀ (X : World) (ta' na' la' pa' : Option Addr) (tc' nc' lc' pc' : Nat) (ra' : Nat → Option Addr) (rc' : Nat → Nat), GAt X ta' na' la' pa' tc' nc' lc' pc' ts ns lv n L R ra' rc' V → Calls Try.prog 9 #[.agg #[.slice ta' tn tc', .slice na' nn nc', .slice la' ln lc', .int .i64 st, .slice pa' n pc']] X fun e y => MTold 0 nn F X e y) := fun X ta' na' la' pa' tc' nc' lc' pc' ra' rc' hX => productive_any ta' na' la' pa' tc' nc' lc' pc' ts ns lv n L R ra' rc' V st X tn nn ln hlen hX false true (by simp [hv]) (by simp [hc]) F G (fun _ => hM)
  have HUS : Hid (∀ (X : World) (ta' na' la' pa' : Option Addr) (tc' nc' lc' pc' : Nat) (ra' : Nat → Option Addr) (rc' : Nat → Nat), GAt X ta' na' la' pa' tc' nc' lc' pc' ts ns lv n L R ra' rc' V → Calls Try.prog 10 #[.agg #[.slice ta' tn tc', .slice na' nn nc', .slice la' ln lc', .int .i64 st, .slice pa' n pc']] X fun e y => MTold 0 nn G X e y) := fun X ta' na' la' pa' tc' nc' lc' pc' ra' rc' hX => useful_any ta' na' la' pa' tc' nc' lc' pc' ts ns lv n L R ra' rc' V st X tn nn ln hlen hX false true (by simp [hv]) (by simp [hc]) F G (fun _ => hM)
  have HRE : Hid (∀ (X : World) (ta' na' la' pa' : Option Addr) (tc' nc' lc' pc' : Nat) (ra' : Nat → Option Addr) (rc' : Nat → Nat), GAt X ta' na' la' pa' tc' nc' lc' pc' ts ns lv n L R ra' rc' V → (ta' = none → tn = 0 ∧ tc' = 0) → (la' = none → ln = 0 ∧ lc' = 0) → Calls Try.prog 16 #[.agg #[.slice ta' tn tc', .slice na' nn nc', .slice la' ln lc', .int .i64 st, .slice pa' n pc']] X fun e y => CT 1 0 ⟨[], [], [], 0, []⟩ 0 0 0 0 X e y) := fun X ta' na' la' pa' tc' nc' lc' pc' ra' rc' hX e1 e2 => by
    have := reduce_any ta' na' la' pa' tc' nc' lc' pc' ts ns lv n L R ra' rc' V st X tn nn ln hlen hX e1 e2 false (by simp [hv]) (fun _ => false) (fun _ => false) (fun h => by cases h)
    rw [redC_bad] at this
    exact this
  have HCP : Hid (∀ X, w.grownBy X none → Calls Try.prog 8 #[.agg #[.slice ta tn tc, .slice na nn nc, .slice la ln lc, .int .i64 st, .slice pa n pc]] X fun e w' => ∃ ta' na' la' pa' tc' nc' lc' pc' ra' rc', e = .returned (.agg #[.slice ta' tn tc', .slice na' nn nc', .slice la' ln lc', .int .i64 st, .slice pa' n pc']) ∧ GAt w' ta' na' la' pa' tc' nc' lc' pc' ts ns lv n L R ra' rc' V ∧ (∀ i, i < n → (R i).length ≤ rc' i) ∧ (ta' = none → tn = 0 ∧ tc' = 0) ∧ (la' = none → ln = 0 ∧ lc' = 0) ∧ X.grownBy w' none) := fun X hX => rcopy_any ta na la pa tn nn ln n tc nc lc pc st ts ns lv L R ra rc V X hlen (hG.kept hX) hnt hnl h1 h2 h4
  have HX0 : Hid (PhAt w (w.alloc (.cells #[.slice ta tn tc, .slice na nn nc, .slice la ln lc, .int .i64 st, .slice pa n pc] 27)) w.heap.size #[.slice ta tn tc, .slice na nn nc, .slice la ln lc, .int .i64 st, .slice pa n pc]) := ⟨World.grownBy_alloc _ _ none, heap_alloc_last w _⟩
  have HSS : Hid (st = ((tn + s : Nat) : Int)) := hs
  clear hlen hG hnt hnl h1 h2 h4 hv hc hM hsub hboth hts hns HVC es hs
  obtain ⟨k0, k1, k2, k3, k4⟩ := HX0.out.cells
  go_enter Try.func6, Try.ntmps6
  go_wp2_with fail
  refine Calls.mono (HCP.out _ HX0.out.grown) ?_
  rintro e w1 ⟨ta1, na1, la1, pa1, tc1, nc1, lc1, pc1, ra1, rc1, rfl, hG1, _, hn1, hl1, hg1⟩
  have HX1 : Hid (PhAt w w1 w.heap.size #[.slice ta tn tc, .slice na nn nc, .slice la ln lc, .int .i64 st, .slice pa n pc]) := HX0.out.kept hg1
  have HG1 := show Hid _ from hG1
  clear hg1 HX0 hG1 hn1 hl1 k0 k1 k2 k3 k4
  go_wp2_with fail
  refine Calls.mono (HPR.out w1 _ _ _ _ _ _ _ _ _ _ HG1.out) ?_
  rintro e w2 ⟨a, rfl, hA2', hg2⟩
  have hA2 : BRow w1 w2 a nn F := hA2'
  have HA2 : Hid (BAt w2 a nn F) := hA2.at
  have HX2 : Hid (PhAt w w2 w.heap.size #[.slice ta tn tc, .slice na nn nc, .slice la ln lc, .int .i64 st, .slice pa n pc]) := HX1.out.kept hg2
  clear hA2 hA2' hg2 HG1 HX1
  obtain ⟨k0, k1, k2, k3, k4⟩ := HX2.out.cells
  go_wp2_with fail
  refine Calls.mono (HCP.out _ HX2.out.grown) ?_
  rintro e w3 ⟨ta1, na1, la1, pa1, tc1, nc1, lc1, pc1, ra1, rc1, rfl, hG1, _, hn1, hl1, hg1⟩
  have HX3 : Hid (PhAt w w3 w.heap.size #[.slice ta tn tc, .slice na nn nc, .slice la ln lc, .int .i64 st, .slice pa n pc]) := HX2.out.kept hg1
  have HA3 : Hid (BAt w3 a nn F) := HA2.out.kept hg1
  have HG1 := show Hid _ from hG1
  clear hg1 HX2 hG1 hn1 hl1 k0 k1 k2 k3 k4 HA2
  go_wp2_with fail
  refine Calls.mono (HUS.out w3 _ _ _ _ _ _ _ _ _ _ HG1.out) ?_
  rintro e w4 ⟨b, rfl, hA2', hg2⟩
  have hA2 : BRow w3 w4 b nn G := hA2'
  have HB4 : Hid (BAt w4 b nn G) := hA2.at
  have HA4 : Hid (BAt w4 a nn F) := HA3.out.kept hg2
  have HX4 : Hid (PhAt w w4 w.heap.size #[.slice ta tn tc, .slice na nn nc, .slice la ln lc, .int .i64 st, .slice pa n pc]) := HX3.out.kept hg2
  clear hA2 hA2' hg2 HG1 HX3 HA3
  obtain ⟨k0, k1, k2, k3, k4⟩ := HX4.out.cells
  go_wp2_with fail
  refine Calls.mono (HCP.out _ HX4.out.grown) ?_
  rintro e w5 ⟨ta1, na1, la1, pa1, tc1, nc1, lc1, pc1, ra1, rc1, rfl, hG1, _, hn1, hl1, hg1⟩
  have HX5 : Hid (PhAt w w5 w.heap.size #[.slice ta tn tc, .slice na nn nc, .slice la ln lc, .int .i64 st, .slice pa n pc]) := HX4.out.kept hg1
  have HA5 : Hid (BAt w5 a nn F ∧ BAt w5 b nn G) := ⟨HA4.out.kept hg1, HB4.out.kept hg1⟩
  have HG1 := show Hid _ from hG1
  have HN1 : Hid ((ta1 = none → tn = 0 ∧ tc1 = 0) ∧ (la1 = none → ln = 0 ∧ lc1 = 0)) := ⟨hn1, hl1⟩
  clear hg1 HX4 hG1 hn1 hl1 k0 k1 k2 k3 k4 HA4 HB4
  go_wp2_with fail
  refine Calls.mono (HRE.out w5 _ _ _ _ _ _ _ _ _ _ HG1.out HN1.out.1 HN1.out.2) ?_
  rintro e w6 ⟨ca, cb, cc, cd, c1, c2, c3, c4, rfl, hC6', hg6⟩
  have HC6 : Hid (CGr ⟨[], [], [], 0, []⟩ 0 0 0 0 w6 w5.heap.size ca cb cc cd c1 c2 c3 c4) := hC6'
  obtain ⟨kc, hkc⟩ : ∃ kc, kc = w6.heap.size := ⟨_, rfl⟩
  obtain ⟨X6, hX6⟩ : ∃ X6, X6 = w6.alloc (.cells #[.slice ca 0 c1, .slice cb 0 c2, .slice cc 0 c3, .int .i64 0, .slice cd 0 c4] 27) := ⟨_, rfl⟩
  have hgb : w6.grownBy X6 none := by rw [hX6]; exact World.grownBy_alloc _ _ none
  have HP : Hid (PtAt w X6 #[.slice ta tn tc, .slice na nn nc, .slice la ln lc, .int .i64 st, .slice pa n pc] #[.slice ca 0 c1, .slice cb 0 c2, .slice cc 0 c3, .int .i64 0, .slice cd 0 c4] kc nn a b F G) :=
    have g56 := grown_trans hg6 hgb
    ⟨grown_trans HX5.out.grown g56, (boxKept HX5.out.box g56).out, by rw [hX6, hkc]; exact heap_alloc_last w6 _, HA5.out.1.kept g56, HA5.out.2.kept g56⟩
  have HXE := show Hid _ from hX6
  have HKC : Hid (kc = w6.heap.size) := hkc
  obtain ⟨k0, k1, k2, k3, k4⟩ := PhAt.cells (w := w) ⟨HP.out.grown, HP.out.gbox⟩
  rw [hX6] at k0 k1 k2 k3 k4
  clear hC6' hg6 hgb hX6 hkc HX5 HA5 HG1 HN1
  go_wp2_with fail
  rw [← HXE.out, ← HKC.out]
  refine Calls.mono (HVL.out X6 HP.out.grown) ?_
  rintro e w7 ⟨rfl, hg7⟩
  have HP7 : Hid (PtAt w w7 #[.slice ta tn tc, .slice na nn nc, .slice la ln lc, .int .i64 st, .slice pa n pc] #[.slice ca 0 c1, .slice cb 0 c2, .slice cc 0 c3, .int .i64 0, .slice cd 0 c4] kc nn a b F G) := HP.out.kept hg7
  clear hg7 HP HXE HKC k0 k1 k2 k3 k4 HC6
  go_wp2_with fail
  go_loopg [9] nn (fun gk i wr => ∃ k : Nat, k ≤ nn ∧ gk = nn - k ∧ i = .int .i64 k ∧ PtAt w wr #[.slice ta tn tc, .slice na nn nc, .slice la ln lc, .int .i64 st, .slice pa n pc] #[.slice ca 0 c1, .slice cb 0 c2, .slice cc 0 c3, .int .i64 0, .slice cd 0 c4] kc nn a b F G)
  case atStart => exact ⟨0, Nat.zero_le _, rfl, rfl, HP7.out⟩
  case round =>
    obtain ⟨k, hk, hgk, rfl, hPk⟩ := hrel
    have HGK : Hid (gk = nn - k) := hgk
    have HPK : Hid (PtAt w wr #[.slice ta tn tc, .slice na nn nc, .slice la ln lc, .int .i64 st, .slice pa n pc] #[.slice ca 0 c1, .slice cb 0 c2, .slice cc 0 c3, .int .i64 0, .slice cd 0 c4] kc nn a b F G) := hPk
    clear hgk hPk HP7
    obtain ⟨ka, rfl, hBa⟩ : ∃ k, a = some ⟨k, 0, none⟩ ∧ BoolAt wr k nn F := by
      rcases HPK.out.a with h | h
      · omega
      · exact h
    obtain ⟨kb, rfl, hBb⟩ : ∃ k, b = some ⟨k, 0, none⟩ ∧ BoolAt wr k nn G := by
      rcases HPK.out.b with h | h
      · omega
      · exact h
    by_cases hlt : k < nn
    · have a0 := hBa.cell k hlt
      have b0 := hBb.cell k hlt
      have hvv := HSUB.out k
      obtain ⟨v, hv⟩ : ∃ v, v = G k := ⟨_, rfl⟩
      obtain ⟨u, hu⟩ : ∃ u, u = F k := ⟨_, rfl⟩
      rw [← hv] at b0 hvv
      rw [← hu] at a0 hvv
      have hk0 : (0 : Int) ≤ (k : Int) := by omega
      have hk1 : (k : Int) < (nn : Int) := by omega
      have hkd : decide (k < nn) = true := decide_eq_true hlt
      clear hBa hBb hv hu
      cases v with
      | false =>
        clear hvv
        go_wp2_with fail
        go_roundg (nn - (k + 1))
        case measure => have := HGK.out; omega
        case rel => first | exact ⟨k + 1, by omega, rfl, by go_num, HPK.out⟩ | exact ⟨k + 1, by omega, rfl, by go_num, HPK.out.kept (grown_drewN _ _)⟩
      | true =>
        obtain rfl : u = true := hvv rfl
        clear hvv
        go_wp2_with fail
        go_roundg (nn - (k + 1))
        case measure => have := HGK.out; omega
        case rel => first | exact ⟨k + 1, by omega, rfl, by go_num, HPK.out⟩ | exact ⟨k + 1, by omega, rfl, by go_num, HPK.out.kept (grown_drewN _ _)⟩
    · have hkn : nn = k := by omega
      subst hkn
      have hkd : decide (nn < nn) = false := decide_eq_false (by omega)
      have b0 := hBb.cell 0 hn0
      have b1 := hBb.cell s hsn
      rw [← HBOTH.out] at b1
      obtain ⟨v, hv⟩ : ∃ v, v = G 0 := ⟨_, rfl⟩
      rw [← hv] at b0 b1
      clear hBa hBb HGK hv
      obtain ⟨k0, k1, k2, k3, k4⟩ := PhAt.cells (w := w) ⟨HPK.out.grown, HPK.out.gbox⟩
      have HKS : Hid (∀ x, wr.grownBy x none → (x.cell? ⟨w.heap.size, 0, none⟩ = some (.slice ta tn tc) ∧ x.cell? ⟨w.heap.size, 1, none⟩ = some (.slice na nn nc) ∧ x.cell? ⟨w.heap.size, 2, none⟩ = some (.slice la ln lc) ∧ x.cell? ⟨w.heap.size, 3, none⟩ = some (.int .i64 st) ∧ x.cell? ⟨w.heap.size, 4, none⟩ = some (.slice pa n pc)) ∧ x.cell? ⟨kb, 0, none⟩ = some (.bool v) ∧ x.cell? ⟨kb, s, none⟩ = some (.bool v)) := fun x hx => ⟨⟨hx.cell k0 (by simp), hx.cell k1 (by simp), hx.cell k2 (by simp), hx.cell k3 (by simp), hx.cell k4 (by simp)⟩, hx.cell b0 (by simp), hx.cell b1 (by simp)⟩
      have HGc : Hid (wr.grownBy wr.drew none) := grown_drewN _ 1
      have hd1 : st - (tn : Int) = (s : Int) := by have := HSS.out; omega
      have hd3 : IntKind.i64.wrap (s : Int) = (s : Int) := by rw [IntKind.wrap_i64]; omega
      have hv0 : (0 : Int) ≤ (s : Int) := by omega
      have hv1 : (s : Int) < (nn : Int) := by omega
      have hv2 : (0 : Int) < (nn : Int) := by omega
      clear k0 k1 k2 k3 k4 b0 b1
      cases v with
      | false =>
        go_wp2_with fail
        go_region_held3 (fun x => (x.cell? ⟨w.heap.size, 0, none⟩ = some (.slice ta tn tc) ∧ x.cell? ⟨w.heap.size, 1, none⟩ = some (.slice na nn nc) ∧ x.cell? ⟨w.heap.size, 2, none⟩ = some (.slice la ln lc) ∧ x.cell? ⟨w.heap.size, 3, none⟩ = some (.int .i64 st) ∧ x.cell? ⟨w.heap.size, 4, none⟩ = some (.slice pa n pc)) ∧ x.cell? ⟨kb, 0, none⟩ = some (.bool false) ∧ x.cell? ⟨kb, s, none⟩ = some (.bool false)) (first | exact HKS.out _ HGc.out | go_keep)
        ((first
          | (go_at_call 18; refine Calls.mono (HCL.out _ (grown_trans HPK.out.grown HGc.out)) ?_; rintro e w8 ⟨rfl, hg8⟩; have HGc : Hid (wr.grownBy w8 none) := grown_trans HGc.out hg8; clear hg8)
          | (go_at_call 15; refine Calls.mono (eawake_any _) ?_; rintro e w9 ⟨rfl, hg9⟩; have HGc : Hid (wr.grownBy w9 none) := grown_trans HGc.out hg9; clear hg9)))
        go_wp2_with fail
        go_ret
        exact ⟨rfl, grown_trans HPK.out.grown HGc.out⟩
      | true =>
        go_wp2_with fail
        go_region_held3 (fun x => (x.cell? ⟨w.heap.size, 0, none⟩ = some (.slice ta tn tc) ∧ x.cell? ⟨w.heap.size, 1, none⟩ = some (.slice na nn nc) ∧ x.cell? ⟨w.heap.size, 2, none⟩ = some (.slice la ln lc) ∧ x.cell? ⟨w.heap.size, 3, none⟩ = some (.int .i64 st) ∧ x.cell? ⟨w.heap.size, 4, none⟩ = some (.slice pa n pc)) ∧ x.cell? ⟨kb, 0, none⟩ = some (.bool true) ∧ x.cell? ⟨kb, s, none⟩ = some (.bool true)) (first | exact HKS.out _ HGc.out | go_keep)
        ((first
          | (go_at_call 18; refine Calls.mono (HCL.out _ (grown_trans HPK.out.grown HGc.out)) ?_; rintro e w8 ⟨rfl, hg8⟩; have HGc : Hid (wr.grownBy w8 none) := grown_trans HGc.out hg8; clear hg8)
          | (go_at_call 15; refine Calls.mono (eawake_any _) ?_; rintro e w9 ⟨rfl, hg9⟩; have HGc : Hid (wr.grownBy w9 none) := grown_trans HGc.out hg9; clear hg9)))
        go_wp2_with fail
        go_ret
        exact ⟨rfl, grown_trans HPK.out.grown HGc.out⟩

end Go.Proofs.Ytljlkmiaemkokaa

/-
  ReachParts, walked: of a grammar that may be, and has no sentence.
-/
namespace Go.Proofs.Ytljlkmiaemkokaa
open Go.RowKit Go.Maps Go.Shelf

attribute [local go_sem] Oper.semAt_some

set_option maxRecDepth 100000 in
set_option maxHeartbeats 1000000 in
theorem eparts_none (ta na la pa : Option Addr) (tc nc lc pc : Nat) (ts : List (ByteArray × Int)) (ns : List ByteArray) (lv : List Int) (n : Nat) (L : Nat → Int) (R : Nat → List Int) (ra : Nat → Option Addr) (rc : Nat → Nat) (V : Nat → Int) (st : Int) (w : World) (tn nn ln : Nat) (hlen : ts.length = tn ∧ ns.length = nn ∧ lv.length = ln) (hG : GAt w ta na la pa tc nc lc pc ts ns lv n L R ra rc V) (hnt : ta = none → tn = 0 ∧ tc = 0) (hnl : la = none → ln = 0 ∧ lc = 0) (h1 : tn * 24 ≤ 140737488355328) (h2 : nn * 16 ≤ 140737488355328) (h4 : n * 40 ≤ 140737488355328) (hts : ∀ t ∈ ts, t.1.size ≤ 140737488355328) (hns : ∀ s ∈ ns, s.size ≤ 140737488355328) (hv : validOK ts ns lv st n L R V) (F G : Nat → Bool) (hM : MarksOf tn nn n st L R false F G) (hp : F (st - tn).toNat = false) :
    Calls Try.prog 6 #[.agg #[.slice ta tn tc, .slice na nn nc, .slice la ln lc, .int .i64 st, .slice pa n pc]] w fun e w' => e = .returned (.bool true) ∧ w.grownBy w' none := by
  have hV : true = true ↔ validOK ts ns lv st n L R V := ⟨fun _ => hv, fun _ => rfl⟩
  have hC : false = true ↔ closedOK ts ns lv st n L R V := ⟨fun h => (by cases h), fun h => absurd h.1.name (valid_name hv)⟩
  have HNON : Hid (∀ i, G i = false) := hM.none hp
  have hnn : nn ≤ 65 := hM.may.nmax
  have hn0 : 0 < nn := hM.may.n0
  have HVL : Hid (∀ X, w.grownBy X none → Calls Try.prog 20 #[.agg #[.slice ta tn tc, .slice na nn nc, .slice la ln lc, .int .i64 st, .slice pa n pc]] X (fun e w' => e = .returned (.bool true) ∧ X.grownBy w' none)) := fun X hX => (rvc ta na la pa tc nc lc pc ts ns lv n L R ra rc V st w tn nn ln hlen hG hts hns X hX true false hV hC).1
  have HPR : Hid (∀ (X : World) (ta' na' la' pa' : Option Addr) (tc' nc' lc' pc' : Nat) (ra' : Nat → Option Addr) (rc' : Nat → Nat), GAt X ta' na' la' pa' tc' nc' lc' pc' ts ns lv n L R ra' rc' V → Calls Try.prog 9 #[.agg #[.slice ta' tn tc', .slice na' nn nc', .slice la' ln lc', .int .i64 st, .slice pa' n pc']] X fun e y => MTold 0 nn F X e y) := fun X ta' na' la' pa' tc' nc' lc' pc' ra' rc' hX => productive_any ta' na' la' pa' tc' nc' lc' pc' ts ns lv n L R ra' rc' V st X tn nn ln hlen hX true false hV hC F G (fun _ => hM)
  have HUS : Hid (∀ (X : World) (ta' na' la' pa' : Option Addr) (tc' nc' lc' pc' : Nat) (ra' : Nat → Option Addr) (rc' : Nat → Nat), GAt X ta' na' la' pa' tc' nc' lc' pc' ts ns lv n L R ra' rc' V → Calls Try.prog 10 #[.agg #[.slice ta' tn tc', .slice na' nn nc', .slice la' ln lc', .int .i64 st, .slice pa' n pc']] X fun e y => MTold 0 nn G X e y) := fun X ta' na' la' pa' tc' nc' lc' pc' ra' rc' hX => useful_any ta' na' la' pa' tc' nc' lc' pc' ts ns lv n L R ra' rc' V st X tn nn ln hlen hX true false hV hC F G (fun _ => hM)
  have HRE : Hid (∀ (X : World) (ta' na' la' pa' : Option Addr) (tc' nc' lc' pc' : Nat) (ra' : Nat → Option Addr) (rc' : Nat → Nat), GAt X ta' na' la' pa' tc' nc' lc' pc' ts ns lv n L R ra' rc' V → (ta' = none → tn = 0 ∧ tc' = 0) → (la' = none → ln = 0 ∧ lc' = 0) → Calls Try.prog 16 #[.agg #[.slice ta' tn tc', .slice na' nn nc', .slice la' ln lc', .int .i64 st, .slice pa' n pc']] X fun e y => CT 12 0 ⟨[], [], [], 0, []⟩ 0 0 0 0 X e y) := fun X ta' na' la' pa' tc' nc' lc' pc' ra' rc' hX e1 e2 => by
    have := reduce_any ta' na' la' pa' tc' nc' lc' pc' ts ns lv n L R ra' rc' V st X tn nn ln hlen hX e1 e2 true hV F G (fun _ => hM)
    rw [redC_none hp, redE_none hp] at this
    exact this
  have HCP : Hid (∀ X, w.grownBy X none → Calls Try.prog 8 #[.agg #[.slice ta tn tc, .slice na nn nc, .slice la ln lc, .int .i64 st, .slice pa n pc]] X fun e w' => ∃ ta' na' la' pa' tc' nc' lc' pc' ra' rc', e = .returned (.agg #[.slice ta' tn tc', .slice na' nn nc', .slice la' ln lc', .int .i64 st, .slice pa' n pc']) ∧ GAt w' ta' na' la' pa' tc' nc' lc' pc' ts ns lv n L R ra' rc' V ∧ (∀ i, i < n → (R i).length ≤ rc' i) ∧ (ta' = none → tn = 0 ∧ tc' = 0) ∧ (la' = none → ln = 0 ∧ lc' = 0) ∧ X.grownBy w' none) := fun X hX => rcopy_any ta na la pa tn nn ln n tc nc lc pc st ts ns lv L R ra rc V X hlen (hG.kept hX) hnt hnl h1 h2 h4
  have HX0 : Hid (PhAt w (w.alloc (.cells #[.slice ta tn tc, .slice na nn nc, .slice la ln lc, .int .i64 st, .slice pa n pc] 27)) w.heap.size #[.slice ta tn tc, .slice na nn nc, .slice la ln lc, .int .i64 st, .slice pa n pc]) := ⟨World.grownBy_alloc _ _ none, heap_alloc_last w _⟩
  clear hlen hG hnt hnl h1 h2 h4 hv hM hts hns hp hV hC
  obtain ⟨k0, k1, k2, k3, k4⟩ := HX0.out.cells
  go_enter Try.func6, Try.ntmps6
  go_wp2_with fail
  refine Calls.mono (HCP.out _ HX0.out.grown) ?_
  rintro e w1 ⟨ta1, na1, la1, pa1, tc1, nc1, lc1, pc1, ra1, rc1, rfl, hG1, _, hn1, hl1, hg1⟩
  have HX1 : Hid (PhAt w w1 w.heap.size #[.slice ta tn tc, .slice na nn nc, .slice la ln lc, .int .i64 st, .slice pa n pc]) := HX0.out.kept hg1
  have HG1 := show Hid _ from hG1
  clear hg1 HX0 hG1 hn1 hl1 k0 k1 k2 k3 k4
  go_wp2_with fail
  refine Calls.mono (HPR.out w1 _ _ _ _ _ _ _ _ _ _ HG1.out) ?_
  rintro e w2 ⟨a, rfl, hA2', hg2⟩
  have hA2 : BRow w1 w2 a nn F := hA2'
  have HA2 : Hid (BAt w2 a nn F) := hA2.at
  have HX2 : Hid (PhAt w w2 w.heap.size #[.slice ta tn tc, .slice na nn nc, .slice la ln lc, .int .i64 st, .slice pa n pc]) := HX1.out.kept hg2
  clear hA2 hA2' hg2 HG1 HX1
  obtain ⟨k0, k1, k2, k3, k4⟩ := HX2.out.cells
  go_wp2_with fail
  refine Calls.mono (HCP.out _ HX2.out.grown) ?_
  rintro e w3 ⟨ta1, na1, la1, pa1, tc1, nc1, lc1, pc1, ra1, rc1, rfl, hG1, _, hn1, hl1, hg1⟩
  have HX3 : Hid (PhAt w w3 w.heap.size #[.slice ta tn tc, .slice na nn nc, .slice la ln lc, .int .i64 st, .slice pa n pc]) := HX2.out.kept hg1
  have HA3 : Hid (BAt w3 a nn F) := HA2.out.kept hg1
  have HG1 := show Hid _ from hG1
  clear hg1 HX2 hG1 hn1 hl1 k0 k1 k2 k3 k4 HA2
  go_wp2_with fail
  refine Calls.mono (HUS.out w3 _ _ _ _ _ _ _ _ _ _ HG1.out) ?_
  rintro e w4 ⟨b, rfl, hA2', hg2⟩
  have hA2 : BRow w3 w4 b nn G := hA2'
  have HB4 : Hid (BAt w4 b nn G) := hA2.at
  have HA4 : Hid (BAt w4 a nn F) := HA3.out.kept hg2
  have HX4 : Hid (PhAt w w4 w.heap.size #[.slice ta tn tc, .slice na nn nc, .slice la ln lc, .int .i64 st, .slice pa n pc]) := HX3.out.kept hg2
  clear hA2 hA2' hg2 HG1 HX3 HA3
  obtain ⟨k0, k1, k2, k3, k4⟩ := HX4.out.cells
  go_wp2_with fail
  refine Calls.mono (HCP.out _ HX4.out.grown) ?_
  rintro e w5 ⟨ta1, na1, la1, pa1, tc1, nc1, lc1, pc1, ra1, rc1, rfl, hG1, _, hn1, hl1, hg1⟩
  have HX5 : Hid (PhAt w w5 w.heap.size #[.slice ta tn tc, .slice na nn nc, .slice la ln lc, .int .i64 st, .slice pa n pc]) := HX4.out.kept hg1
  have HA5 : Hid (BAt w5 a nn F ∧ BAt w5 b nn G) := ⟨HA4.out.kept hg1, HB4.out.kept hg1⟩
  have HG1 := show Hid _ from hG1
  have HN1 : Hid ((ta1 = none → tn = 0 ∧ tc1 = 0) ∧ (la1 = none → ln = 0 ∧ lc1 = 0)) := ⟨hn1, hl1⟩
  clear hg1 HX4 hG1 hn1 hl1 k0 k1 k2 k3 k4 HA4 HB4
  go_wp2_with fail
  refine Calls.mono (HRE.out w5 _ _ _ _ _ _ _ _ _ _ HG1.out HN1.out.1 HN1.out.2) ?_
  rintro e w6 ⟨ca, cb, cc, cd, c1, c2, c3, c4, rfl, hC6', hg6⟩
  have HC6 : Hid (CGr ⟨[], [], [], 0, []⟩ 0 0 0 0 w6 w5.heap.size ca cb cc cd c1 c2 c3 c4) := hC6'
  obtain ⟨kc, hkc⟩ : ∃ kc, kc = w6.heap.size := ⟨_, rfl⟩
  obtain ⟨X6, hX6⟩ : ∃ X6, X6 = w6.alloc (.cells #[.slice ca 0 c1, .slice cb 0 c2, .slice cc 0 c3, .int .i64 0, .slice cd 0 c4] 27) := ⟨_, rfl⟩
  have hgb : w6.grownBy X6 none := by rw [hX6]; exact World.grownBy_alloc _ _ none
  have HP : Hid (PtAt w X6 #[.slice ta tn tc, .slice na nn nc, .slice la ln lc, .int .i64 st, .slice pa n pc] #[.slice ca 0 c1, .slice cb 0 c2, .slice cc 0 c3, .int .i64 0, .slice cd 0 c4] kc nn a b F G) :=
    have g56 := grown_trans hg6 hgb
    ⟨grown_trans HX5.out.grown g56, (boxKept HX5.out.box g56).out, by rw [hX6, hkc]; exact heap_alloc_last w6 _, HA5.out.1.kept g56, HA5.out.2.kept g56⟩
  have HXE := show Hid _ from hX6
  have HKC : Hid (kc = w6.heap.size) := hkc
  obtain ⟨k0, k1, k2, k3, k4⟩ := PhAt.cells (w := w) ⟨HP.out.grown, HP.out.gbox⟩
  rw [hX6] at k0 k1 k2 k3 k4
  clear hC6' hg6 hgb hX6 hkc HX5 HA5 HG1 HN1
  go_wp2_with fail
  rw [← HXE.out, ← HKC.out]
  refine Calls.mono (HVL.out X6 HP.out.grown) ?_
  rintro e w7 ⟨rfl, hg7⟩
  have HP7 : Hid (PtAt w w7 #[.slice ta tn tc, .slice na nn nc, .slice la ln lc, .int .i64 st, .slice pa n pc] #[.slice ca 0 c1, .slice cb 0 c2, .slice cc 0 c3, .int .i64 0, .slice cd 0 c4] kc nn a b F G) := HP.out.kept hg7
  clear hg7 HP HXE HKC k0 k1 k2 k3 k4 HC6
  go_wp2_with fail
  go_loopg [10, 11] nn (fun gk v10 i wr => ∃ k : Nat, k ≤ nn ∧ gk = nn - k ∧ i = .int .i64 k ∧ v10 = .slice none 0 0 ∧ PtAt w wr #[.slice ta tn tc, .slice na nn nc, .slice la ln lc, .int .i64 st, .slice pa n pc] #[.slice ca 0 c1, .slice cb 0 c2, .slice cc 0 c3, .int .i64 0, .slice cd 0 c4] kc nn a b F G)
  case atStart => exact ⟨0, Nat.zero_le _, rfl, rfl, rfl, HP7.out⟩
  case round =>
    obtain ⟨k, hk, hgk, rfl, rfl, hPk⟩ := hrel
    have HGK : Hid (gk = nn - k) := hgk
    have HPK : Hid (PtAt w wr #[.slice ta tn tc, .slice na nn nc, .slice la ln lc, .int .i64 st, .slice pa n pc] #[.slice ca 0 c1, .slice cb 0 c2, .slice cc 0 c3, .int .i64 0, .slice cd 0 c4] kc nn a b F G) := hPk
    clear hgk hPk HP7
    obtain ⟨kb, rfl, hBb⟩ : ∃ k, b = some ⟨k, 0, none⟩ ∧ BoolAt wr k nn G := by
      rcases HPK.out.b with h | h
      · omega
      · exact h
    by_cases hlt : k < nn
    · have b0 := hBb.cell k hlt
      rw [HNON.out k] at b0
      have hk0 : (0 : Int) ≤ (k : Int) := by omega
      have hk1 : (k : Int) < (nn : Int) := by omega
      have hkd : decide (k < nn) = true := decide_eq_true hlt
      clear hBb
      go_wp2_with fail
      go_roundg (nn - (k + 1))
      case measure => have := HGK.out; omega
      case rel => first | exact ⟨k + 1, by omega, rfl, by go_num, rfl, HPK.out⟩ | exact ⟨k + 1, by omega, rfl, by go_num, rfl, HPK.out.kept (grown_drewN _ _)⟩
    · have hkn : nn = k := by omega
      subst hkn
      have hkd : decide (nn < nn) = false := decide_eq_false (by omega)
      clear hBb HGK
      go_wp2_with fail
      refine Calls.mono (eawake_any _) ?_
      rintro e w9 ⟨rfl, hg9⟩
      have HW9 : Hid (w.grownBy w9 none) := by first | exact grown_trans HPK.out.grown hg9 | exact grown_trans (grown_trans HPK.out.grown (grown_drewN _ _)) hg9
      clear hg9
      go_wp2_with fail
      go_ret
      exact ⟨rfl, HW9.out⟩

end Go.Proofs.Ytljlkmiaemkokaa

/-
  reach: the law's like.
-/
namespace Go.Proofs.Ytljlkmiaemkokaa
open Go.RowKit Go.Maps Go.Shelf

attribute [local go_sem] Oper.semAt_some

/-- The four boxes of like. -/
structure LkAt (w X : World) (gv pv cv qv : Array Value) : Prop where
  grown : w.grownBy X none
  g : X.heap[w.heap.size]? = some (.cells gv 27 (0, 0))
  p : X.heap[w.heap.size + 1]? = some (.cells pv 45 (0, 0))
  c : X.heap[w.heap.size + 1 + 1]? = some (.cells cv 27 (0, 0))
  q : X.heap[w.heap.size + 1 + 1 + 1]? = some (.cells qv 45 (0, 0))
theorem LkAt.kept {w X Y : World} {gv pv cv qv : Array Value} (h : LkAt w X gv pv cv qv) (hg : X.grownBy Y none) : LkAt w Y gv pv cv qv := ⟨grown_trans h.grown hg, (boxKept h.g hg).out, (boxKept h.p hg).out, (boxKept h.c hg).out, (boxKept h.q hg).out⟩
theorem LkAt.first (w : World) (gv pv cv qv : Array Value) : LkAt w ((((w.alloc (.cells gv 27)).alloc (.cells pv 45)).alloc (.cells cv 27)).alloc (.cells qv 45)) gv pv cv qv := by
  have b1 := heap_alloc_last w (.cells gv 27)
  have b2 := heap_alloc_last (w.alloc (.cells gv 27)) (.cells pv 45)
  have b3 := heap_alloc_last ((w.alloc (.cells gv 27)).alloc (.cells pv 45)) (.cells cv 27)
  have b4 := heap_alloc_last (((w.alloc (.cells gv 27)).alloc (.cells pv 45)).alloc (.cells cv 27)) (.cells qv 45)
  rw [World.size_alloc] at b2
  rw [World.size_alloc, World.size_alloc] at b3
  rw [World.size_alloc, World.size_alloc, World.size_alloc] at b4
  have a2 := World.grownBy_alloc (w.alloc (.cells gv 27)) (.cells pv 45) none
  have a3 := World.grownBy_alloc ((w.alloc (.cells gv 27)).alloc (.cells pv 45)) (.cells cv 27) none
  have a4 := World.grownBy_alloc (((w.alloc (.cells gv 27)).alloc (.cells pv 45)).alloc (.cells cv 27)) (.cells qv 45) none
  exact ⟨grown_trans (World.grownBy_alloc _ _ none) (grown_trans a2 (grown_trans a3 a4)), (boxKept b1 (grown_trans a2 (grown_trans a3 a4))).out, (boxKept b2 (grown_trans a3 a4)).out, (boxKept b3 a4).out, b4⟩

/-- A production is like another, by the names. -/
def likeP (tn tn' : Nat) (ns ns' : List ByteArray) (lp lq vp vq : Int) (P Q : List Int) : Prop :=
  P.length = Q.length ∧ vp = vq ∧ ns.getD (lp - tn).toNat ⟨#[]⟩ = ns'.getD (lq - tn').toNat ⟨#[]⟩ ∧ ∀ i, i < P.length → ((P.getD i 0 < (tn : Int) ∨ Q.getD i 0 < (tn' : Int)) → P.getD i 0 = Q.getD i 0) ∧ ((tn : Int) ≤ P.getD i 0 → (tn' : Int) ≤ Q.getD i 0 → ns.getD (P.getD i 0 - tn).toNat ⟨#[]⟩ = ns'.getD (Q.getD i 0 - tn').toNat ⟨#[]⟩)
/-- The symbols at i are like. -/
def likeI (tn tn' : Nat) (ns ns' : List ByteArray) (P Q : List Int) (i : Nat) : Prop :=
  ((P.getD i 0 < (tn : Int) ∨ Q.getD i 0 < (tn' : Int)) → P.getD i 0 = Q.getD i 0) ∧ ((tn : Int) ≤ P.getD i 0 → (tn' : Int) ≤ Q.getD i 0 → ns.getD (P.getD i 0 - tn).toNat ⟨#[]⟩ = ns'.getD (Q.getD i 0 - tn').toNat ⟨#[]⟩)
def LikeTold (r : Bool) (w : World) (e : Ending) (y : World) : Prop := e = .returned (.bool r) ∧ w.grownBy y none

theorem strs_cell {w : World} {a : Option Addr} {l : List ByteArray} (h : StrsAt w a l) {i : Nat} (hi : i < l.length) : ∃ b off, a = some ⟨b, off, none⟩ ∧ ∀ Y, w.grownBy Y none → Y.cell? ⟨b, off + i, none⟩ = some (.string (l.getD i ⟨#[]⟩)) := by
  rcases h with h | ⟨b, off, e, h⟩
  · rw [h] at hi; cases hi
  · exact ⟨b, off, e, fun Y hY => by
      have hc := h i hi
      have hk : StrsAt w (some ⟨b, off, none⟩) l := .inr ⟨b, off, rfl, h⟩
      rcases hk.kept hY with h' | ⟨b', off', e', h'⟩
      · rw [h'] at hi; cases hi
      · simp at e'
        obtain ⟨rfl, rfl⟩ := e'
        exact h' i hi⟩

set_option maxRecDepth 100000 in
set_option maxHeartbeats 1000000 in
theorem like_any (ta na la pa ra ta' na' la' pa' ra' : Option Addr) (tn nn ln n tc nc lc pc rc tn' nn' ln' n' tc' nc' lc' pc' rc' : Nat) (st st' lp lq vp vq : Int) (ns ns' : List ByteArray) (P Q : List Int) (w : World) (hn : ns.length = nn) (hn' : ns'.length = nn') (hN : StrsAt w na ns) (hN' : StrsAt w na' ns') (hP : IntsAt w ra P) (hQ : IntsAt w ra' Q) (hs : nn ≤ 1000) (hs' : nn' ≤ 1000) (hPl : P.length ≤ 17592186044416)
    (h1 : (tn : Int) ≤ lp ∧ lp < ((tn + nn : Nat) : Int)) (h2 : (tn' : Int) ≤ lq ∧ lq < ((tn' + nn' : Nat) : Int)) (h3 : ∀ x ∈ P, (0 : Int) ≤ x ∧ x < ((tn + nn : Nat) : Int)) (h4 : ∀ x ∈ Q, (0 : Int) ≤ x ∧ x < ((tn' + nn' : Nat) : Int)) (r : Bool) (hr : r = true ↔ likeP tn tn' ns ns' lp lq vp vq P Q) :
    Calls Try.prog 26 #[.agg #[.slice ta tn tc, .slice na nn nc, .slice la ln lc, .int .i64 st, .slice pa n pc], .agg #[.int .i64 lp, .slice ra P.length rc, .int .i64 vp], .agg #[.slice ta' tn' tc', .slice na' nn' nc', .slice la' ln' lc', .int .i64 st', .slice pa' n' pc'], .agg #[.int .i64 lq, .slice ra' Q.length rc', .int .i64 vq]] w fun e y => LikeTold r w e y := by
  obtain ⟨s, rfl⟩ : ∃ s : Nat, lp = (tn : Int) + (s : Int) := ⟨(lp - tn).toNat, by omega⟩
  obtain ⟨s', rfl⟩ : ∃ s : Nat, lq = (tn' : Int) + (s : Int) := ⟨(lq - tn').toNat, by omega⟩
  obtain ⟨b, off, rfl, hb⟩ := strs_cell hN (i := s) (by omega)
  obtain ⟨b', off', rfl, hb'⟩ := strs_cell hN' (i := s') (by omega)
  have HB : Hid (∀ i, i < nn → ∀ Y, w.grownBy Y none → Y.cell? ⟨b, off + i, none⟩ = some (.string (ns.getD i ⟨#[]⟩))) := fun i hi Y hY => by
    obtain ⟨b2, off2, e, h⟩ := strs_cell hN (i := i) (by omega)
    simp at e
    obtain ⟨rfl, rfl⟩ := e
    exact h Y hY
  have HB' : Hid (∀ i, i < nn' → ∀ Y, w.grownBy Y none → Y.cell? ⟨b', off' + i, none⟩ = some (.string (ns'.getD i ⟨#[]⟩))) := fun i hi Y hY => by
    obtain ⟨b2, off2, e, h⟩ := strs_cell hN' (i := i) (by omega)
    simp at e
    obtain ⟨rfl, rfl⟩ := e
    exact h Y hY
  have HP : Hid (∀ Y, w.grownBy Y none → IntsAt Y ra P) := fun Y hY => hP.kept hY
  have HQ : Hid (∀ Y, w.grownBy Y none → IntsAt Y ra' Q) := fun Y hY => hQ.kept hY
  have HPB : Hid (∀ i, i < P.length → (0 : Int) ≤ P.getD i 0 ∧ P.getD i 0 < ((tn + nn : Nat) : Int)) := fun i hi => by
    rw [List.getD_eq_getElem?_getD, List.getElem?_eq_getElem hi]; exact h3 _ (List.getElem_mem hi)
  have HQB : Hid (∀ i, i < Q.length → (0 : Int) ≤ Q.getD i 0 ∧ Q.getD i 0 < ((tn' + nn' : Nat) : Int)) := fun i hi => by
    rw [List.getD_eq_getElem?_getD, List.getElem?_eq_getElem hi]; exact h4 _ (List.getElem_mem hi)
  obtain ⟨m, hm⟩ : ∃ m, m = P.length := ⟨_, rfl⟩
  obtain ⟨m', hm'⟩ : ∃ m, m = Q.length := ⟨_, rfl⟩
  have HMM : Hid (m = P.length ∧ m' = Q.length) := ⟨hm, hm'⟩
  rw [← hm] at hPl
  rw [← hm, ← hm']
  clear hm hm'
  have HL0 : Hid (LkAt w ((((w.alloc (.cells #[.slice ta tn tc, .slice (some ⟨b, off, none⟩) nn nc, .slice la ln lc, .int .i64 st, .slice pa n pc] 27)).alloc (.cells #[.int .i64 ((tn : Int) + (s : Int)), .slice ra m rc, .int .i64 vp] 45)).alloc (.cells #[.slice ta' tn' tc', .slice (some ⟨b', off', none⟩) nn' nc', .slice la' ln' lc', .int .i64 st', .slice pa' n' pc'] 27)).alloc (.cells #[.int .i64 ((tn' : Int) + (s' : Int)), .slice ra' m' rc', .int .i64 vq] 45)) _ _ _ _) := LkAt.first w _ _ _ _
  have hsn : s < nn := by omega
  have hsn' : s' < nn' := by omega
  obtain ⟨A, hA⟩ : ∃ A, A = likeP tn tn' ns ns' ((tn : Int) + (s : Int)) ((tn' : Int) + (s' : Int)) vp vq P Q := ⟨_, rfl⟩
  have HA : Hid (A → likeP tn tn' ns ns' ((tn : Int) + (s : Int)) ((tn' : Int) + (s' : Int)) vp vq P Q) := by rw [hA]; exact id
  have HRF : Hid ((A → False) → r = false) := fun h => by
    cases r with
    | false => rfl
    | true => exact (h (by rw [hA]; exact hr.1 rfl)).elim
  have HRT : Hid (likeP tn tn' ns ns' ((tn : Int) + (s : Int)) ((tn' : Int) + (s' : Int)) vp vq P Q → r = true) := hr.2
  clear hr
  obtain ⟨x, hx⟩ : ∃ x, x = ns.getD s ⟨#[]⟩ := ⟨_, rfl⟩
  obtain ⟨x', hx'⟩ : ∃ x, x = ns'.getD s' ⟨#[]⟩ := ⟨_, rfl⟩
  have c1 := hb _ HL0.out.grown
  have c2 := hb' _ HL0.out.grown
  rw [← hx] at c1
  rw [← hx'] at c2
  have HNM : Hid (A → x = x') := fun ha => by
    have := (HA.out ha).2.2.1
    rw [hx, hx']
    have e1 : ((tn : Int) + (s : Int) - (tn : Int)).toNat = s := by omega
    have e2 : ((tn' : Int) + (s' : Int) - (tn' : Int)).toNat = s' := by omega
    rwa [e1, e2] at this
  have HXN : Hid (x = ns.getD s ⟨#[]⟩ ∧ x' = ns'.getD s' ⟨#[]⟩) := ⟨hx, hx'⟩
  have d1 : (tn : Int) + (s : Int) - (tn : Int) = (s : Int) := by omega
  have d2 : (tn' : Int) + (s' : Int) - (tn' : Int) = (s' : Int) := by omega
  have d3 : IntKind.i64.wrap (s : Int) = (s : Int) := by rw [IntKind.wrap_i64]; omega
  have d4 : IntKind.i64.wrap (s' : Int) = (s' : Int) := by rw [IntKind.wrap_i64]; omega
  have d5 : (0 : Int) ≤ (s : Int) := by omega
  have d6 : (0 : Int) ≤ (s' : Int) := by omega
  have d7 : (s : Int) < (nn : Int) := by omega
  have d8 : (s' : Int) < (nn' : Int) := by omega
  clear hb hb' hN hN' hP hQ hx hx' h1 h2 h3 h4 hA hn hn'
  obtain ⟨X, hX⟩ : ∃ X, X = ((((w.alloc (.cells #[.slice ta tn tc, .slice (some ⟨b, off, none⟩) nn nc, .slice la ln lc, .int .i64 st, .slice pa n pc] 27)).alloc (.cells #[.int .i64 ((tn : Int) + (s : Int)), .slice ra m rc, .int .i64 vp] 45)).alloc (.cells #[.slice ta' tn' tc', .slice (some ⟨b', off', none⟩) nn' nc', .slice la' ln' lc', .int .i64 st', .slice pa' n' pc'] 27)).alloc (.cells #[.int .i64 ((tn' : Int) + (s' : Int)), .slice ra' m' rc', .int .i64 vq] 45)) := ⟨_, rfl⟩
  rw [← hX] at HL0 c1 c2
  have HXE := show Hid _ from hX
  clear hX
  have HCC : Hid (∀ Y, LkAt w Y #[.slice ta tn tc, .slice (some ⟨b, off, none⟩) nn nc, .slice la ln lc, .int .i64 st, .slice pa n pc] #[.int .i64 ((tn : Int) + (s : Int)), .slice ra m rc, .int .i64 vp] #[.slice ta' tn' tc', .slice (some ⟨b', off', none⟩) nn' nc', .slice la' ln' lc', .int .i64 st', .slice pa' n' pc'] #[.int .i64 ((tn' : Int) + (s' : Int)), .slice ra' m' rc', .int .i64 vq] → (Y.cell? ⟨w.heap.size, 0, none⟩ = some (.slice ta tn tc) ∧ Y.cell? ⟨w.heap.size, 1, none⟩ = some (.slice (some ⟨b, off, none⟩) nn nc)) ∧ (Y.cell? ⟨w.heap.size + 1, 0, none⟩ = some (.int .i64 ((tn : Int) + (s : Int))) ∧ Y.cell? ⟨w.heap.size + 1, 1, none⟩ = some (.slice ra m rc) ∧ Y.cell? ⟨w.heap.size + 1, 2, none⟩ = some (.int .i64 vp)) ∧ (Y.cell? ⟨w.heap.size + 1 + 1, 0, none⟩ = some (.slice ta' tn' tc') ∧ Y.cell? ⟨w.heap.size + 1 + 1, 1, none⟩ = some (.slice (some ⟨b', off', none⟩) nn' nc')) ∧ (Y.cell? ⟨w.heap.size + 1 + 1 + 1, 0, none⟩ = some (.int .i64 ((tn' : Int) + (s' : Int))) ∧ Y.cell? ⟨w.heap.size + 1 + 1 + 1, 1, none⟩ = some (.slice ra' m' rc') ∧ Y.cell? ⟨w.heap.size + 1 + 1 + 1, 2, none⟩ = some (.int .i64 vq))) := fun Y h => by
    refine ⟨⟨?_, ?_⟩, ⟨?_, ?_, ?_⟩, ⟨?_, ?_⟩, ⟨?_, ?_, ?_⟩⟩
    · rw [cell_of_row _ _ _ _ _ _ h.g]; rfl
    · rw [cell_of_row _ _ _ _ _ _ h.g]; rfl
    · rw [cell_of_row _ _ _ _ _ _ h.p]; rfl
    · rw [cell_of_row _ _ _ _ _ _ h.p]; rfl
    · rw [cell_of_row _ _ _ _ _ _ h.p]; rfl
    · rw [cell_of_row _ _ _ _ _ _ h.c]; rfl
    · rw [cell_of_row _ _ _ _ _ _ h.c]; rfl
    · rw [cell_of_row _ _ _ _ _ _ h.q]; rfl
    · rw [cell_of_row _ _ _ _ _ _ h.q]; rfl
    · rw [cell_of_row _ _ _ _ _ _ h.q]; rfl
  go_enter Try.func26, Try.ntmps26
  go_wp2_with fail
  rw [← HXE.out]
  clear HXE
  obtain ⟨⟨g0, g1⟩, ⟨p0, p1, p2⟩, ⟨e0, e1⟩, ⟨q0, q1, q2⟩⟩ := HCC.out X HL0.out
  by_cases hl : m = m'
  case' neg =>
    have hl1 : ((m : Int) != (m' : Int)) = true := bne_iff_ne.2 (by omega)
    have HNO : Hid (A → False) := fun ha => hl (by have := (HA.out ha).1; rw [← HMM.out.1, ← HMM.out.2] at this; exact this)
    clear hl
    go_quiet (fail)
    go_wp2_with fail
    go_ret
    exact ⟨by rw [HRF.out HNO.out]; rfl, grown_trans HL0.out.grown (grown_drewN _ _)⟩
  subst hl
  have hl1 : ((m : Int) != (m : Int)) = false := bne_self_eq_false _
  by_cases hv : vp = vq
  case' neg =>
    have hv1 : (vp != vq) = true := bne_iff_ne.2 hv
    have HNO : Hid (A → False) := fun ha => hv (HA.out ha).2.1
    clear hv
    go_quiet (fail)
    go_wp2_with fail
    go_ret
    exact ⟨by rw [HRF.out HNO.out]; rfl, grown_trans HL0.out.grown (grown_drewN _ _)⟩
  subst hv
  have hv1 : (vp != vp) = false := bne_self_eq_false _
  by_cases hx : x = x'
  case' neg =>
    have hx1 : (x.toList == x'.toList) = false := strEq_false hx
    have HNO : Hid (A → False) := fun ha => hx (HNM.out ha)
    clear hx
    go_quiet (fail)
    go_wp2_with fail
    go_ret
    exact ⟨by rw [HRF.out HNO.out]; rfl, grown_trans HL0.out.grown (grown_drewN _ _)⟩
  subst hx
  have hx1 : (x.toList == x.toList) = true := beq_self_eq_true _
  go_quiet (fail)
  go_wp2_with fail
  clear g0 g1 p0 p1 p2 e0 e1 q0 q1 q2 c1 c2 d1 d2 d3 d4 d5 d6 d7 d8 hx1 hv1 hl1
  go_loopg [9] m (fun gk i wr => ∃ k : Nat, k ≤ m ∧ gk = m - k ∧ i = .int .i64 k ∧ (∀ i, i < k → likeI tn tn' ns ns' P Q i) ∧ LkAt w wr #[.slice ta tn tc, .slice (some ⟨b, off, none⟩) nn nc, .slice la ln lc, .int .i64 st, .slice pa n pc] #[.int .i64 ((tn : Int) + (s : Int)), .slice ra m rc, .int .i64 vp] #[.slice ta' tn' tc', .slice (some ⟨b', off', none⟩) nn' nc', .slice la' ln' lc', .int .i64 st', .slice pa' n' pc'] #[.int .i64 ((tn' : Int) + (s' : Int)), .slice ra' m rc', .int .i64 vp])
  case atStart => exact ⟨0, Nat.zero_le _, rfl, rfl, fun i hi => absurd hi (Nat.not_lt_zero _), HL0.out.kept (grown_drewN _ _)⟩
  case round =>
    obtain ⟨k, hk, hgk, rfl, hin, hLk⟩ := hrel
    have HGK : Hid (gk = m - k) := hgk
    have HIN0 : Hid (∀ i, i < k → likeI tn tn' ns ns' P Q i) := hin
    clear hin
    have HL : Hid (LkAt w wr #[.slice ta tn tc, .slice (some ⟨b, off, none⟩) nn nc, .slice la ln lc, .int .i64 st, .slice pa n pc] #[.int .i64 ((tn : Int) + (s : Int)), .slice ra m rc, .int .i64 vp] #[.slice ta' tn' tc', .slice (some ⟨b', off', none⟩) nn' nc', .slice la' ln' lc', .int .i64 st', .slice pa' n' pc'] #[.int .i64 ((tn' : Int) + (s' : Int)), .slice ra' m rc', .int .i64 vp]) := hLk
    clear hgk hLk HL0
    obtain ⟨⟨g0, g1⟩, ⟨p0, p1, p2⟩, ⟨e0, e1⟩, ⟨q0, q1, q2⟩⟩ := HCC.out wr HL.out
    clear p0 p2 q0 q2
    by_cases hlt : k < m
    · have hkp : k < P.length := by have := HMM.out.1; omega
      have hkq : k < Q.length := by have := HMM.out.2; omega
      obtain ⟨α, hα⟩ : ∃ α, α = P.getD k 0 := ⟨_, rfl⟩
      obtain ⟨β, hβ⟩ : ∃ β, β = Q.getD k 0 := ⟨_, rfl⟩
      obtain ⟨pb, po, hra, hpc⟩ : ∃ pb po, ra = some ⟨pb, po, none⟩ ∧ wr.cell? ⟨pb, po + k, none⟩ = some (.int .i64 α) := by
        rcases HP.out wr HL.out.grown with h | ⟨pb, po, e, h⟩
        · rw [h] at hkp; cases hkp
        · exact ⟨pb, po, e, by rw [hα]; exact h k hkp⟩
      obtain ⟨qb, qo, hra', hqc⟩ : ∃ pb po, ra' = some ⟨pb, po, none⟩ ∧ wr.cell? ⟨pb, po + k, none⟩ = some (.int .i64 β) := by
        rcases HQ.out wr HL.out.grown with h | ⟨pb, po, e, h⟩
        · rw [h] at hkq; cases hkq
        · exact ⟨pb, po, e, by rw [hβ]; exact h k hkq⟩
      have hαb := HPB.out k hkp
      have hβb := HQB.out k hkq
      have HAK : Hid (A → ((α < (tn : Int) ∨ β < (tn' : Int)) → α = β) ∧ ((tn : Int) ≤ α → (tn' : Int) ≤ β → ns.getD (α - tn).toNat ⟨#[]⟩ = ns'.getD (β - tn').toNat ⟨#[]⟩)) := fun ha => by
        rw [hα, hβ]; exact (HA.out ha).2.2.2 k hkp
      have HIN1 : Hid ((((α < (tn : Int) ∨ β < (tn' : Int)) → α = β) ∧ ((tn : Int) ≤ α → (tn' : Int) ≤ β → ns.getD (α - tn).toNat ⟨#[]⟩ = ns'.getD (β - tn').toNat ⟨#[]⟩)) → ∀ i, i < k + 1 → likeI tn tn' ns ns' P Q i) := fun h i hi => by
        by_cases e : i = k
        · subst e
          rw [hα, hβ] at h
          exact h
        · exact HIN0.out i (by omega)
      rw [← hα] at hαb
      rw [← hβ] at hβb
      clear hα hβ hkp hkq
      subst hra hra'
      have hk0 : (0 : Int) ≤ (k : Int) := by omega
      have hk1 : (k : Int) < (m : Int) := by omega
      have hkd : decide (k < m) = true := decide_eq_true hlt
      by_cases hor : α < (tn : Int) ∨ β < (tn' : Int)
      · by_cases hab : α = β
        case' pos =>
          have hab1 : (α != β) = false := by rw [hab]; exact bne_self_eq_false _
          have HIN : Hid (∀ i, i < k + 1 → likeI tn tn' ns ns' P Q i) := HIN1.out ⟨fun _ => hab, fun h1 h2 => by omega⟩
        case' neg =>
          have hab1 : (α != β) = true := bne_iff_ne.2 hab
          have HNO : Hid (A → False) := fun ha => hab ((HAK.out ha).1 hor)
        all_goals clear hab hαb hβb HIN1
        all_goals by_cases hαt : α < (tn : Int)
        all_goals first
          | (have hαd : decide (α < (tn : Int)) = true := decide_eq_true hαt; clear hor hαt)
          | (have hαd : decide (α < (tn : Int)) = false := decide_eq_false hαt
             have hβd : decide (β < (tn' : Int)) = true := decide_eq_true (by rcases hor with h | h; exact absurd h hαt; exact h)
             clear hor hαt)
        all_goals go_wp2_with fail
        all_goals first
          | (go_ret
             exact ⟨by rw [HRF.out HNO.out]; rfl, by first | exact HL.out.grown | exact grown_trans HL.out.grown (grown_drewN _ _)⟩)
          | (go_roundg (m - (k + 1))
             all_goals first
               | (have := HGK.out; omega)
               | exact ⟨k + 1, by omega, rfl, by go_num, HIN.out, HL.out⟩
               | exact ⟨k + 1, by omega, rfl, by go_num, HIN.out, HL.out.kept (grown_drewN _ _)⟩)
      · obtain ⟨u, rfl⟩ : ∃ u : Nat, α = (tn : Int) + (u : Int) := ⟨(α - tn).toNat, by omega⟩
        obtain ⟨u', rfl⟩ : ∃ u : Nat, β = (tn' : Int) + (u : Int) := ⟨(β - tn').toNat, by omega⟩
        have hun : u < nn := by omega
        have hun' : u' < nn' := by omega
        have f1 := HB.out u hun wr HL.out.grown
        have f2 := HB'.out u' hun' wr HL.out.grown
        obtain ⟨y, hy⟩ : ∃ y, y = ns.getD u ⟨#[]⟩ := ⟨_, rfl⟩
        obtain ⟨y', hy'⟩ : ∃ y, y = ns'.getD u' ⟨#[]⟩ := ⟨_, rfl⟩
        rw [← hy] at f1
        rw [← hy'] at f2
        have HNM2 : Hid (A → y = y') := fun ha => by
          have := (HAK.out ha).2 (by omega) (by omega)
          rw [hy, hy']
          have e1 : ((tn : Int) + (u : Int) - (tn : Int)).toNat = u := by omega
          have e2 : ((tn' : Int) + (u' : Int) - (tn' : Int)).toNat = u' := by omega
          rwa [e1, e2] at this
        have hαd : decide ((tn : Int) + (u : Int) < (tn : Int)) = false := decide_eq_false (by omega)
        have hβd : decide ((tn' : Int) + (u' : Int) < (tn' : Int)) = false := decide_eq_false (by omega)
        have d1 : (tn : Int) + (u : Int) - (tn : Int) = (u : Int) := by omega
        have d2 : (tn' : Int) + (u' : Int) - (tn' : Int) = (u' : Int) := by omega
        have d3 : IntKind.i64.wrap (u : Int) = (u : Int) := by rw [IntKind.wrap_i64]; omega
        have d4 : IntKind.i64.wrap (u' : Int) = (u' : Int) := by rw [IntKind.wrap_i64]; omega
        have d5 : (0 : Int) ≤ (u : Int) := by omega
        have d6 : (0 : Int) ≤ (u' : Int) := by omega
        have d7 : (u : Int) < (nn : Int) := by omega
        have d8 : (u' : Int) < (nn' : Int) := by omega
        have HIN2 : Hid (y = y' → ∀ i, i < k + 1 → likeI tn tn' ns ns' P Q i) := fun e => HIN1.out ⟨fun h => by omega, fun _ _ => by
          have e1 : ((tn : Int) + (u : Int) - (tn : Int)).toNat = u := by omega
          have e2 : ((tn' : Int) + (u' : Int) - (tn' : Int)).toNat = u' := by omega
          rw [e1, e2, ← hy, ← hy', e]⟩
        clear hy hy' hαb hβb HAK hor hun hun' HIN1
        by_cases hyy : y = y'
        · subst hyy
          have HIN := show Hid _ from HIN2.out rfl
          clear HIN2
          have hy1 : (y.toList == y.toList) = true := beq_self_eq_true _
          go_wp2_with fail
          go_quiet (fail)
          go_wp2_with fail
          go_roundg (m - (k + 1))
          case measure => have := HGK.out; omega
          case rel => first | exact ⟨k + 1, by omega, rfl, by go_num, HIN.out, HL.out⟩ | exact ⟨k + 1, by omega, rfl, by go_num, HIN.out, HL.out.kept (grown_drewN _ _)⟩
        · have hy1 : (y.toList == y'.toList) = false := strEq_false hyy
          have HNO : Hid (A → False) := fun ha => hyy (HNM2.out ha)
          clear hyy
          go_wp2_with fail
          go_quiet (fail)
          go_wp2_with fail
          go_ret
          exact ⟨by rw [HRF.out HNO.out]; rfl, by first | exact HL.out.grown | exact grown_trans HL.out.grown (grown_drewN _ _)⟩
    · have hkn : m = k := by omega
      subst hkn
      go_wp2_with fail
      go_ret
      have e1 : ((tn : Int) + (s : Int) - (tn : Int)).toNat = s := by omega
      have e2 : ((tn' : Int) + (s' : Int) - (tn' : Int)).toNat = s' := by omega
      have hrt := HRT.out ⟨HMM.out.1.symm.trans HMM.out.2, rfl, by rw [e1, e2, ← HXN.out.1, ← HXN.out.2], fun i hi => HIN0.out i (by have := HMM.out.1; omega)⟩
      exact ⟨by rw [hrt]; rfl, HL.out.grown⟩

end Go.Proofs.Ytljlkmiaemkokaa
