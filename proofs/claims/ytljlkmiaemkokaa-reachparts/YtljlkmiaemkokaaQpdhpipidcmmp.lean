import Derived.Test.YtljlkmiaemkokaaQpemboecgepkf
import Derived.Test.YtljlkmiaemkokaaQojkbcmcinfbi
import Derived.Test.YtljlkmiaemkokaaQdclampaolkdo

/-
  ReachReduces, walked.
-/
namespace Go.Proofs.Ytljlkmiaemkokaa
open Go.RowKit Go.Maps Go.Shelf

attribute [local go_sem] Oper.semAt_some

/-- A grammar of one's own, its lengths named. -/
def CGr (C : GR) (t1 t2 t3 t4 : Nat) (y : World) (B : Nat) (ta na la pa : Option Addr) (tc nc lc pc : Nat) : Prop := GramNew y B C (.slice ta t1 tc) (.slice na t2 nc) (.slice la t3 lc) (.slice pa t4 pc)
def CT (ec cs : Int) (C : GR) (t1 t2 t3 t4 : Nat) (X : World) (e : Ending) (y : World) : Prop := ∃ ta na la pa tc nc lc pc, e = .returned (.tuple #[.agg #[.slice ta t1 tc, .slice na t2 nc, .slice la t3 lc, .int .i64 cs, .slice pa t4 pc], .int .i64 ec]) ∧ CGr C t1 t2 t3 t4 y X.heap.size ta na la pa tc nc lc pc ∧ X.grownBy y none
theorem CGr.kept {C : GR} {t1 t2 t3 t4 : Nat} {y z : World} {B : Nat} {ta na la pa : Option Addr} {tc nc lc pc : Nat} (h : CGr C t1 t2 t3 t4 y B ta na la pa tc nc lc pc) (hg : y.grownBy z none) : CGr C t1 t2 t3 t4 z B ta na la pa tc nc lc pc := GramNew.kept h hg
theorem CGr.out {C : GR} {t1 t2 t3 t4 : Nat} {y z : World} {B lo hi : Nat} {ta na la pa : Option Addr} {tc nc lc pc : Nat} (h : CGr C t1 t2 t3 t4 y B ta na la pa tc nc lc pc) (ho : Outside lo hi y z) (hB : hi ≤ B) : CGr C t1 t2 t3 t4 z B ta na la pa tc nc lc pc := GramNew.out h ho hB
theorem owns_nil {y : World} {B e s n cap : Nat} {a : Option Addr} {xs : List Value} (h : y.ownsRow B e s (.slice a n cap) n xs) : a = none → n = 0 ∧ cap = 0 := by
  rintro rfl
  rcases h.2 with ⟨h1, h2⟩ | ⟨g, cap', cur, he, _⟩
  · simp at h1; exact ⟨h2, h1.2⟩
  · simp at he
theorem box_out {lo hi : Nat} {X Y : World} {b : Nat} {cs : Array Value} {t : TypeId} (h : X.heap[b]? = some (.cells cs t (0, 0))) (ho : Outside lo hi X Y) (hb : b < lo ∨ hi ≤ b) : Y.heap[b]? = some (.cells cs t (0, 0)) := (ho.block b (Array.getElem?_eq_some_iff.1 h).1 hb).trans h

/-- A copy of the grammar, of the law's own. -/
structure InAt (y : World) (B : Nat) (ts : List (ByteArray × Int)) (ns : List ByteArray) (lv : List Int) (st : Int) (n : Nat) (L : Nat → Int) (R : Nat → List Int) (V : Nat → Int) (tn nn ln : Nat) (ta na la pa : Option Addr) (tc nc lc pc : Nat) : Prop where
  new : GramNew y B (grOf ts ns lv st n L R V) (.slice ta tn tc) (.slice na nn nc) (.slice la ln lc) (.slice pa n pc)
  gat : ∃ ra rc, GAt y ta na la pa tc nc lc pc ts ns lv n L R ra rc V
theorem InAt.kept {y z : World} {B : Nat} {ts : List (ByteArray × Int)} {ns : List ByteArray} {lv : List Int} {st : Int} {n : Nat} {L : Nat → Int} {R : Nat → List Int} {V : Nat → Int} {tn nn ln : Nat} {ta na la pa : Option Addr} {tc nc lc pc : Nat} (h : InAt y B ts ns lv st n L R V tn nn ln ta na la pa tc nc lc pc) (hg : y.grownBy z none) : InAt z B ts ns lv st n L R V tn nn ln ta na la pa tc nc lc pc := by
  obtain ⟨ra, rc, h2⟩ := h.gat
  exact ⟨h.new.kept hg, ra, rc, h2.kept hg⟩

set_option maxRecDepth 100000 in
set_option maxHeartbeats 1000000 in
theorem ereduces_core (ta na la pa : Option Addr) (tc nc lc pc : Nat) (ts : List (ByteArray × Int)) (ns : List ByteArray) (lv : List Int) (n : Nat) (L : Nat → Int) (R : Nat → List Int) (ra : Nat → Option Addr) (rc : Nat → Nat) (V : Nat → Int) (st : Int) (w : World) (tn nn ln : Nat) (hlen : ts.length = tn ∧ ns.length = nn ∧ lv.length = ln) (hG : GAt w ta na la pa tc nc lc pc ts ns lv n L R ra rc V) (hnt : ta = none → tn = 0 ∧ tc = 0) (hnl : la = none → ln = 0 ∧ lc = 0) (h1 : tn * 24 ≤ 140737488355328) (h2 : nn * 16 ≤ 140737488355328) (h4 : n * 40 ≤ 140737488355328) (hts : ∀ t ∈ ts, t.1.size ≤ 140737488355328) (hns : ∀ s ∈ ns, s.size ≤ 140737488355328) :
    Calls Try.prog 4 #[.agg #[.slice ta tn tc, .slice na nn nc, .slice la ln lc, .int .i64 st, .slice pa n pc]] w fun e w' => e = .returned (.bool true) ∧ w.grownBy w' none := by
  obtain ⟨rV, hV⟩ := boolOf (validOK ts ns lv st n L R V)
  obtain ⟨F, G, hM⟩ : ∃ F G, rV = true → MarksOf tn nn n st L R false F G := by
    by_cases h : rV = true
    · have hm : MayOK tn nn n st L R false := by
        obtain ⟨rfl, rfl, rfl⟩ := hlen
        exact mayOK_valid (hV.1 h)
      obtain ⟨F, G, hM⟩ := hm.marksOf
      exact ⟨F, G, fun _ => hM⟩
    · exact ⟨fun _ => false, fun _ => false, fun h' => absurd h' h⟩
  have hR : ∀ k, k < n → (R k).length ≤ 17592186044416 := fun k hk => by
    rcases hG.prods with h | ⟨b, off, e, h⟩
    · omega
    · exact (h k hk).2.2.2.2.2
  have hll : ln ≤ 17592186044416 := by have := hG.llen; rw [hlen.2.2] at this; exact this
  have hb := redC_bound (F := F) (G := G) hlen hV hM hR
  have HCL0 : redE tn st F rV = 0 → closedOK (redC ts ns lv tn nn n st L R V F G rV).terms (redC ts ns lv tn nn n st L R V F G rV).nons (redC ts ns lv tn nn n st L R V F G rV).levels (redC ts ns lv tn nn n st L R V F G rV).start (redC ts ns lv tn nn n st L R V F G rV).prods.length (fun i => ((redC ts ns lv tn nn n st L R V F G rV).prods.getD i ⟨0, [], 0⟩).left) (fun i => ((redC ts ns lv tn nn n st L R V F G rV).prods.getD i ⟨0, [], 0⟩).right) (fun i => ((redC ts ns lv tn nn n st L R V F G rV).prods.getD i ⟨0, [], 0⟩).level) ∧ (∀ t ∈ (redC ts ns lv tn nn n st L R V F G rV).terms, t.1.size ≤ 140737488355328) ∧ (∀ s ∈ (redC ts ns lv tn nn n st L R V F G rV).nons, s.size ≤ 140737488355328) := fun he => by
    cases rV with
    | false => exact absurd he (by unfold redE; rw [if_neg (by decide)]; decide)
    | true =>
      cases hF : F (st - tn).toNat with
      | false => rw [redE_none hF] at he; exact absurd he (by decide)
      | true =>
        rw [redC_ok hF]
        refine ⟨red_closed hlen (hV.1 rfl) (hM rfl) hF _ rfl, hts, fun s hs => ?_⟩
        have e0 : (redGR ts ns lv tn nn n st L R V G (fun k => goD tn L R F k G)).nons = namesTo G ns nn := rfl
        rw [e0] at hs
        unfold namesTo at hs
        simp only [List.mem_cons, List.mem_map, List.mem_filter, List.mem_range] at hs
        rcases hs with rfl | ⟨i, ⟨hi, _⟩, rfl⟩
        · decide
        · have hi' : i < ns.length := by rw [hlen.2.1]; exact hi
          rw [List.getD_eq_getElem?_getD, List.getElem?_eq_getElem hi']
          exact hns _ (List.getElem_mem hi')
  obtain ⟨ec, hec⟩ : ∃ ec : Int, ec = redE tn st F rV := ⟨_, rfl⟩
  obtain ⟨C, hC⟩ : ∃ C : GR, C = redC ts ns lv tn nn n st L R V F G rV := ⟨_, rfl⟩
  rw [← hC] at hb HCL0
  rw [← hec] at HCL0
  obtain ⟨t1, ht1⟩ : ∃ t : Nat, t = C.terms.length := ⟨_, rfl⟩
  obtain ⟨t2, ht2⟩ : ∃ t : Nat, t = C.nons.length := ⟨_, rfl⟩
  obtain ⟨t3, ht3⟩ : ∃ t : Nat, t = C.levels.length := ⟨_, rfl⟩
  obtain ⟨t4, ht4⟩ : ∃ t : Nat, t = C.prods.length := ⟨_, rfl⟩
  obtain ⟨cs, hcs⟩ : ∃ s : Int, s = C.start := ⟨_, rfl⟩
  have HCP : Hid (∀ X, w.grownBy X none → Calls Try.prog 8 #[.agg #[.slice ta tn tc, .slice na nn nc, .slice la ln lc, .int .i64 st, .slice pa n pc]] X fun e w' => ∃ ta' na' la' pa' tc' nc' lc' pc', e = .returned (.agg #[.slice ta' tn tc', .slice na' nn nc', .slice la' ln lc', .int .i64 st, .slice pa' n pc']) ∧ InAt w' X.heap.size ts ns lv st n L R V tn nn ln ta' na' la' pa' tc' nc' lc' pc' ∧ X.grownBy w' none) := fun X hX => by
    refine (rcopy_core ta na la pa tn nn ln n tc nc lc pc st ts ns lv L R ra rc V X hlen (hG.kept hX) hnt hnl h1 h2 (by omega) h4).mono ?_
    rintro e w' ⟨vt, vn, vl, vp, rfl, hN, hg⟩
    obtain ⟨ta', na', la', pa', tc', nc', lc', pc', ra', rc', rfl, rfl, rfl, rfl, hG', _, hn1, hn2⟩ := hN.read hG.tlen hG.nlen hG.llen hG.plen hR
    rw [hlen.1, hlen.2.1, hlen.2.2] at hN
    rw [hlen.1, hlen.2.1, hlen.2.2]
    exact ⟨ta', na', la', pa', tc', nc', lc', pc', rfl, ⟨hN, ra', rc', hG'⟩, hg⟩
  have HRR : Hid (∀ X, w.grownBy X none → Calls Try.prog 17 #[.agg #[.slice ta tn tc, .slice na nn nc, .slice la ln lc, .int .i64 st, .slice pa n pc]] X fun e y => CT ec cs C t1 t2 t3 t4 X e y) := fun X hX => by
    have := rreduce_any ta na la pa tc nc lc pc ts ns lv n L R ra rc V st X tn nn ln hlen (hG.kept hX) hnt hnl rV hV F G hM hts hns
    rw [← hec, ← hC] at this
    rw [ht1, ht2, ht3, ht4, hcs]
    exact this
  have HRE : Hid (∀ (X : World) (B : Nat) (ta' na' la' pa' : Option Addr) (tc' nc' lc' pc' : Nat), InAt X B ts ns lv st n L R V tn nn ln ta' na' la' pa' tc' nc' lc' pc' → Calls Try.prog 16 #[.agg #[.slice ta' tn tc', .slice na' nn nc', .slice la' ln lc', .int .i64 st, .slice pa' n pc']] X fun e y => CT ec cs C t1 t2 t3 t4 X e y) := fun X B ta' na' la' pa' tc' nc' lc' pc' hX => by
    obtain ⟨ra', rc', hg'⟩ := hX.gat
    have hx1 : X.ownsRow B 57 2 (.slice ta' tn tc') ts.length (tmsL ts) := hX.new.terms
    have hx3 : X.ownsRow B 3 1 (.slice la' ln lc') lv.length (lv.map (Value.int .i64)) := hX.new.levels
    rw [hlen.1] at hx1
    rw [hlen.2.2] at hx3
    have := reduce_any ta' na' la' pa' tc' nc' lc' pc' ts ns lv n L R ra' rc' V st X tn nn ln hlen hg' (owns_nil hx1) (owns_nil hx3) rV hV F G hM
    rw [← hec, ← hC] at this
    rw [ht1, ht2, ht3, ht4, hcs]
    exact this
  have HSI : Hid (∀ (X : World) (B : Nat) (ta' na' la' pa' : Option Addr) (tc' nc' lc' pc' : Nat), InAt X B ts ns lv st n L R V tn nn ln ta' na' la' pa' tc' nc' lc' pc' → w.grownBy X none → Calls Try.prog 14 #[.agg #[.slice ta' tn tc', .slice na' nn nc', .slice la' ln lc', .int .i64 st, .slice pa' n pc'], .agg #[.slice ta tn tc, .slice na nn nc, .slice la ln lc, .int .i64 st, .slice pa n pc]] X fun e w' => e = .returned (.bool true) ∧ X.grownBy w' none) := fun X B ta' na' la' pa' tc' nc' lc' pc' hX hg => by
    obtain ⟨ra', rc', hg'⟩ := hX.gat
    have := rsame_any (st := st) (st' := st) hg' (hG.kept hg) true ⟨fun _ => ⟨rfl, rfl, rfl, rfl, rfl, fun i hi => ⟨rfl, rfl, rfl⟩⟩, fun _ => rfl⟩
    rwa [hlen.1, hlen.2.1, hlen.2.2] at this
  have HSM : Hid (∀ (X : World) (B B' : Nat) (ta na la pa ta' na' la' pa' : Option Addr) (tc nc lc pc tc' nc' lc' pc' : Nat), CGr C t1 t2 t3 t4 X B ta na la pa tc nc lc pc → CGr C t1 t2 t3 t4 X B' ta' na' la' pa' tc' nc' lc' pc' → Calls Try.prog 14 #[.agg #[.slice ta t1 tc, .slice na t2 nc, .slice la t3 lc, .int .i64 cs, .slice pa t4 pc], .agg #[.slice ta' t1 tc', .slice na' t2 nc', .slice la' t3 lc', .int .i64 cs, .slice pa' t4 pc']] X fun e w' => e = .returned (.bool true) ∧ X.grownBy w' none) := fun X B B' ta na la pa ta' na' la' pa' tc nc lc pc tc' nc' lc' pc' hX hX' => by
    rw [ht1, ht2, ht3, ht4] at hX hX'
    obtain ⟨r1, r2, g1⟩ := GramNew.gat hX hb.t hb.s hb.l hb.p hb.r
    obtain ⟨r3, r4, g2⟩ := GramNew.gat hX' hb.t hb.s hb.l hb.p hb.r
    rw [ht1, ht2, ht3, ht4]
    exact rsame_any (st := cs) (st' := cs) g1 g2 true ⟨fun _ => ⟨rfl, rfl, rfl, rfl, rfl, fun i hi => ⟨rfl, rfl, rfl⟩⟩, fun _ => rfl⟩
  have HCL : Hid (∀ (X : World) (B : Nat) (ta na la pa : Option Addr) (tc nc lc pc : Nat), CGr C t1 t2 t3 t4 X B ta na la pa tc nc lc pc → ec = 0 → Calls Try.prog 18 #[.agg #[.slice ta t1 tc, .slice na t2 nc, .slice la t3 lc, .int .i64 cs, .slice pa t4 pc]] X fun e w' => e = .returned (.bool true) ∧ X.grownBy w' none) := fun X B ta na la pa tc nc lc pc hX he => by
    rw [ht1, ht2, ht3, ht4] at hX
    obtain ⟨r1, r2, g1⟩ := GramNew.gat hX hb.t hb.s hb.l hb.p hb.r
    rw [ht1, ht2, ht3, ht4, hcs]
    exact rclosed_any ta na la pa tc nc lc pc C.start C.terms C.nons C.levels C.prods.length _ _ r1 r2 _ X g1 (HCL0 he).2.1 (HCL0 he).2.2 true ⟨fun _ => (HCL0 he).1, fun _ => rfl⟩
  have HSP : Hid (∀ (X Y : World) (B : Nat) (ta na la pa : Option Addr) (tc nc lc pc : Nat), CGr C t1 t2 t3 t4 X B ta na la pa tc nc lc pc → X.grownBy Y none → Calls Try.prog 19 #[.agg #[.slice ta t1 tc, .slice na t2 nc, .slice la t3 lc, .int .i64 cs, .slice pa t4 pc]] Y fun e w' => e = .returned (.tuple #[]) ∧ Outside B X.heap.size Y w') := fun X Y B ta na la pa tc nc lc pc hX hg => by
    rw [ht1, ht2, ht3, ht4] at hX
    obtain ⟨r1, r2, s1⟩ := GramNew.sp hX
    rw [ht1, ht2, ht3, ht4]
    exact spoil_any ta na la pa _ _ _ _ tc nc lc pc B X.heap.size cs r1 _ r2 Y (s1.kept hg) hg.size hb.t hb.s hb.l hb.p hb.r
  have HSN : Hid (∀ (X Y : World) (B : Nat) (ta' na' la' pa' : Option Addr) (tc' nc' lc' pc' : Nat), InAt X B ts ns lv st n L R V tn nn ln ta' na' la' pa' tc' nc' lc' pc' → X.grownBy Y none → Calls Try.prog 19 #[.agg #[.slice ta' tn tc', .slice na' nn nc', .slice la' ln lc', .int .i64 st, .slice pa' n pc']] Y fun e w' => e = .returned (.tuple #[]) ∧ Outside B X.heap.size Y w') := fun X Y B ta' na' la' pa' tc' nc' lc' pc' hX hg => by
    have hN : GramNew X B (grOf ts ns lv st n L R V) (.slice ta' ts.length tc') (.slice na' ns.length nc') (.slice la' lv.length lc') (.slice pa' (grOf ts ns lv st n L R V).prods.length pc') := by
      have := hX.new
      rw [grOf_len, hlen.1, hlen.2.1, hlen.2.2]; exact this
    obtain ⟨r1, r2, s1⟩ := GramNew.sp hN
    have := spoil_any ta' na' la' pa' _ _ _ _ tc' nc' lc' pc' B X.heap.size st r1 _ r2 Y (s1.kept hg) hg.size hG.tlen hG.nlen hG.llen (by rw [grOf_len]; exact hG.plen) (fun i hi => by
      rw [grOf_len] at hi
      rw [grOf_at _ _ _ _ _ _ _ _ hi]; exact hR i hi)
    have e1 : (grOf ts ns lv st n L R V).terms.length = tn := hlen.1
    have e2 : (grOf ts ns lv st n L R V).nons.length = nn := hlen.2.1
    have e3 : (grOf ts ns lv st n L R V).levels.length = ln := hlen.2.2
    rw [grOf_len, e1, e2, e3] at this
    exact this
  have HX0 : Hid (PhAt w (w.alloc (.cells #[.slice ta tn tc, .slice na nn nc, .slice la ln lc, .int .i64 st, .slice pa n pc] 27)) w.heap.size #[.slice ta tn tc, .slice na nn nc, .slice la ln lc, .int .i64 st, .slice pa n pc]) := ⟨World.grownBy_alloc _ _ none, heap_alloc_last w _⟩
  clear hlen hG hnt hnl h1 h2 h4 hts hns hV hM hec hC ht1 ht2 ht3 ht4 hcs HCL0 hb hll hR
  go_enter Try.func4, Try.ntmps4
  go_wp2_with fail
  refine Calls.mono (HCP.out _ HX0.out.grown) ?_
  rintro e w1 ⟨ta', na', la', pa', tc', nc', lc', pc', rfl, hI1, hg1⟩
  rw [World.size_alloc] at hI1
  have HX1 : Hid (PhAt w w1 w.heap.size #[.slice ta tn tc, .slice na nn nc, .slice la ln lc, .int .i64 st, .slice pa n pc]) := HX0.out.kept hg1
  obtain ⟨ib, hib⟩ : ∃ ib, ib = w1.heap.size := ⟨_, rfl⟩
  obtain ⟨X1, hX1⟩ : ∃ X1, X1 = w1.alloc (.cells #[.slice ta' tn tc', .slice na' nn nc', .slice la' ln lc', .int .i64 st, .slice pa' n pc'] 27) := ⟨_, rfl⟩
  have hga : w1.grownBy X1 none := by rw [hX1]; exact World.grownBy_alloc _ _ none
  have HPX : Hid (PhAt w X1 w.heap.size #[.slice ta tn tc, .slice na nn nc, .slice la ln lc, .int .i64 st, .slice pa n pc]) := HX1.out.kept hga
  have HPI : Hid (PhAt w X1 ib #[.slice ta' tn tc', .slice na' nn nc', .slice la' ln lc', .int .i64 st, .slice pa' n pc']) := ⟨grown_trans HX1.out.grown hga, by rw [hX1, hib]; exact heap_alloc_last w1 _⟩
  have HGI : Hid (InAt w1 (w.heap.size + 1) ts ns lv st n L R V tn nn ln ta' na' la' pa' tc' nc' lc' pc') := hI1
  have HGA : Hid (w1.grownBy X1 none) := hga
  have HXE := show Hid _ from hX1
  obtain ⟨k0, k1, k2, k3, k4⟩ := HPX.out.cells
  obtain ⟨j0, j1, j2, j3, j4⟩ := HPI.out.cells
  rw [hX1] at j0 j1 j2 j3 j4 k0 k1 k2 k3 k4
  rw [hib] at j0 j1 j2 j3 j4
  have HIB : Hid (ib = w1.heap.size) := hib
  clear hI1 hg1 HX0 HCP hga hX1 HX1 hib
  go_wp2_with fail
  rw [← HXE.out, ← HIB.out]
  refine Calls.mono (HRE.out X1 _ _ _ _ _ _ _ _ _ (HGI.out.kept HGA.out)) ?_
  rintro e w2 ⟨ca, cb, cc, cd, c1, c2, c3, c4, rfl, hC2', hg2⟩
  have HC2 : Hid (CGr C t1 t2 t3 t4 w2 X1.heap.size ca cb cc cd c1 c2 c3 c4) := hC2'
  have HG2 : Hid (X1.grownBy w2 none) := hg2
  clear hC2' hg2 k0 k1 k2 k3 k4 j0 j1 j2 j3 j4 HXE
  obtain ⟨kc, hkc⟩ : ∃ kc, kc = w2.heap.size := ⟨_, rfl⟩
  obtain ⟨X2, hX2⟩ : ∃ X2, X2 = w2.alloc (.cells #[.slice ca t1 c1, .slice cb t2 c2, .slice cc t3 c3, .int .i64 cs, .slice cd t4 c4] 27) := ⟨_, rfl⟩
  have hgb : w2.grownBy X2 none := by rw [hX2]; exact World.grownBy_alloc _ _ none
  have HPX2 : Hid (PhAt w X2 w.heap.size #[.slice ta tn tc, .slice na nn nc, .slice la ln lc, .int .i64 st, .slice pa n pc]) := (HPX.out.kept HG2.out).kept hgb
  have HPC : Hid (PhAt w X2 kc #[.slice ca t1 c1, .slice cb t2 c2, .slice cc t3 c3, .int .i64 cs, .slice cd t4 c4]) := ⟨HPX2.out.grown, by rw [hX2, hkc]; exact heap_alloc_last w2 _⟩
  have HX12 : Hid (X1.grownBy X2 none) := grown_trans HG2.out hgb
  have HGB : Hid (w2.grownBy X2 none) := hgb
  have HXE := show Hid _ from hX2
  obtain ⟨k0, k1, k2, k3, k4⟩ := HPX2.out.cells
  rw [hX2] at k0 k1 k2 k3 k4
  have HKC : Hid (kc = w2.heap.size) := hkc
  clear hgb hX2 hkc
  go_wp2_with fail
  rw [← HXE.out, ← HKC.out]
  refine Calls.mono (HRR.out X2 HPX2.out.grown) ?_
  rintro e w3 ⟨ra1, ra2, ra3, ra4, r1, r2, r3, r4, rfl, hR3', hg3⟩
  have HR3 : Hid (CGr C t1 t2 t3 t4 w3 X2.heap.size ra1 ra2 ra3 ra4 r1 r2 r3 r4) := hR3'
  have HG3 : Hid (X2.grownBy w3 none) := hg3
  clear hR3' hg3 k0 k1 k2 k3 k4 HXE
  obtain ⟨kr, hkr⟩ : ∃ kr, kr = w3.heap.size := ⟨_, rfl⟩
  obtain ⟨X3, hX3⟩ : ∃ X3, X3 = w3.alloc (.cells #[.slice ra1 t1 r1, .slice ra2 t2 r2, .slice ra3 t3 r3, .int .i64 cs, .slice ra4 t4 r4] 27) := ⟨_, rfl⟩
  have hgb : w3.grownBy X3 none := by rw [hX3]; exact World.grownBy_alloc _ _ none
  have HX23 : Hid (X2.grownBy X3 none) := grown_trans HG3.out hgb
  have HPC3 : Hid (PhAt w X3 kc #[.slice ca t1 c1, .slice cb t2 c2, .slice cc t3 c3, .int .i64 cs, .slice cd t4 c4]) := HPC.out.kept HX23.out
  have HPR : Hid (PhAt w X3 kr #[.slice ra1 t1 r1, .slice ra2 t2 r2, .slice ra3 t3 r3, .int .i64 cs, .slice ra4 t4 r4]) := ⟨HPC3.out.grown, by rw [hX3, hkr]; exact heap_alloc_last w3 _⟩
  have HR4 : Hid (CGr C t1 t2 t3 t4 X3 X2.heap.size ra1 ra2 ra3 ra4 r1 r2 r3 r4) := HR3.out.kept hgb
  have HC4 : Hid (CGr C t1 t2 t3 t4 X3 X1.heap.size ca cb cc cd c1 c2 c3 c4) := HC2.out.kept (grown_trans HGB.out HX23.out)
  have HKS : Hid (w2.heap.size ≤ X2.heap.size ∧ X2.heap.size ≤ kr) := ⟨HGB.out.size, by rw [hkr]; exact HG3.out.size⟩
  have HXE := show Hid _ from hX3
  obtain ⟨k0, k1, k2, k3, k4⟩ := HPC3.out.cells
  obtain ⟨j0, j1, j2, j3, j4⟩ := HPR.out.cells
  rw [hX3] at j0 j1 j2 j3 j4 k0 k1 k2 k3 k4
  rw [hkr] at j0 j1 j2 j3 j4
  have HKR : Hid (kr = w3.heap.size) := hkr
  clear hgb hX3 hkr HPC HR3 HG3
  go_wp2_with fail
  rw [← HXE.out, ← HKR.out]
  refine Calls.mono (HSM.out X3 _ _ _ _ _ _ _ _ _ _ _ _ _ _ _ _ _ _ HC4.out HR4.out) ?_
  rintro e w4 ⟨rfl, hg4⟩
  have HG4 : Hid (X3.grownBy w4 none) := hg4
  clear hg4 k0 k1 k2 k3 k4 j0 j1 j2 j3 j4 HXE HKR
  obtain ⟨k0, k1, k2, k3, k4⟩ := (HPC3.out.kept HG4.out).cells
  by_cases h0 : ec = 0
  case' pos =>
    have hd : (ec == 0) = true := beq_iff_eq.2 h0
    have HE0 : Hid (ec = 0) := h0
    clear h0
    go_wp2_with fail
    refine Calls.mono (HCL.out w4 _ _ _ _ _ _ _ _ _ (HC4.out.kept HG4.out) HE0.out) ?_
    rintro e w5 ⟨rfl, hg5⟩
    have HG5 : Hid (X3.grownBy w5 none) := grown_trans HG4.out hg5
    clear hg5 k0 k1 k2 k3 k4 HG4 HE0
  case' neg =>
    have hd : (ec == 0) = false := beq_eq_false_iff_ne.2 h0
    have HG5 : Hid (X3.grownBy w4 none) := HG4.out
    clear h0 k0 k1 k2 k3 k4 HG4
    generalize w4 = w5 at *
  all_goals
    obtain ⟨k0, k1, k2, k3, k4⟩ := (HPC3.out.kept HG5.out).cells
    go_wp2_with fail
    refine Calls.mono (HSP.out w2 w5 _ _ _ _ _ _ _ _ _ HC2.out (grown_trans HGB.out (grown_trans HX23.out HG5.out))) ?_
    rintro e w6 ⟨rfl, hO6⟩
    have HX16 : Hid (X1.grownBy w6 none) := hO6.grown (grown_trans HX12.out (grown_trans HX23.out HG5.out)) (Nat.le_refl _)
    have HR6 : Hid (CGr C t1 t2 t3 t4 w6 X2.heap.size ra1 ra2 ra3 ra4 r1 r2 r3 r4) := (HR4.out.kept HG5.out).out hO6 HKS.out.1
    have HPR6 : Hid (PhAt w w6 kr #[.slice ra1 t1 r1, .slice ra2 t2 r2, .slice ra3 t3 r3, .int .i64 cs, .slice ra4 t4 r4]) := ⟨(HPX.out.kept HX16.out).grown, box_out (HPR.out.kept HG5.out).box hO6 (.inr (Nat.le_trans HKS.out.1 HKS.out.2))⟩
    clear hO6 k0 k1 k2 k3 k4 HG5 HR4 HPR HC4 HPC3 HC2
    obtain ⟨k0, k1, k2, k3, k4⟩ := (HPX.out.kept HX16.out).cells
    obtain ⟨j0, j1, j2, j3, j4⟩ := (HPI.out.kept HX16.out).cells
    go_wp2_with fail
    refine Calls.mono (HSI.out w6 _ _ _ _ _ _ _ _ _ (HGI.out.kept (grown_trans HGA.out HX16.out)) (HPX.out.kept HX16.out).grown) ?_
    rintro e w7 ⟨rfl, hg7⟩
    have HX17 : Hid (X1.grownBy w7 none) := grown_trans HX16.out hg7
    have HR7 : Hid (CGr C t1 t2 t3 t4 w7 X2.heap.size ra1 ra2 ra3 ra4 r1 r2 r3 r4) := HR6.out.kept hg7
    have HPR7 : Hid (PhAt w w7 kr #[.slice ra1 t1 r1, .slice ra2 t2 r2, .slice ra3 t3 r3, .int .i64 cs, .slice ra4 t4 r4]) := HPR6.out.kept hg7
    clear hg7 k0 k1 k2 k3 k4 j0 j1 j2 j3 j4 HR6 HPR6 HX16
    obtain ⟨j0, j1, j2, j3, j4⟩ := (HPI.out.kept HX17.out).cells
    go_wp2_with fail
    refine Calls.mono (HRE.out w7 _ _ _ _ _ _ _ _ _ (HGI.out.kept (grown_trans HGA.out HX17.out))) ?_
    rintro e w8 ⟨da, db, dc, dd, d1, d2, d3, d4, rfl, hD8', hg8⟩
    have hD8 : CGr C t1 t2 t3 t4 w8 w7.heap.size da db dc dd d1 d2 d3 d4 := hD8'
    obtain ⟨kd, hkd⟩ : ∃ kd, kd = w8.heap.size := ⟨_, rfl⟩
    obtain ⟨X8, hX8⟩ : ∃ X8, X8 = w8.alloc (.cells #[.slice da t1 d1, .slice db t2 d2, .slice dc t3 d3, .int .i64 cs, .slice dd t4 d4] 27) := ⟨_, rfl⟩
    have hgb : w8.grownBy X8 none := by rw [hX8]; exact World.grownBy_alloc _ _ none
    have HX18 : Hid (X1.grownBy X8 none) := grown_trans HX17.out (grown_trans hg8 hgb)
    have HPR8 : Hid (PhAt w X8 kr #[.slice ra1 t1 r1, .slice ra2 t2 r2, .slice ra3 t3 r3, .int .i64 cs, .slice ra4 t4 r4]) := HPR7.out.kept (grown_trans hg8 hgb)
    have HPD8 : Hid (PhAt w X8 kd #[.slice da t1 d1, .slice db t2 d2, .slice dc t3 d3, .int .i64 cs, .slice dd t4 d4]) := ⟨HPR8.out.grown, by rw [hX8, hkd]; exact heap_alloc_last w8 _⟩
    have HR8 : Hid (CGr C t1 t2 t3 t4 X8 X2.heap.size ra1 ra2 ra3 ra4 r1 r2 r3 r4) := HR7.out.kept (grown_trans hg8 hgb)
    have HD8 : Hid (CGr C t1 t2 t3 t4 X8 w7.heap.size da db dc dd d1 d2 d3 d4) := hD8.kept hgb
    have HKS8 : Hid (w1.heap.size ≤ X2.heap.size ∧ w1.heap.size ≤ w7.heap.size ∧ w1.heap.size ≤ kd ∧ w1.heap.size ≤ kr) := by
      have a1 := (grown_trans HGA.out HX12.out).size
      have a2 := (grown_trans HGA.out HX17.out).size
      have a3 := hg8.size
      have a4 := HKS.out.2
      exact ⟨a1, a2, by omega, by omega⟩
    have HXE := show Hid _ from hX8
    have HKD : Hid (kd = w8.heap.size) := hkd
    clear j0 j1 j2 j3 j4 HR7 HPR7 HX17 hD8 hD8' hg8
    obtain ⟨j0, j1, j2, j3, j4⟩ := (HPI.out.kept HX18.out).cells
    rw [hX8] at j0 j1 j2 j3 j4
    clear hgb hX8 hkd
    go_wp2_with fail
    rw [← HXE.out, ← HKD.out]
    refine Calls.mono (HSN.out w1 X8 _ _ _ _ _ _ _ _ _ HGI.out (grown_trans HGA.out HX18.out)) ?_
    rintro e w9 ⟨rfl, hO9⟩
    have HW9 : Hid (w.grownBy w9 none) := hO9.grown HPR8.out.grown (Nat.le_succ _)
    have HD9 : Hid (CGr C t1 t2 t3 t4 w9 w7.heap.size da db dc dd d1 d2 d3 d4) := HD8.out.out hO9 HKS8.out.2.1
    have HR9 : Hid (CGr C t1 t2 t3 t4 w9 X2.heap.size ra1 ra2 ra3 ra4 r1 r2 r3 r4) := HR8.out.out hO9 HKS8.out.1
    have HPR9 : Hid (PhAt w w9 kr #[.slice ra1 t1 r1, .slice ra2 t2 r2, .slice ra3 t3 r3, .int .i64 cs, .slice ra4 t4 r4]) := ⟨HW9.out, box_out HPR8.out.box hO9 (.inr HKS8.out.2.2.2)⟩
    have HPD9 : Hid (PhAt w w9 kd #[.slice da t1 d1, .slice db t2 d2, .slice dc t3 d3, .int .i64 cs, .slice dd t4 d4]) := ⟨HW9.out, box_out HPD8.out.box hO9 (.inr HKS8.out.2.2.1)⟩
    clear hO9 j0 j1 j2 j3 j4 HXE HKD HR8 HPR8 HPD8 HD8
    obtain ⟨j0, j1, j2, j3, j4⟩ := HPD9.out.cells
    obtain ⟨k0, k1, k2, k3, k4⟩ := HPR9.out.cells
    go_wp2_with fail
    refine Calls.mono (HSM.out w9 _ _ _ _ _ _ _ _ _ _ _ _ _ _ _ _ _ _ HD9.out HR9.out) ?_
    rintro e w10 ⟨rfl, hg10⟩
    have HW10 : Hid (w.grownBy w10 none) := grown_trans HW9.out hg10
    clear hg10 j0 j1 j2 j3 j4 k0 k1 k2 k3 k4
    go_wp2_with fail
    refine Calls.mono (eawake_any w10) ?_
    rintro e w11 ⟨rfl, hg11⟩
    have HW11 : Hid (w.grownBy w11 none) := grown_trans HW10.out hg11
    clear hg11
    go_wp2_with fail
    go_ret
    exact ⟨rfl, HW11.out⟩

end Go.Proofs.Ytljlkmiaemkokaa

/-
  ReachMarks, walked.
-/
namespace Go.Proofs.Ytljlkmiaemkokaa
open Go.RowKit Go.Maps Go.Shelf

attribute [local go_sem] Oper.semAt_some

/-- A told row lies behind a world. -/
theorem BRow.cases {w y : World} {a : Option Addr} {m : Nat} {f : Nat → Bool} (h : BRow w y a m f) : (m = 0) ∨ ∃ k, a = some ⟨k, 0, none⟩ ∧ w.heap.size ≤ k ∧ BoolAt y k m f := by
  rcases h with ⟨_, h⟩ | h
  · exact .inl h
  · exact .inr h
/-- A row of marks that may be written, in a block of its own from lo on, below hi. -/
def BOwn (y : World) (a : Option Addr) (m lo hi : Nat) : Prop := m = 0 ∨ ∃ k f, a = some ⟨k, 0, none⟩ ∧ lo ≤ k ∧ k < hi ∧ BoolAt y k m f
theorem BRow.own {w y z : World} {a : Option Addr} {m lo : Nat} {f : Nat → Bool} (h : BRow w y a m f) (hl : lo ≤ w.heap.size) (hg : y.grownBy z none) : BOwn z a m lo y.heap.size := by
  rcases h with ⟨_, h⟩ | ⟨k, e, h1, h2⟩
  · exact .inl h
  · exact .inr ⟨k, f, e, by omega, h2.lt, h2.kept hg⟩
/-- A row of marks from lo on. -/
def BFrom (y : World) (a : Option Addr) (m lo : Nat) (f : Nat → Bool) : Prop := m = 0 ∨ ∃ k, a = some ⟨k, 0, none⟩ ∧ lo ≤ k ∧ BoolAt y k m f
theorem BRow.from {w y : World} {a : Option Addr} {m lo : Nat} {f : Nat → Bool} (h : BRow w y a m f) (hl : lo ≤ w.heap.size) : BFrom y a m lo f := by
  rcases h with ⟨_, h⟩ | ⟨k, e, h1, h2⟩
  · exact .inl h
  · exact .inr ⟨k, e, by omega, h2⟩
section
variable {y z : World} {a : Option Addr} {m lo hi : Nat} {f : Nat → Bool}
theorem BFrom.kept (h : BFrom y a m lo f) (hg : y.grownBy z none) : BFrom z a m lo f := by
  rcases h with h | ⟨k, e, h1, h2⟩
  · exact .inl h
  · exact .inr ⟨k, e, h1, h2.kept hg⟩
theorem BFrom.at {b : Nat} (h : BFrom y a m lo f) (hg : y.grownBy z (some b)) (hb : b < lo) : BFrom z a m lo f := by
  rcases h with h | ⟨k, e, h1, h2⟩
  · exact .inl h
  · exact .inr ⟨k, e, h1, h2.at hg (by omega)⟩
theorem BFrom.bat (h : BFrom y a m lo f) : BAt y a m f := by
  rcases h with h | ⟨k, e, h1, h2⟩
  · exact .inl h
  · exact .inr ⟨k, e, h2⟩
theorem BOwn.kept (h : BOwn y a m lo hi) (hg : y.grownBy z none) : BOwn z a m lo hi := by
  rcases h with h | ⟨k, f, e, h1, h2, h3⟩
  · exact .inl h
  · exact .inr ⟨k, f, e, h1, h2, h3.kept hg⟩
theorem BOwn.at {b : Nat} (h : BOwn y a m lo hi) (hg : y.grownBy z (some b)) (hb : b < lo ∨ hi ≤ b) : BOwn z a m lo hi := by
  rcases h with h | ⟨k, f, e, h1, h2, h3⟩
  · exact .inl h
  · exact .inr ⟨k, f, e, h1, h2, h3.at hg (by omega)⟩
end

/-- The memory of ReachMarks, once the four have told. -/
structure ML (X1 y : World) (a b x z : Option Addr) (m l1 l2 : Nat) (F G : Nat → Bool) : Prop where
  grown : X1.grownBy y none
  pa : BOwn y a m X1.heap.size l1
  pb : BOwn y b m l1 l2
  px : BFrom y x m l2 F
  pz : BFrom y z m l2 G
  h1 : X1.heap.size ≤ l1
  h2 : l1 ≤ l2
section
variable {X1 y v : World} {a b x z : Option Addr} {m l1 l2 : Nat} {F G : Nat → Bool}
theorem ML.kept (h : ML X1 y a b x z m l1 l2 F G) (hg : y.grownBy v none) : ML X1 v a b x z m l1 l2 F G := ⟨grown_trans h.grown hg, h.pa.kept hg, h.pb.kept hg, h.px.kept hg, h.pz.kept hg, h.h1, h.h2⟩
theorem ML.setA {k i : Nat} {c : Bool} {f : Nat → Bool} (h : ML X1 y (some ⟨k, 0, none⟩) b x z m l1 l2 F G) (hk : X1.heap.size ≤ k) (hk2 : k < l1) (hB : BoolAt y k m f) : ML X1 (y.setCell ⟨k, i, none⟩ (.bool c)) (some ⟨k, 0, none⟩) b x z m l1 l2 F G := by
  have hg := grown_setCell (w := y) k i (.bool c)
  have h2 := h.h2
  exact ⟨grown_at h.grown hg hk, .inr ⟨k, _, rfl, hk, hk2, hB.set i c⟩, h.pb.at hg (.inl hk2), h.px.at hg (by omega), h.pz.at hg (by omega), h.h1, h.h2⟩
theorem ML.setB {k i : Nat} {c : Bool} {f : Nat → Bool} (h : ML X1 y a (some ⟨k, 0, none⟩) x z m l1 l2 F G) (hk : l1 ≤ k) (hk2 : k < l2) (hB : BoolAt y k m f) : ML X1 (y.setCell ⟨k, i, none⟩ (.bool c)) a (some ⟨k, 0, none⟩) x z m l1 l2 F G := by
  have hg := grown_setCell (w := y) k i (.bool c)
  have h1 := h.h1
  exact ⟨grown_at h.grown hg (by omega), h.pa.at hg (.inr hk), .inr ⟨k, _, rfl, hk, hk2, hB.set i c⟩, h.px.at hg hk2, h.pz.at hg hk2, h.h1, h.h2⟩
end

set_option maxRecDepth 100000 in
set_option maxHeartbeats 1000000 in
theorem emarks_core (ta na la pa : Option Addr) (tc nc lc pc : Nat) (ts : List (ByteArray × Int)) (ns : List ByteArray) (lv : List Int) (n : Nat) (L : Nat → Int) (R : Nat → List Int) (ra : Nat → Option Addr) (rc : Nat → Nat) (V : Nat → Int) (st : Int) (w : World) (tn nn ln : Nat) (hlen : ts.length = tn ∧ ns.length = nn ∧ lv.length = ln) (hG : GAt w ta na la pa tc nc lc pc ts ns lv n L R ra rc V) (hnt : ta = none → tn = 0 ∧ tc = 0) (hnl : la = none → ln = 0 ∧ lc = 0) (h1 : tn * 24 ≤ 140737488355328) (h2 : nn * 16 ≤ 140737488355328) (h4 : n * 40 ≤ 140737488355328) (hts : ∀ t ∈ ts, t.1.size ≤ 140737488355328) (hns : ∀ s ∈ ns, s.size ≤ 140737488355328) :
    Calls Try.prog 3 #[.agg #[.slice ta tn tc, .slice na nn nc, .slice la ln lc, .int .i64 st, .slice pa n pc]] w fun e w' => e = .returned (.bool true) ∧ w.grownBy w' none := by
  obtain ⟨rV, hV⟩ := boolOf (validOK ts ns lv st n L R V)
  obtain ⟨rC, hC⟩ := boolOf (closedOK ts ns lv st n L R V)
  obtain ⟨F, G, hM⟩ := marks_of hlen hV hC
  obtain ⟨ec, hec⟩ : ∃ ec : Int, ec = if (rV || rC) = true then 0 else 1 := ⟨_, rfl⟩
  obtain ⟨m, hm⟩ : ∃ m : Nat, m = if (rV || rC) = true then nn else 0 := ⟨_, rfl⟩
  have hm1 : m ≤ 1000 := by
    rw [hm]
    by_cases h : (rV || rC) = true
    · rw [if_pos h]; have := (hM h).may.nmax; omega
    · rw [if_neg h]; omega
  have HCP : Hid (∀ X, w.grownBy X none → Calls Try.prog 8 #[.agg #[.slice ta tn tc, .slice na nn nc, .slice la ln lc, .int .i64 st, .slice pa n pc]] X fun e w' => ∃ ta' na' la' pa' tc' nc' lc' pc' ra' rc', e = .returned (.agg #[.slice ta' tn tc', .slice na' nn nc', .slice la' ln lc', .int .i64 st, .slice pa' n pc']) ∧ GAt w' ta' na' la' pa' tc' nc' lc' pc' ts ns lv n L R ra' rc' V ∧ (∀ i, i < n → (R i).length ≤ rc' i) ∧ (ta' = none → tn = 0 ∧ tc' = 0) ∧ (la' = none → ln = 0 ∧ lc' = 0) ∧ X.grownBy w' none) := fun X hX => rcopy_any ta na la pa tn nn ln n tc nc lc pc st ts ns lv L R ra rc V X hlen (hG.kept hX) hnt hnl h1 h2 h4
  have HRP : Hid (∀ X, w.grownBy X none → Calls Try.prog 11 #[.agg #[.slice ta tn tc, .slice na nn nc, .slice la ln lc, .int .i64 st, .slice pa n pc]] X fun e y => MTold ec m F X e y) := fun X hX => by
    rw [hec, hm]; exact rproductive_any ta na la pa tc nc lc pc ts ns lv n L R ra rc V st X tn nn ln hlen (hG.kept hX) hts hns rV rC hV hC rC F G hM
  have HRU : Hid (∀ X, w.grownBy X none → Calls Try.prog 12 #[.agg #[.slice ta tn tc, .slice na nn nc, .slice la ln lc, .int .i64 st, .slice pa n pc]] X fun e y => MTold ec m G X e y) := fun X hX => by
    rw [hec, hm]; exact ruseful_any ta na la pa tc nc lc pc ts ns lv n L R ra rc V st X tn nn ln hlen (hG.kept hX) hts hns rV rC hV hC rC F G hM (closed_name hV hC)
  have HIN : Hid (∀ (X : World) (ta' na' la' pa' : Option Addr) (tc' nc' lc' pc' : Nat) (ra' : Nat → Option Addr) (rc' : Nat → Nat), GAt X ta' na' la' pa' tc' nc' lc' pc' ts ns lv n L R ra' rc' V → (Calls Try.prog 9 #[.agg #[.slice ta' tn tc', .slice na' nn nc', .slice la' ln lc', .int .i64 st, .slice pa' n pc']] X fun e y => MTold ec m F X e y) ∧ (Calls Try.prog 10 #[.agg #[.slice ta' tn tc', .slice na' nn nc', .slice la' ln lc', .int .i64 st, .slice pa' n pc']] X fun e y => MTold ec m G X e y) ∧ (w.grownBy X none → Calls Try.prog 14 #[.agg #[.slice ta' tn tc', .slice na' nn nc', .slice la' ln lc', .int .i64 st, .slice pa' n pc'], .agg #[.slice ta tn tc, .slice na nn nc, .slice la ln lc, .int .i64 st, .slice pa n pc]] X fun e w' => e = .returned (.bool true) ∧ X.grownBy w' none)) := fun X ta' na' la' pa' tc' nc' lc' pc' ra' rc' hX => by
    rw [hec, hm]
    refine ⟨productive_any ta' na' la' pa' tc' nc' lc' pc' ts ns lv n L R ra' rc' V st X tn nn ln hlen hX rV rC hV hC F G hM, useful_any ta' na' la' pa' tc' nc' lc' pc' ts ns lv n L R ra' rc' V st X tn nn ln hlen hX rV rC hV hC F G hM, fun hg => ?_⟩
    have := rsame_any (st := st) (st' := st) hX (hG.kept hg) true ⟨fun _ => ⟨rfl, rfl, rfl, rfl, rfl, fun i hi => ⟨rfl, rfl, rfl⟩⟩, fun _ => rfl⟩
    rwa [hlen.1, hlen.2.1, hlen.2.2] at this
  have HX0 : Hid (PhAt w (w.alloc (.cells #[.slice ta tn tc, .slice na nn nc, .slice la ln lc, .int .i64 st, .slice pa n pc] 27)) w.heap.size #[.slice ta tn tc, .slice na nn nc, .slice la ln lc, .int .i64 st, .slice pa n pc]) := ⟨World.grownBy_alloc _ _ none, heap_alloc_last w _⟩
  clear hlen hG hnt hnl h1 h2 h4 hts hns hV hC hM hec hm
  go_enter Try.func3, Try.ntmps3
  go_wp2_with fail
  refine Calls.mono (HCP.out _ HX0.out.grown) ?_
  rintro e w1 ⟨ta', na', la', pa', tc', nc', lc', pc', ra', rc', rfl, hG1, _, _, _, hg1⟩
  have HG1 : Hid (GAt w1 ta' na' la' pa' tc' nc' lc' pc' ts ns lv n L R ra' rc' V) := hG1
  have HX1 : Hid (PhAt w w1 w.heap.size #[.slice ta tn tc, .slice na nn nc, .slice la ln lc, .int .i64 st, .slice pa n pc]) := HX0.out.kept hg1
  obtain ⟨ib, hib⟩ : ∃ ib, ib = w1.heap.size := ⟨_, rfl⟩
  obtain ⟨X1, hX1⟩ : ∃ X1, X1 = w1.alloc (.cells #[.slice ta' tn tc', .slice na' nn nc', .slice la' ln lc', .int .i64 st, .slice pa' n pc'] 27) := ⟨_, rfl⟩
  have hga : w1.grownBy X1 none := by rw [hX1]; exact World.grownBy_alloc _ _ none
  have HPX : Hid (PhAt w X1 w.heap.size #[.slice ta tn tc, .slice na nn nc, .slice la ln lc, .int .i64 st, .slice pa n pc]) := HX1.out.kept hga
  have HPI : Hid (PhAt w X1 ib #[.slice ta' tn tc', .slice na' nn nc', .slice la' ln lc', .int .i64 st, .slice pa' n pc']) := ⟨grown_trans HX1.out.grown hga, by rw [hX1, hib]; exact heap_alloc_last w1 _⟩
  have HGI : Hid (GAt X1 ta' na' la' pa' tc' nc' lc' pc' ts ns lv n L R ra' rc' V) := hG1.kept hga
  have HXE := show Hid _ from hX1
  obtain ⟨k0, k1, k2, k3, k4⟩ := HPX.out.cells
  obtain ⟨j0, j1, j2, j3, j4⟩ := HPI.out.cells
  rw [hX1] at j0 j1 j2 j3 j4 k0 k1 k2 k3 k4
  rw [hib] at j0 j1 j2 j3 j4
  have HIB : Hid (ib = w1.heap.size) := hib
  clear hG1 hg1 HX0 HCP hga hX1 HG1 HX1 hib
  go_wp2_with fail
  rw [← HXE.out, ← HIB.out]
  refine Calls.mono (HIN.out X1 _ _ _ _ _ _ _ _ _ _ HGI.out).1 ?_
  rintro e w2 ⟨a, rfl, hA2, hg2⟩
  have HA2 : Hid (BRow X1 w2 a m F) := hA2
  have HG2 : Hid (X1.grownBy w2 none) := hg2
  clear hA2 hg2 k0 k1 k2 k3 k4 j0 j1 j2 j3 j4 HXE
  obtain ⟨k0, k1, k2, k3, k4⟩ := (HPX.out.kept HG2.out).cells
  obtain ⟨j0, j1, j2, j3, j4⟩ := (HPI.out.kept HG2.out).cells
  go_wp2_with fail
  refine Calls.mono (HIN.out w2 _ _ _ _ _ _ _ _ _ _ (HGI.out.kept HG2.out)).2.1 ?_
  rintro e w3 ⟨b, rfl, hB3, hg3⟩
  have HB3 : Hid (BRow w2 w3 b m G) := hB3
  have HG3 : Hid (w2.grownBy w3 none) := hg3
  have HX3 : Hid (X1.grownBy w3 none) := grown_trans HG2.out hg3
  clear hB3 hg3 k0 k1 k2 k3 k4 j0 j1 j2 j3 j4
  obtain ⟨k0, k1, k2, k3, k4⟩ := (HPX.out.kept HX3.out).cells
  go_wp2_with fail
  refine Calls.mono (HRP.out w3 (HPX.out.kept HX3.out).grown) ?_
  rintro e w4 ⟨x, rfl, hX4, hg4⟩
  have HX4 : Hid (BRow w3 w4 x m F) := hX4
  have HG4 : Hid (w3.grownBy w4 none) := hg4
  have HY4 : Hid (X1.grownBy w4 none) := grown_trans HX3.out hg4
  clear hX4 hg4 k0 k1 k2 k3 k4
  obtain ⟨k0, k1, k2, k3, k4⟩ := (HPX.out.kept HY4.out).cells
  go_wp2_with fail
  refine Calls.mono (HRU.out w4 (HPX.out.kept HY4.out).grown) ?_
  rintro e w5 ⟨z, rfl, hZ5', hg5⟩
  have hZ5 : BRow w4 w5 z m G := hZ5'
  clear hZ5'
  have HML : Hid (ML X1 w5 a b x z m w2.heap.size w3.heap.size F G ∧ BAt w5 a m F ∧ BAt w5 b m G) := by
    have s1 := HG2.out.size
    have s2 := HG3.out.size
    have s3 := HG4.out.size
    have g35 := grown_trans HG4.out hg5
    have g25 := grown_trans HG3.out g35
    exact ⟨⟨grown_trans HY4.out hg5, HA2.out.own (Nat.le_refl _) g25, HB3.out.own (Nat.le_refl _) g35, (HX4.out.from (Nat.le_refl _)).kept hg5, hZ5.from s3, s1, s2⟩, HA2.out.at.kept g25, HB3.out.at.kept g35⟩
  clear hZ5 hg5 k0 k1 k2 k3 k4 HA2 HB3 HX4 HG2 HG3 HG4 HX3 HY4
  go_wp2_with fail
  refine Calls.mono (bools_same a x m F w5 HML.out.2.1 HML.out.1.px.bat hm1) ?_
  rintro e w6 ⟨rfl, hg6⟩
  have HM6 : Hid (ML X1 w6 a b x z m w2.heap.size w3.heap.size F G ∧ BAt w6 b m G) := ⟨HML.out.1.kept hg6, HML.out.2.2.kept hg6⟩
  clear hg6 HML
  go_wp2_with fail
  refine Calls.mono (bools_same b z m G w6 HM6.out.2 HM6.out.1.pz.bat hm1) ?_
  rintro e w7 ⟨rfl, hg7⟩
  have HM7 : Hid (ML X1 w7 a b x z m w2.heap.size w3.heap.size F G) := HM6.out.1.kept hg7
  clear hg7 HM6
  generalize w2.heap.size = l1 at *
  generalize w3.heap.size = l2 at *
  go_wp2_with fail
  go_loopg [12] m (fun gk i wr => ∃ k : Nat, k ≤ m ∧ gk = m - k ∧ i = .int .i64 k ∧ ML X1 wr a b x z m l1 l2 F G)
  case atStart => exact ⟨0, Nat.zero_le _, rfl, rfl, HM7.out⟩
  case round =>
    obtain ⟨k, hk, hgk, rfl, hN⟩ := hrel
    have HGK : Hid (gk = m - k) := hgk
    have HN : Hid (ML X1 wr a b x z m l1 l2 F G) := hN
    clear hgk hN HM7
    by_cases hlt : k < m
    · obtain ⟨ka, fa, rfl, hka1, hka2, hBa⟩ : ∃ k f, a = some ⟨k, 0, none⟩ ∧ X1.heap.size ≤ k ∧ k < l1 ∧ BoolAt wr k m f := by
        rcases HN.out.pa with h | h
        · omega
        · exact h
      have HBA : Hid (BoolAt wr ka m fa) := hBa
      have c0 := hBa.cell k hlt
      have cf := hBa.free k
      obtain ⟨v, hv⟩ : ∃ v, v = fa k := ⟨_, rfl⟩
      rw [← hv] at c0
      have hk0 : (0 : Int) ≤ (k : Int) := by omega
      have hk1 : (k : Int) < (m : Int) := by omega
      have hkd : decide (k < m) = true := decide_eq_true hlt
      clear hBa hv
      go_wp2_with fail
      go_roundg (m - (k + 1))
      case measure => have := HGK.out; omega
      case rel => exact ⟨k + 1, by omega, rfl, by go_num, HN.out.setA hka1 hka2 HBA.out⟩
    · have hkn : m = k := by omega
      subst hkn
      have hkd : decide (m < m) = false := decide_eq_false (by omega)
      clear HGK
      generalize wr = W8 at *
      go_wp2_with fail
      go_loopg [13] m (fun gk i wr => ∃ k : Nat, k ≤ m ∧ gk = m - k ∧ i = .int .i64 k ∧ ML X1 wr a b x z m l1 l2 F G)
      case atStart => exact ⟨0, Nat.zero_le _, rfl, rfl, HN.out⟩
      case round =>
        obtain ⟨k, hk, hgk, rfl, hN⟩ := hrel
        have HGK : Hid (gk = m - k) := hgk
        have HN2 : Hid (ML X1 wr a b x z m l1 l2 F G) := hN
        clear hgk hN HN
        by_cases hlt : k < m
        · obtain ⟨kb, fb, rfl, hkb1, hkb2, hBb⟩ : ∃ k f, b = some ⟨k, 0, none⟩ ∧ l1 ≤ k ∧ k < l2 ∧ BoolAt wr k m f := by
            rcases HN2.out.pb with h | h
            · omega
            · exact h
          have HBB : Hid (BoolAt wr kb m fb) := hBb
          have c0 := hBb.cell k hlt
          have cf := hBb.free k
          obtain ⟨v, hv⟩ : ∃ v, v = fb k := ⟨_, rfl⟩
          rw [← hv] at c0
          have hk0 : (0 : Int) ≤ (k : Int) := by omega
          have hk1 : (k : Int) < (m : Int) := by omega
          have hkd : decide (k < m) = true := decide_eq_true hlt
          clear hBb hv
          go_wp2_with fail
          go_roundg (m - (k + 1))
          case measure => have := HGK.out; omega
          case rel => exact ⟨k + 1, by omega, rfl, by go_num, HN2.out.setB hkb1 hkb2 HBB.out⟩
        · have hkn : m = k := by omega
          subst hkn
          clear HGK
          generalize wr = W9 at *
          obtain ⟨j0, j1, j2, j3, j4⟩ := (HPI.out.kept HN2.out.grown).cells
          go_wp2_with fail
          refine Calls.mono (HIN.out W9 _ _ _ _ _ _ _ _ _ _ (HGI.out.kept HN2.out.grown)).1 ?_
          rintro e w10 ⟨c, rfl, hC10', hg10⟩
          have hC10 : BRow W9 w10 c m F := hC10'
          have HM10 : Hid (ML X1 w10 a b x z m l1 l2 F G ∧ BAt w10 c m F) := ⟨HN2.out.kept hg10, hC10.at⟩
          clear hC10 hC10' hg10 HN2 j0 j1 j2 j3 j4
          obtain ⟨j0, j1, j2, j3, j4⟩ := (HPI.out.kept HM10.out.1.grown).cells
          go_wp2_with fail
          refine Calls.mono (HIN.out w10 _ _ _ _ _ _ _ _ _ _ (HGI.out.kept HM10.out.1.grown)).2.1 ?_
          rintro e w11 ⟨d, rfl, hD11', hg11⟩
          have hD11 : BRow w10 w11 d m G := hD11'
          have HM11 : Hid (ML X1 w11 a b x z m l1 l2 F G ∧ BAt w11 c m F ∧ BAt w11 d m G) := ⟨HM10.out.1.kept hg11, HM10.out.2.kept hg11, hD11.at⟩
          clear hD11 hD11' hg11 HM10 j0 j1 j2 j3 j4
          go_wp2_with fail
          refine Calls.mono (bools_same c x m F w11 HM11.out.2.1 HM11.out.1.px.bat hm1) ?_
          rintro e w12 ⟨rfl, hg12⟩
          have HM12 : Hid (ML X1 w12 a b x z m l1 l2 F G ∧ BAt w12 d m G) := ⟨HM11.out.1.kept hg12, HM11.out.2.2.kept hg12⟩
          clear hg12 HM11
          go_wp2_with fail
          refine Calls.mono (bools_same d z m G w12 HM12.out.2 HM12.out.1.pz.bat hm1) ?_
          rintro e w13 ⟨rfl, hg13⟩
          have HM13 : Hid (ML X1 w13 a b x z m l1 l2 F G) := HM12.out.1.kept hg13
          clear hg13 HM12
          obtain ⟨k0, k1, k2, k3, k4⟩ := (HPX.out.kept HM13.out.grown).cells
          obtain ⟨j0, j1, j2, j3, j4⟩ := (HPI.out.kept HM13.out.grown).cells
          go_wp2_with fail
          refine Calls.mono ((HIN.out w13 _ _ _ _ _ _ _ _ _ _ (HGI.out.kept HM13.out.grown)).2.2 (HPX.out.kept HM13.out.grown).grown) ?_
          rintro e w14 ⟨rfl, hg14⟩
          have HG14 : Hid (w.grownBy w14 none) := grown_trans (HPX.out.kept HM13.out.grown).grown hg14
          clear hg14 HM13 k0 k1 k2 k3 k4 j0 j1 j2 j3 j4
          go_wp2_with fail
          refine Calls.mono (eawake_any w14) ?_
          rintro e w15 ⟨rfl, hg15⟩
          have HG15 : Hid (w.grownBy w15 none) := grown_trans HG14.out hg15
          clear hg15
          go_wp2_with fail
          go_ret
          exact ⟨rfl, HG15.out⟩

end Go.Proofs.Ytljlkmiaemkokaa

/-
  reach, pure: each nonterminal of the reduced grammar is productive and useful there; what is useful of a grammar, and its start.
-/
namespace Go.Proofs.Ytljlkmiaemkokaa

section
variable {tn nn n : Nat} {st : Int} {L : Nat → Int} {R : Nat → List Int} {cl : Bool} {F G : Nat → Bool}
theorem MarksOf.closeF (h : MarksOf tn nn n st L R cl F G) (k : Nat) (hk : k < n) (hf : fitsB tn F (R k) = true) : F (L k - tn).toNat = true := by
  have hs := h.f.stay (fun k s hs => stM_same tn L R k s hs) k hk
  unfold chM at hs
  rw [hf, Bool.and_true, Bool.not_eq_false'] at hs
  exact hs
/-- A grammar that was added to: what is useful is productive. -/
theorem MarksOf.sub' (h : MarksOf tn nn n st L R cl F G) : ∀ i, G i = true → F i = true := by
  refine h.sub fun hc hp => ?_
  obtain ⟨h1, h2⟩ := h.may.added hc
  have := h.closeF 0 h.may.p0 (by
    rw [fitsB_iff, h2]
    intro x hx _
    rw [List.mem_singleton] at hx
    rw [hx]; exact hp)
  rw [h1] at this
  have e : ((tn : Int) - (tn : Int)).toNat = 0 := by omega
  rwa [e] at this
/-- Nothing is useful, if the start isn't productive. -/
theorem MarksOf.none (h : MarksOf tn nn n st L R cl F G) (hp : F (st - tn).toNat = false) : ∀ i, G i = false := by
  refine h.g.inv (fun f => ∀ i, f i = false) (fun k f hk hf i => ?_) (fun i => ?_)
  · unfold stD
    split
    · rename_i hg
      unfold goD at hg
      rw [hf] at hg
      cases hg
    · exact hf i
  · unfold startD
    rw [hp]; rfl
/-- The start of a grammar that was added to, and its added nonterminal. -/
theorem MarksOf.both (h : MarksOf tn nn n st L R true F G) : G 0 = G (st - tn).toNat := by
  cases hp : F (st - tn).toNat with
  | false => rw [h.none hp, h.none hp]
  | true =>
    rw [h.start hp]
    refine h.g.inv (fun f => f 0 = true) (fun k f hk hf => ?_) ?_
    · unfold stD
      split
      · show (f _ || _) = true
        rw [hf]; rfl
      · exact hf
    · unfold startD
      rw [hp]; simp
end

theorem red_marks {ts : List (ByteArray × Int)} {ns : List ByteArray} {lv : List Int} {n : Nat} {L : Nat → Int} {R : Nat → List Int} {V : Nat → Int} {st : Int} {tn nn : Nat} {F G : Nat → Bool} (hM : MarksOf tn nn n st L R false F G) (hp : F (st - tn).toNat = true) (C : GR) (hC : C = redGR ts ns lv tn nn n st L R V G (fun k => goD tn L R F k G)) {F' G' : Nat → Bool} {n2 : Nat}
    (hM' : MarksOf tn n2 C.prods.length C.start (fun i => (C.prods.getD i ⟨0, [], 0⟩).left) (fun i => (C.prods.getD i ⟨0, [], 0⟩).right) true F' G') :
    ∀ i, i < nn → G i = true → F' (1 + cntU G i) = true ∧ G' (1 + cntU G i) = true := by
  have hsub := hM.sub (fun h => by cases h)
  have hst := hM.start hp
  obtain ⟨hs1, hs2⟩ := hM.may.start
  have eS : C.start = numTo tn G nn st.toNat := by rw [hC]; rfl
  obtain ⟨ks, hks⟩ : ∃ ks, ks = (List.range n).filter fun k => goD tn L R F k G := ⟨_, rfl⟩
  have eP : C.prods = ⟨(tn : Int), [numTo tn G nn st.toNat], 0⟩ :: ks.map (prOf (numTo tn G nn) L R V) := by rw [hC, hks]; rfl
  have hks1 : ∀ k, k ∈ ks ↔ k < n ∧ goD tn L R F k G = true := fun k => by rw [hks]; simp
  have eLen : C.prods.length = 1 + ks.length := by rw [eP]; simp; omega
  have hat : ∀ i, i < ks.length → C.prods.getD (1 + i) ⟨0, [], 0⟩ = prOf (numTo tn G nn) L R V (ks.getD i 0) := fun i hi => by
    rw [eP, Nat.add_comm]
    simp [List.getD, hi]
  have hidx : ∀ k, k < n → goD tn L R F k G = true → ∃ j, j < C.prods.length ∧ ((C.prods.getD j ⟨0, [], 0⟩).left - (tn : Int)).toNat = 1 + cntU G (L k - tn).toNat ∧ (C.prods.getD j ⟨0, [], 0⟩).right = (R k).map fun x => numTo tn G nn x.toNat := fun k hk hg => by
    obtain ⟨j, hj, e⟩ := List.getElem_of_mem ((hks1 k).2 ⟨hk, hg⟩)
    have e2 : ks.getD j 0 = k := by rw [List.getD_eq_getElem?_getD, List.getElem?_eq_getElem hj, Option.getD_some]; exact e
    refine ⟨1 + j, by omega, ?_, ?_⟩
    · rw [hat j hj, e2]
      show (numTo tn G nn (L k).toNat - (tn : Int)).toNat = _
      obtain ⟨h1, h2⟩ := hM.may.left k hk
      unfold goD at hg
      rw [Bool.and_eq_true] at hg
      rw [numTo_use h1 h2 hg.1]
      omega
    · rw [hat j hj, e2]; rfl
  have hnum : ∀ k, k < n → goD tn L R F k G = true → ∀ x ∈ R k, (tn : Int) ≤ numTo tn G nn x.toNat → (tn : Int) ≤ x ∧ G (x - tn).toNat = true ∧ (numTo tn G nn x.toNat - (tn : Int)).toNat = 1 + cntU G (x - tn).toNat := fun k hk hg x hx hy => by
    obtain ⟨x1, x2⟩ := hM.may.right _ hk x hx
    by_cases hxt : x < (tn : Int)
    · rw [numTo_term (by omega) hxt] at hy; omega
    · have hgx := hM.closedU _ hk hg x hx (by omega)
      rw [numTo_use (by omega) x2 hgx]
      exact ⟨by omega, hgx, by omega⟩
  have hF : (∀ i, F i = true → F i = true) ∧ ∀ i, F i = true → G i = true → F' (1 + cntU G i) = true := by
    refine hM.f.inv (fun f => (∀ i, f i = true → F i = true) ∧ ∀ i, f i = true → G i = true → F' (1 + cntU G i) = true) (fun k f hk hf => ?_) ⟨fun i hi => (by cases hi), fun i hi => (by cases hi)⟩
    by_cases hc : chM tn L R k f = true
    · have e : stM tn L R k f = mark f (L k - tn).toNat true := by unfold stM; rw [if_pos hc]
      unfold chM at hc
      rw [Bool.and_eq_true] at hc
      have hfF := fitsB_mono hf.1 hc.2
      have hFk := hM.closeF k hk hfF
      rw [e]
      refine ⟨fun i hi => ?_, fun i hi hg => ?_⟩
      · unfold mark at hi
        by_cases ei : i = (L k - tn).toNat
        · rw [ei]; exact hFk
        · rw [if_neg ei] at hi; exact hf.1 i hi
      · unfold mark at hi
        by_cases ei : i = (L k - tn).toNat
        · have hgo : goD tn L R F k G = true := by unfold goD; rw [← ei, hg, hfF]; rfl
          obtain ⟨j, hj, el, er⟩ := hidx k hk hgo
          have h9 := hM'.closeF j hj (by
            show fitsB tn F' (C.prods.getD j ⟨0, [], 0⟩).right = true
            rw [er, fitsB_iff]
            intro y hy hyt
            obtain ⟨x, hx, rfl⟩ := List.mem_map.1 hy
            obtain ⟨x1, x2, x3⟩ := hnum k hk hgo x hx hyt
            rw [x3]
            exact hf.2 _ ((fitsB_iff tn f (R k)).1 hc.2 x hx x1) x2)
          have h8 : F' ((C.prods.getD j ⟨0, [], 0⟩).left - (tn : Int)).toNat = true := h9
          rw [el, ← ei] at h8
          exact h8
        · rw [if_neg ei] at hi; exact hf.2 i hi hg
    · have e : stM tn L R k f = f := by unfold stM; rw [if_neg hc]
      rw [e]; exact hf
  have hF2 : ∀ i, G i = true → F' (1 + cntU G i) = true := fun i hi => hF.2 i (hsub i hi) hi
  have eS2 : (C.start - (tn : Int)).toNat = 1 + cntU G (st - tn).toNat := by
    rw [eS, numTo_use hs1 hs2 hst]; omega
  have hG : (∀ i, G i = true → G i = true) ∧ ∀ i, G i = true → G' (1 + cntU G i) = true := by
    refine hM.g.inv (fun f => (∀ i, f i = true → G i = true) ∧ ∀ i, f i = true → G' (1 + cntU G i) = true) (fun k f hk hf => ?_) ⟨fun i hi => ?_, fun i hi => ?_⟩
    · by_cases hc : goD tn L R F k f = true
      · have e : stD tn L R F k f = fun i => f i || (R k).contains ((tn + i : Nat) : Int) := by unfold stD; rw [if_pos hc]
        unfold goD at hc
        rw [Bool.and_eq_true] at hc
        have hgo : goD tn L R F k G = true := by unfold goD; rw [hf.1 _ hc.1, hc.2]; rfl
        rw [e]
        have hxi : ∀ i, (R k).contains ((tn + i : Nat) : Int) = true → ((tn + i : Nat) : Int) ∈ R k ∧ G i = true := fun i hi => by
          have hx : ((tn + i : Nat) : Int) ∈ R k := by simpa using hi
          have h5 := hM.closedU k hk hgo _ hx (by omega)
          have e5 : (((tn + i : Nat) : Int) - (tn : Int)).toNat = i := by omega
          rw [e5] at h5
          exact ⟨hx, h5⟩
        refine ⟨fun i hi => ?_, fun i hi => ?_⟩
        · rw [Bool.or_eq_true] at hi
          rcases hi with hi | hi
          · exact hf.1 i hi
          · exact (hxi i hi).2
        · rw [Bool.or_eq_true] at hi
          rcases hi with hi | hi
          · exact hf.2 i hi
          · obtain ⟨hx, hgi⟩ := hxi i hi
            obtain ⟨j, hj, el, er⟩ := hidx k hk hgo
            have hgo2 : goD tn (fun i => (C.prods.getD i ⟨0, [], 0⟩).left) (fun i => (C.prods.getD i ⟨0, [], 0⟩).right) F' j G' = true := by
              unfold goD
              rw [Bool.and_eq_true]
              constructor
              · show G' ((C.prods.getD j ⟨0, [], 0⟩).left - (tn : Int)).toNat = true
                rw [el]; exact hf.2 _ hc.1
              · show fitsB tn F' (C.prods.getD j ⟨0, [], 0⟩).right = true
                rw [er, fitsB_iff]
                intro y hy hyt
                obtain ⟨x, hx, rfl⟩ := List.mem_map.1 hy
                obtain ⟨x1, x2, x3⟩ := hnum k hk hgo x hx hyt
                rw [x3]
                exact hF2 _ x2
            have hr2 := hM.may.right _ hk _ hx
            have e6 : numTo tn G nn ((tn + i : Nat) : Int).toNat = (tn : Int) + ((1 + cntU G i : Nat) : Int) := by
              have h7 := numTo_use (tn := tn) (nn := nn) (g := G) (x := ((tn + i : Nat) : Int)) (by omega) hr2.2 (by
                have e5 : (((tn + i : Nat) : Int) - (tn : Int)).toNat = i := by omega
                rw [e5]; exact hgi)
              have e5 : (((tn + i : Nat) : Int) - (tn : Int)).toNat = i := by omega
              rw [e5] at h7
              exact h7
            have h8 := hM'.closedU j hj hgo2 ((tn : Int) + ((1 + cntU G i : Nat) : Int)) (by
              show _ ∈ (C.prods.getD j ⟨0, [], 0⟩).right
              rw [er]
              exact List.mem_map.2 ⟨_, hx, e6⟩) (by omega)
            have e7 : ((tn : Int) + ((1 + cntU G i : Nat) : Int) - (tn : Int)).toNat = 1 + cntU G i := by omega
            rwa [e7] at h8
      · have e : stD tn L R F k f = f := by unfold stD; rw [if_neg hc]
        rw [e]; exact hf
    · unfold startD at hi
      rw [Bool.and_eq_true, Bool.or_eq_true, decide_eq_true_eq, Bool.false_and] at hi
      rcases hi.2 with e | e
      · rw [e]; exact hst
      · cases e
    · unfold startD at hi
      rw [Bool.and_eq_true, Bool.or_eq_true, decide_eq_true_eq, Bool.false_and] at hi
      rcases hi.2 with e | e
      · rw [e, ← eS2]
        exact hM'.start (by rw [eS2]; exact hF2 _ hst)
      · cases e
  exact fun i hi hg => ⟨hF2 i hg, hG.2 i hg⟩

/-- Each nonterminal of the reduced grammar but the added one is productive and useful there. -/
theorem red_all {ts : List (ByteArray × Int)} {ns : List ByteArray} {lv : List Int} {n : Nat} {L : Nat → Int} {R : Nat → List Int} {V : Nat → Int} {st : Int} {tn nn : Nat} {F G : Nat → Bool} (hM : MarksOf tn nn n st L R false F G) (hp : F (st - tn).toNat = true) (C : GR) (hC : C = redGR ts ns lv tn nn n st L R V G (fun k => goD tn L R F k G)) {F' G' : Nat → Bool} {n2 : Nat}
    (hM' : MarksOf tn n2 C.prods.length C.start (fun i => (C.prods.getD i ⟨0, [], 0⟩).left) (fun i => (C.prods.getD i ⟨0, [], 0⟩).right) true F' G') (m : Nat) (h1 : 1 ≤ m) (h2 : m < C.nons.length) : F' m = true ∧ G' m = true := by
  have eN : C.nons = namesTo G ns nn := by rw [hC]; rfl
  rw [eN, namesTo_len] at h2
  obtain ⟨i, hi, hg, e⟩ := cntU_onto G (m - 1) nn (by omega)
  have := red_marks hM hp C hC hM' i hi hg
  have e2 : 1 + cntU G i = m := by omega
  rwa [e2] at this

end Go.Proofs.Ytljlkmiaemkokaa
