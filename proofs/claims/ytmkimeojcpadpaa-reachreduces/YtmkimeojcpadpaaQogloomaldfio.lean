import Derived.Test.YtmkimeojcpadpaaQkmlpipjnbcll
import Derived.Test.YtmkimeojcpadpaaQekapdphilhec
import Derived.ProofKit
import Derived.OpenShut
import Derived.SliceStrings
import Derived.Deep.Slices
import Derived.SizedLaws

/-
  ReachReduces, walked.
-/
namespace Go.Proofs.Ytmkimeojcpadpaa
open Go.RowKit Go.Maps Go.Shelf

attribute [local go_sem] Oper.semAt_some

/-- A grammar of one's own, its lengths named. -/
def CGr (C : GR) (t1 t2 t3 t4 : Nat) (y : World) (B : Nat) (ta na la pa : Option Addr) (tc nc lc pc : Nat) : Prop := GramNew y B C (.slice ta t1 tc) (.slice na t2 nc) (.slice la t3 lc) (.slice pa t4 pc)
def CT (ec cs : Int) (C : GR) (t1 t2 t3 t4 : Nat) (X : World) (e : Ending) (y : World) : Prop := ∃ ta na la pa tc nc lc pc, e = .returned (.tuple #[.agg #[.slice ta t1 tc, .slice na t2 nc, .slice la t3 lc, .int .i64 cs, .slice pa t4 pc], .int .i64 ec]) ∧ CGr C t1 t2 t3 t4 y X.heap.size ta na la pa tc nc lc pc ∧ X.grownBy y none
theorem CGr.kept {C : GR} {t1 t2 t3 t4 : Nat} {y z : World} {B : Nat} {ta na la pa : Option Addr} {tc nc lc pc : Nat} (h : CGr C t1 t2 t3 t4 y B ta na la pa tc nc lc pc) (hg : y.grownBy z none) : CGr C t1 t2 t3 t4 z B ta na la pa tc nc lc pc := GramNew.kept h hg
theorem CGr.out {C : GR} {t1 t2 t3 t4 : Nat} {y z : World} {B lo hi : Nat} {ta na la pa : Option Addr} {tc nc lc pc : Nat} (h : CGr C t1 t2 t3 t4 y B ta na la pa tc nc lc pc) (ho : Outside lo hi y z) (hB : hi ≤ B) : CGr C t1 t2 t3 t4 z B ta na la pa tc nc lc pc := GramNew.out h ho hB
theorem owns_nil {y : World} {B e s n cap : Nat} {a : Option Addr} {xs : List Value} (h : y.ownsRow B e s (.slice a n cap) n xs) : a = none → n = 0 ∧ cap = 0 := by
  rintro rfl
  rcases h.2 with ⟨h1, h2⟩ | ⟨g, cap', cur, he, _⟩
  · simp at h1; exact ⟨h2, h1.2⟩
  · simp at he
theorem box_out {lo hi : Nat} {X Y : World} {b : Nat} {cs : Array Value} {t : TypeId} (h : X.heap[b]? = some (.cells cs t (0, 0))) (ho : Outside lo hi X Y) (hb : b < lo ∨ hi ≤ b) : Y.heap[b]? = some (.cells cs t (0, 0)) := (ho.block b (Array.getElem?_eq_some_iff.1 h).1 hb).trans h

/-- A copy of the grammar, of the law's own. -/
structure InAt (y : World) (B : Nat) (ts : List (ByteArray × Int)) (ns : List ByteArray) (lv : List Int) (st : Int) (n : Nat) (L : Nat → Int) (R : Nat → List Int) (V : Nat → Int) (tn nn ln : Nat) (ta na la pa : Option Addr) (tc nc lc pc : Nat) : Prop where
  new : GramNew y B (grOf ts ns lv st n L R V) (.slice ta tn tc) (.slice na nn nc) (.slice la ln lc) (.slice pa n pc)
  gat : ∃ ra rc, GAt y ta na la pa tc nc lc pc ts ns lv n L R ra rc V
theorem InAt.kept {y z : World} {B : Nat} {ts : List (ByteArray × Int)} {ns : List ByteArray} {lv : List Int} {st : Int} {n : Nat} {L : Nat → Int} {R : Nat → List Int} {V : Nat → Int} {tn nn ln : Nat} {ta na la pa : Option Addr} {tc nc lc pc : Nat} (h : InAt y B ts ns lv st n L R V tn nn ln ta na la pa tc nc lc pc) (hg : y.grownBy z none) : InAt z B ts ns lv st n L R V tn nn ln ta na la pa tc nc lc pc := by
  obtain ⟨ra, rc, h2⟩ := h.gat
  exact ⟨h.new.kept hg, ra, rc, h2.kept hg⟩

set_option maxRecDepth 100000 in
set_option maxHeartbeats 1000000 in
theorem ereduces_core (ta na la pa : Option Addr) (tc nc lc pc : Nat) (ts : List (ByteArray × Int)) (ns : List ByteArray) (lv : List Int) (n : Nat) (L : Nat → Int) (R : Nat → List Int) (ra : Nat → Option Addr) (rc : Nat → Nat) (V : Nat → Int) (st : Int) (w : World) (tn nn ln : Nat) (hlen : ts.length = tn ∧ ns.length = nn ∧ lv.length = ln) (hG : GAt w ta na la pa tc nc lc pc ts ns lv n L R ra rc V) (hnt : ta = none → tn = 0 ∧ tc = 0) (hnl : la = none → ln = 0 ∧ lc = 0) (h1 : tn * 24 ≤ 140737488355328) (h2 : nn * 16 ≤ 140737488355328) (h4 : n * 40 ≤ 140737488355328) (hts : ∀ t ∈ ts, t.1.size ≤ 140737488355328) (hns : ∀ s ∈ ns, s.size ≤ 140737488355328) :
    Calls Try.prog 4 #[.agg #[.slice ta tn tc, .slice na nn nc, .slice la ln lc, .int .i64 st, .slice pa n pc]] w fun e w' => e = .returned (.bool true) ∧ w.grownBy w' none := by
  obtain ⟨rV, hV⟩ := boolOf (validOK ts ns lv st n L R V)
  obtain ⟨F, G, hM⟩ : ∃ F G, rV = true → MarksOf tn nn n st L R false F G := by
    by_cases h : rV = true
    · have hm : MayOK tn nn n st L R false := by
        obtain ⟨rfl, rfl, rfl⟩ := hlen
        exact mayOK_valid (hV.1 h)
      obtain ⟨F, G, hM⟩ := hm.marksOf
      exact ⟨F, G, fun _ => hM⟩
    · exact ⟨fun _ => false, fun _ => false, fun h' => absurd h' h⟩
  have hR : ∀ k, k < n → (R k).length ≤ 17592186044416 := fun k hk => by
    rcases hG.prods with h | ⟨b, off, e, h⟩
    · omega
    · exact (h k hk).2.2.2.2.2
  have hll : ln ≤ 17592186044416 := by have := hG.llen; rw [hlen.2.2] at this; exact this
  have hb := redC_bound (F := F) (G := G) hlen hV hM hR
  have HCL0 : redE tn st F rV = 0 → closedOK (redC ts ns lv tn nn n st L R V F G rV).terms (redC ts ns lv tn nn n st L R V F G rV).nons (redC ts ns lv tn nn n st L R V F G rV).levels (redC ts ns lv tn nn n st L R V F G rV).start (redC ts ns lv tn nn n st L R V F G rV).prods.length (fun i => ((redC ts ns lv tn nn n st L R V F G rV).prods.getD i ⟨0, [], 0⟩).left) (fun i => ((redC ts ns lv tn nn n st L R V F G rV).prods.getD i ⟨0, [], 0⟩).right) (fun i => ((redC ts ns lv tn nn n st L R V F G rV).prods.getD i ⟨0, [], 0⟩).level) ∧ (∀ t ∈ (redC ts ns lv tn nn n st L R V F G rV).terms, t.1.size ≤ 140737488355328) ∧ (∀ s ∈ (redC ts ns lv tn nn n st L R V F G rV).nons, s.size ≤ 140737488355328) := fun he => by
    cases rV with
    | false => exact absurd he (by unfold redE; rw [if_neg (by decide)]; decide)
    | true =>
      cases hF : F (st - tn).toNat with
      | false => rw [redE_none hF] at he; exact absurd he (by decide)
      | true =>
        rw [redC_ok hF]
        refine ⟨red_closed hlen (hV.1 rfl) (hM rfl) hF _ rfl, hts, fun s hs => ?_⟩
        have e0 : (redGR ts ns lv tn nn n st L R V G (fun k => goD tn L R F k G)).nons = namesTo G ns nn := rfl
        rw [e0] at hs
        unfold namesTo at hs
        simp only [List.mem_cons, List.mem_map, List.mem_filter, List.mem_range] at hs
        rcases hs with rfl | ⟨i, ⟨hi, _⟩, rfl⟩
        · decide
        · have hi' : i < ns.length := by rw [hlen.2.1]; exact hi
          rw [List.getD_eq_getElem?_getD, List.getElem?_eq_getElem hi']
          exact hns _ (List.getElem_mem hi')
  obtain ⟨ec, hec⟩ : ∃ ec : Int, ec = redE tn st F rV := ⟨_, rfl⟩
  obtain ⟨C, hC⟩ : ∃ C : GR, C = redC ts ns lv tn nn n st L R V F G rV := ⟨_, rfl⟩
  rw [← hC] at hb HCL0
  rw [← hec] at HCL0
  obtain ⟨t1, ht1⟩ : ∃ t : Nat, t = C.terms.length := ⟨_, rfl⟩
  obtain ⟨t2, ht2⟩ : ∃ t : Nat, t = C.nons.length := ⟨_, rfl⟩
  obtain ⟨t3, ht3⟩ : ∃ t : Nat, t = C.levels.length := ⟨_, rfl⟩
  obtain ⟨t4, ht4⟩ : ∃ t : Nat, t = C.prods.length := ⟨_, rfl⟩
  obtain ⟨cs, hcs⟩ : ∃ s : Int, s = C.start := ⟨_, rfl⟩
  have HCP : Hid (∀ X, w.grownBy X none → Calls Try.prog 8 #[.agg #[.slice ta tn tc, .slice na nn nc, .slice la ln lc, .int .i64 st, .slice pa n pc]] X fun e w' => ∃ ta' na' la' pa' tc' nc' lc' pc', e = .returned (.agg #[.slice ta' tn tc', .slice na' nn nc', .slice la' ln lc', .int .i64 st, .slice pa' n pc']) ∧ InAt w' X.heap.size ts ns lv st n L R V tn nn ln ta' na' la' pa' tc' nc' lc' pc' ∧ X.grownBy w' none) := fun X hX => by
    refine (rcopy_core ta na la pa tn nn ln n tc nc lc pc st ts ns lv L R ra rc V X hlen (hG.kept hX) hnt hnl h1 h2 (by omega) h4).mono ?_
    rintro e w' ⟨vt, vn, vl, vp, rfl, hN, hg⟩
    obtain ⟨ta', na', la', pa', tc', nc', lc', pc', ra', rc', rfl, rfl, rfl, rfl, hG', _, hn1, hn2⟩ := hN.read hG.tlen hG.nlen hG.llen hG.plen hR
    rw [hlen.1, hlen.2.1, hlen.2.2] at hN
    rw [hlen.1, hlen.2.1, hlen.2.2]
    exact ⟨ta', na', la', pa', tc', nc', lc', pc', rfl, ⟨hN, ra', rc', hG'⟩, hg⟩
  have HRR : Hid (∀ X, w.grownBy X none → Calls Try.prog 17 #[.agg #[.slice ta tn tc, .slice na nn nc, .slice la ln lc, .int .i64 st, .slice pa n pc]] X fun e y => CT ec cs C t1 t2 t3 t4 X e y) := fun X hX => by
    have := rreduce_any ta na la pa tc nc lc pc ts ns lv n L R ra rc V st X tn nn ln hlen (hG.kept hX) hnt hnl rV hV F G hM hts hns
    rw [← hec, ← hC] at this
    rw [ht1, ht2, ht3, ht4, hcs]
    exact this
  have HRE : Hid (∀ (X : World) (B : Nat) (ta' na' la' pa' : Option Addr) (tc' nc' lc' pc' : Nat), InAt X B ts ns lv st n L R V tn nn ln ta' na' la' pa' tc' nc' lc' pc' → Calls Try.prog 16 #[.agg #[.slice ta' tn tc', .slice na' nn nc', .slice la' ln lc', .int .i64 st, .slice pa' n pc']] X fun e y => CT ec cs C t1 t2 t3 t4 X e y) := fun X B ta' na' la' pa' tc' nc' lc' pc' hX => by
    obtain ⟨ra', rc', hg'⟩ := hX.gat
    have hx1 : X.ownsRow B 57 2 (.slice ta' tn tc') ts.length (tmsL ts) := hX.new.terms
    have hx3 : X.ownsRow B 3 1 (.slice la' ln lc') lv.length (lv.map (Value.int .i64)) := hX.new.levels
    rw [hlen.1] at hx1
    rw [hlen.2.2] at hx3
    have := reduce_any ta' na' la' pa' tc' nc' lc' pc' ts ns lv n L R ra' rc' V st X tn nn ln hlen hg' (owns_nil hx1) (owns_nil hx3) rV hV F G hM
    rw [← hec, ← hC] at this
    rw [ht1, ht2, ht3, ht4, hcs]
    exact this
  have HSI : Hid (∀ (X : World) (B : Nat) (ta' na' la' pa' : Option Addr) (tc' nc' lc' pc' : Nat), InAt X B ts ns lv st n L R V tn nn ln ta' na' la' pa' tc' nc' lc' pc' → w.grownBy X none → Calls Try.prog 14 #[.agg #[.slice ta' tn tc', .slice na' nn nc', .slice la' ln lc', .int .i64 st, .slice pa' n pc'], .agg #[.slice ta tn tc, .slice na nn nc, .slice la ln lc, .int .i64 st, .slice pa n pc]] X fun e w' => e = .returned (.bool true) ∧ X.grownBy w' none) := fun X B ta' na' la' pa' tc' nc' lc' pc' hX hg => by
    obtain ⟨ra', rc', hg'⟩ := hX.gat
    have := rsame_any (st := st) (st' := st) hg' (hG.kept hg) true ⟨fun _ => ⟨rfl, rfl, rfl, rfl, rfl, fun i hi => ⟨rfl, rfl, rfl⟩⟩, fun _ => rfl⟩
    rwa [hlen.1, hlen.2.1, hlen.2.2] at this
  have HSM : Hid (∀ (X : World) (B B' : Nat) (ta na la pa ta' na' la' pa' : Option Addr) (tc nc lc pc tc' nc' lc' pc' : Nat), CGr C t1 t2 t3 t4 X B ta na la pa tc nc lc pc → CGr C t1 t2 t3 t4 X B' ta' na' la' pa' tc' nc' lc' pc' → Calls Try.prog 14 #[.agg #[.slice ta t1 tc, .slice na t2 nc, .slice la t3 lc, .int .i64 cs, .slice pa t4 pc], .agg #[.slice ta' t1 tc', .slice na' t2 nc', .slice la' t3 lc', .int .i64 cs, .slice pa' t4 pc']] X fun e w' => e = .returned (.bool true) ∧ X.grownBy w' none) := fun X B B' ta na la pa ta' na' la' pa' tc nc lc pc tc' nc' lc' pc' hX hX' => by
    rw [ht1, ht2, ht3, ht4] at hX hX'
    obtain ⟨r1, r2, g1⟩ := GramNew.gat hX hb.t hb.s hb.l hb.p hb.r
    obtain ⟨r3, r4, g2⟩ := GramNew.gat hX' hb.t hb.s hb.l hb.p hb.r
    rw [ht1, ht2, ht3, ht4]
    exact rsame_any (st := cs) (st' := cs) g1 g2 true ⟨fun _ => ⟨rfl, rfl, rfl, rfl, rfl, fun i hi => ⟨rfl, rfl, rfl⟩⟩, fun _ => rfl⟩
  have HCL : Hid (∀ (X : World) (B : Nat) (ta na la pa : Option Addr) (tc nc lc pc : Nat), CGr C t1 t2 t3 t4 X B ta na la pa tc nc lc pc → ec = 0 → Calls Try.prog 18 #[.agg #[.slice ta t1 tc, .slice na t2 nc, .slice la t3 lc, .int .i64 cs, .slice pa t4 pc]] X fun e w' => e = .returned (.bool true) ∧ X.grownBy w' none) := fun X B ta na la pa tc nc lc pc hX he => by
    rw [ht1, ht2, ht3, ht4] at hX
    obtain ⟨r1, r2, g1⟩ := GramNew.gat hX hb.t hb.s hb.l hb.p hb.r
    rw [ht1, ht2, ht3, ht4, hcs]
    exact rclosed_any ta na la pa tc nc lc pc C.start C.terms C.nons C.levels C.prods.length _ _ r1 r2 _ X g1 (HCL0 he).2.1 (HCL0 he).2.2 true ⟨fun _ => (HCL0 he).1, fun _ => rfl⟩
  have HSP : Hid (∀ (X Y : World) (B : Nat) (ta na la pa : Option Addr) (tc nc lc pc : Nat), CGr C t1 t2 t3 t4 X B ta na la pa tc nc lc pc → X.grownBy Y none → Calls Try.prog 19 #[.agg #[.slice ta t1 tc, .slice na t2 nc, .slice la t3 lc, .int .i64 cs, .slice pa t4 pc]] Y fun e w' => e = .returned (.tuple #[]) ∧ Outside B X.heap.size Y w') := fun X Y B ta na la pa tc nc lc pc hX hg => by
    rw [ht1, ht2, ht3, ht4] at hX
    obtain ⟨r1, r2, s1⟩ := GramNew.sp hX
    rw [ht1, ht2, ht3, ht4]
    exact spoil_any ta na la pa _ _ _ _ tc nc lc pc B X.heap.size cs r1 _ r2 Y (s1.kept hg) hg.size hb.t hb.s hb.l hb.p hb.r
  have HSN : Hid (∀ (X Y : World) (B : Nat) (ta' na' la' pa' : Option Addr) (tc' nc' lc' pc' : Nat), InAt X B ts ns lv st n L R V tn nn ln ta' na' la' pa' tc' nc' lc' pc' → X.grownBy Y none → Calls Try.prog 19 #[.agg #[.slice ta' tn tc', .slice na' nn nc', .slice la' ln lc', .int .i64 st, .slice pa' n pc']] Y fun e w' => e = .returned (.tuple #[]) ∧ Outside B X.heap.size Y w') := fun X Y B ta' na' la' pa' tc' nc' lc' pc' hX hg => by
    have hN : GramNew X B (grOf ts ns lv st n L R V) (.slice ta' ts.length tc') (.slice na' ns.length nc') (.slice la' lv.length lc') (.slice pa' (grOf ts ns lv st n L R V).prods.length pc') := by
      have := hX.new
      rw [grOf_len, hlen.1, hlen.2.1, hlen.2.2]; exact this
    obtain ⟨r1, r2, s1⟩ := GramNew.sp hN
    have := spoil_any ta' na' la' pa' _ _ _ _ tc' nc' lc' pc' B X.heap.size st r1 _ r2 Y (s1.kept hg) hg.size hG.tlen hG.nlen hG.llen (by rw [grOf_len]; exact hG.plen) (fun i hi => by
      rw [grOf_len] at hi
      rw [grOf_at _ _ _ _ _ _ _ _ hi]; exact hR i hi)
    have e1 : (grOf ts ns lv st n L R V).terms.length = tn := hlen.1
    have e2 : (grOf ts ns lv st n L R V).nons.length = nn := hlen.2.1
    have e3 : (grOf ts ns lv st n L R V).levels.length = ln := hlen.2.2
    rw [grOf_len, e1, e2, e3] at this
    exact this
  have HX0 : Hid (PhAt w (w.alloc (.cells #[.slice ta tn tc, .slice na nn nc, .slice la ln lc, .int .i64 st, .slice pa n pc] 27)) w.heap.size #[.slice ta tn tc, .slice na nn nc, .slice la ln lc, .int .i64 st, .slice pa n pc]) := ⟨World.grownBy_alloc _ _ none, heap_alloc_last w _⟩
  clear hlen hG hnt hnl h1 h2 h4 hts hns hV hM hec hC ht1 ht2 ht3 ht4 hcs HCL0 hb hll hR
  go_enter Try.func4, Try.ntmps4
  go_wp2_with fail
  refine Calls.mono (HCP.out _ HX0.out.grown) ?_
  rintro e w1 ⟨ta', na', la', pa', tc', nc', lc', pc', rfl, hI1, hg1⟩
  rw [World.size_alloc] at hI1
  have HX1 : Hid (PhAt w w1 w.heap.size #[.slice ta tn tc, .slice na nn nc, .slice la ln lc, .int .i64 st, .slice pa n pc]) := HX0.out.kept hg1
  obtain ⟨ib, hib⟩ : ∃ ib, ib = w1.heap.size := ⟨_, rfl⟩
  obtain ⟨X1, hX1⟩ : ∃ X1, X1 = w1.alloc (.cells #[.slice ta' tn tc', .slice na' nn nc', .slice la' ln lc', .int .i64 st, .slice pa' n pc'] 27) := ⟨_, rfl⟩
  have hga : w1.grownBy X1 none := by rw [hX1]; exact World.grownBy_alloc _ _ none
  have HPX : Hid (PhAt w X1 w.heap.size #[.slice ta tn tc, .slice na nn nc, .slice la ln lc, .int .i64 st, .slice pa n pc]) := HX1.out.kept hga
  have HPI : Hid (PhAt w X1 ib #[.slice ta' tn tc', .slice na' nn nc', .slice la' ln lc', .int .i64 st, .slice pa' n pc']) := ⟨grown_trans HX1.out.grown hga, by rw [hX1, hib]; exact heap_alloc_last w1 _⟩
  have HGI : Hid (InAt w1 (w.heap.size + 1) ts ns lv st n L R V tn nn ln ta' na' la' pa' tc' nc' lc' pc') := hI1
  have HGA : Hid (w1.grownBy X1 none) := hga
  have HXE := show Hid _ from hX1
  obtain ⟨k0, k1, k2, k3, k4⟩ := HPX.out.cells
  obtain ⟨j0, j1, j2, j3, j4⟩ := HPI.out.cells
  rw [hX1] at j0 j1 j2 j3 j4 k0 k1 k2 k3 k4
  rw [hib] at j0 j1 j2 j3 j4
  have HIB : Hid (ib = w1.heap.size) := hib
  clear hI1 hg1 HX0 HCP hga hX1 HX1 hib
  go_wp2_with fail
  rw [← HXE.out, ← HIB.out]
  refine Calls.mono (HRE.out X1 _ _ _ _ _ _ _ _ _ (HGI.out.kept HGA.out)) ?_
  rintro e w2 ⟨ca, cb, cc, cd, c1, c2, c3, c4, rfl, hC2', hg2⟩
  have HC2 : Hid (CGr C t1 t2 t3 t4 w2 X1.heap.size ca cb cc cd c1 c2 c3 c4) := hC2'
  have HG2 : Hid (X1.grownBy w2 none) := hg2
  clear hC2' hg2 k0 k1 k2 k3 k4 j0 j1 j2 j3 j4 HXE
  obtain ⟨kc, hkc⟩ : ∃ kc, kc = w2.heap.size := ⟨_, rfl⟩
  obtain ⟨X2, hX2⟩ : ∃ X2, X2 = w2.alloc (.cells #[.slice ca t1 c1, .slice cb t2 c2, .slice cc t3 c3, .int .i64 cs, .slice cd t4 c4] 27) := ⟨_, rfl⟩
  have hgb : w2.grownBy X2 none := by rw [hX2]; exact World.grownBy_alloc _ _ none
  have HPX2 : Hid (PhAt w X2 w.heap.size #[.slice ta tn tc, .slice na nn nc, .slice la ln lc, .int .i64 st, .slice pa n pc]) := (HPX.out.kept HG2.out).kept hgb
  have HPC : Hid (PhAt w X2 kc #[.slice ca t1 c1, .slice cb t2 c2, .slice cc t3 c3, .int .i64 cs, .slice cd t4 c4]) := ⟨HPX2.out.grown, by rw [hX2, hkc]; exact heap_alloc_last w2 _⟩
  have HX12 : Hid (X1.grownBy X2 none) := grown_trans HG2.out hgb
  have HGB : Hid (w2.grownBy X2 none) := hgb
  have HXE := show Hid _ from hX2
  obtain ⟨k0, k1, k2, k3, k4⟩ := HPX2.out.cells
  rw [hX2] at k0 k1 k2 k3 k4
  have HKC : Hid (kc = w2.heap.size) := hkc
  clear hgb hX2 hkc
  go_wp2_with fail
  rw [← HXE.out, ← HKC.out]
  refine Calls.mono (HRR.out X2 HPX2.out.grown) ?_
  rintro e w3 ⟨ra1, ra2, ra3, ra4, r1, r2, r3, r4, rfl, hR3', hg3⟩
  have HR3 : Hid (CGr C t1 t2 t3 t4 w3 X2.heap.size ra1 ra2 ra3 ra4 r1 r2 r3 r4) := hR3'
  have HG3 : Hid (X2.grownBy w3 none) := hg3
  clear hR3' hg3 k0 k1 k2 k3 k4 HXE
  obtain ⟨kr, hkr⟩ : ∃ kr, kr = w3.heap.size := ⟨_, rfl⟩
  obtain ⟨X3, hX3⟩ : ∃ X3, X3 = w3.alloc (.cells #[.slice ra1 t1 r1, .slice ra2 t2 r2, .slice ra3 t3 r3, .int .i64 cs, .slice ra4 t4 r4] 27) := ⟨_, rfl⟩
  have hgb : w3.grownBy X3 none := by rw [hX3]; exact World.grownBy_alloc _ _ none
  have HX23 : Hid (X2.grownBy X3 none) := grown_trans HG3.out hgb
  have HPC3 : Hid (PhAt w X3 kc #[.slice ca t1 c1, .slice cb t2 c2, .slice cc t3 c3, .int .i64 cs, .slice cd t4 c4]) := HPC.out.kept HX23.out
  have HPR : Hid (PhAt w X3 kr #[.slice ra1 t1 r1, .slice ra2 t2 r2, .slice ra3 t3 r3, .int .i64 cs, .slice ra4 t4 r4]) := ⟨HPC3.out.grown, by rw [hX3, hkr]; exact heap_alloc_last w3 _⟩
  have HR4 : Hid (CGr C t1 t2 t3 t4 X3 X2.heap.size ra1 ra2 ra3 ra4 r1 r2 r3 r4) := HR3.out.kept hgb
  have HC4 : Hid (CGr C t1 t2 t3 t4 X3 X1.heap.size ca cb cc cd c1 c2 c3 c4) := HC2.out.kept (grown_trans HGB.out HX23.out)
  have HKS : Hid (w2.heap.size ≤ X2.heap.size ∧ X2.heap.size ≤ kr) := ⟨HGB.out.size, by rw [hkr]; exact HG3.out.size⟩
  have HXE := show Hid _ from hX3
  obtain ⟨k0, k1, k2, k3, k4⟩ := HPC3.out.cells
  obtain ⟨j0, j1, j2, j3, j4⟩ := HPR.out.cells
  rw [hX3] at j0 j1 j2 j3 j4 k0 k1 k2 k3 k4
  rw [hkr] at j0 j1 j2 j3 j4
  have HKR : Hid (kr = w3.heap.size) := hkr
  clear hgb hX3 hkr HPC HR3 HG3
  go_wp2_with fail
  rw [← HXE.out, ← HKR.out]
  refine Calls.mono (HSM.out X3 _ _ _ _ _ _ _ _ _ _ _ _ _ _ _ _ _ _ HC4.out HR4.out) ?_
  rintro e w4 ⟨rfl, hg4⟩
  have HG4 : Hid (X3.grownBy w4 none) := hg4
  clear hg4 k0 k1 k2 k3 k4 j0 j1 j2 j3 j4 HXE HKR
  obtain ⟨k0, k1, k2, k3, k4⟩ := (HPC3.out.kept HG4.out).cells
  by_cases h0 : ec = 0
  case' pos =>
    have hd : (ec == 0) = true := beq_iff_eq.2 h0
    have HE0 : Hid (ec = 0) := h0
    clear h0
    go_wp2_with fail
    refine Calls.mono (HCL.out w4 _ _ _ _ _ _ _ _ _ (HC4.out.kept HG4.out) HE0.out) ?_
    rintro e w5 ⟨rfl, hg5⟩
    have HG5 : Hid (X3.grownBy w5 none) := grown_trans HG4.out hg5
    clear hg5 k0 k1 k2 k3 k4 HG4 HE0
  case' neg =>
    have hd : (ec == 0) = false := beq_eq_false_iff_ne.2 h0
    have HG5 : Hid (X3.grownBy w4 none) := HG4.out
    clear h0 k0 k1 k2 k3 k4 HG4
    generalize w4 = w5 at *
  all_goals
    obtain ⟨k0, k1, k2, k3, k4⟩ := (HPC3.out.kept HG5.out).cells
    go_wp2_with fail
    refine Calls.mono (HSP.out w2 w5 _ _ _ _ _ _ _ _ _ HC2.out (grown_trans HGB.out (grown_trans HX23.out HG5.out))) ?_
    rintro e w6 ⟨rfl, hO6⟩
    have HX16 : Hid (X1.grownBy w6 none) := hO6.grown (grown_trans HX12.out (grown_trans HX23.out HG5.out)) (Nat.le_refl _)
    have HR6 : Hid (CGr C t1 t2 t3 t4 w6 X2.heap.size ra1 ra2 ra3 ra4 r1 r2 r3 r4) := (HR4.out.kept HG5.out).out hO6 HKS.out.1
    have HPR6 : Hid (PhAt w w6 kr #[.slice ra1 t1 r1, .slice ra2 t2 r2, .slice ra3 t3 r3, .int .i64 cs, .slice ra4 t4 r4]) := ⟨(HPX.out.kept HX16.out).grown, box_out (HPR.out.kept HG5.out).box hO6 (.inr (Nat.le_trans HKS.out.1 HKS.out.2))⟩
    clear hO6 k0 k1 k2 k3 k4 HG5 HR4 HPR HC4 HPC3 HC2
    obtain ⟨k0, k1, k2, k3, k4⟩ := (HPX.out.kept HX16.out).cells
    obtain ⟨j0, j1, j2, j3, j4⟩ := (HPI.out.kept HX16.out).cells
    go_wp2_with fail
    refine Calls.mono (HSI.out w6 _ _ _ _ _ _ _ _ _ (HGI.out.kept (grown_trans HGA.out HX16.out)) (HPX.out.kept HX16.out).grown) ?_
    rintro e w7 ⟨rfl, hg7⟩
    have HX17 : Hid (X1.grownBy w7 none) := grown_trans HX16.out hg7
    have HR7 : Hid (CGr C t1 t2 t3 t4 w7 X2.heap.size ra1 ra2 ra3 ra4 r1 r2 r3 r4) := HR6.out.kept hg7
    have HPR7 : Hid (PhAt w w7 kr #[.slice ra1 t1 r1, .slice ra2 t2 r2, .slice ra3 t3 r3, .int .i64 cs, .slice ra4 t4 r4]) := HPR6.out.kept hg7
    clear hg7 k0 k1 k2 k3 k4 j0 j1 j2 j3 j4 HR6 HPR6 HX16
    obtain ⟨j0, j1, j2, j3, j4⟩ := (HPI.out.kept HX17.out).cells
    go_wp2_with fail
    refine Calls.mono (HRE.out w7 _ _ _ _ _ _ _ _ _ (HGI.out.kept (grown_trans HGA.out HX17.out))) ?_
    rintro e w8 ⟨da, db, dc, dd, d1, d2, d3, d4, rfl, hD8', hg8⟩
    have hD8 : CGr C t1 t2 t3 t4 w8 w7.heap.size da db dc dd d1 d2 d3 d4 := hD8'
    obtain ⟨kd, hkd⟩ : ∃ kd, kd = w8.heap.size := ⟨_, rfl⟩
    obtain ⟨X8, hX8⟩ : ∃ X8, X8 = w8.alloc (.cells #[.slice da t1 d1, .slice db t2 d2, .slice dc t3 d3, .int .i64 cs, .slice dd t4 d4] 27) := ⟨_, rfl⟩
    have hgb : w8.grownBy X8 none := by rw [hX8]; exact World.grownBy_alloc _ _ none
    have HX18 : Hid (X1.grownBy X8 none) := grown_trans HX17.out (grown_trans hg8 hgb)
    have HPR8 : Hid (PhAt w X8 kr #[.slice ra1 t1 r1, .slice ra2 t2 r2, .slice ra3 t3 r3, .int .i64 cs, .slice ra4 t4 r4]) := HPR7.out.kept (grown_trans hg8 hgb)
    have HPD8 : Hid (PhAt w X8 kd #[.slice da t1 d1, .slice db t2 d2, .slice dc t3 d3, .int .i64 cs, .slice dd t4 d4]) := ⟨HPR8.out.grown, by rw [hX8, hkd]; exact heap_alloc_last w8 _⟩
    have HR8 : Hid (CGr C t1 t2 t3 t4 X8 X2.heap.size ra1 ra2 ra3 ra4 r1 r2 r3 r4) := HR7.out.kept (grown_trans hg8 hgb)
    have HD8 : Hid (CGr C t1 t2 t3 t4 X8 w7.heap.size da db dc dd d1 d2 d3 d4) := hD8.kept hgb
    have HKS8 : Hid (w1.heap.size ≤ X2.heap.size ∧ w1.heap.size ≤ w7.heap.size ∧ w1.heap.size ≤ kd ∧ w1.heap.size ≤ kr) := by
      have a1 := (grown_trans HGA.out HX12.out).size
      have a2 := (grown_trans HGA.out HX17.out).size
      have a3 := hg8.size
      have a4 := HKS.out.2
      exact ⟨a1, a2, by omega, by omega⟩
    have HXE := show Hid _ from hX8
    have HKD : Hid (kd = w8.heap.size) := hkd
    clear j0 j1 j2 j3 j4 HR7 HPR7 HX17 hD8 hD8' hg8
    obtain ⟨j0, j1, j2, j3, j4⟩ := (HPI.out.kept HX18.out).cells
    rw [hX8] at j0 j1 j2 j3 j4
    clear hgb hX8 hkd
    go_wp2_with fail
    rw [← HXE.out, ← HKD.out]
    refine Calls.mono (HSN.out w1 X8 _ _ _ _ _ _ _ _ _ HGI.out (grown_trans HGA.out HX18.out)) ?_
    rintro e w9 ⟨rfl, hO9⟩
    have HW9 : Hid (w.grownBy w9 none) := hO9.grown HPR8.out.grown (Nat.le_succ _)
    have HD9 : Hid (CGr C t1 t2 t3 t4 w9 w7.heap.size da db dc dd d1 d2 d3 d4) := HD8.out.out hO9 HKS8.out.2.1
    have HR9 : Hid (CGr C t1 t2 t3 t4 w9 X2.heap.size ra1 ra2 ra3 ra4 r1 r2 r3 r4) := HR8.out.out hO9 HKS8.out.1
    have HPR9 : Hid (PhAt w w9 kr #[.slice ra1 t1 r1, .slice ra2 t2 r2, .slice ra3 t3 r3, .int .i64 cs, .slice ra4 t4 r4]) := ⟨HW9.out, box_out HPR8.out.box hO9 (.inr HKS8.out.2.2.2)⟩
    have HPD9 : Hid (PhAt w w9 kd #[.slice da t1 d1, .slice db t2 d2, .slice dc t3 d3, .int .i64 cs, .slice dd t4 d4]) := ⟨HW9.out, box_out HPD8.out.box hO9 (.inr HKS8.out.2.2.1)⟩
    clear hO9 j0 j1 j2 j3 j4 HXE HKD HR8 HPR8 HPD8 HD8
    obtain ⟨j0, j1, j2, j3, j4⟩ := HPD9.out.cells
    obtain ⟨k0, k1, k2, k3, k4⟩ := HPR9.out.cells
    go_wp2_with fail
    refine Calls.mono (HSM.out w9 _ _ _ _ _ _ _ _ _ _ _ _ _ _ _ _ _ _ HD9.out HR9.out) ?_
    rintro e w10 ⟨rfl, hg10⟩
    have HW10 : Hid (w.grownBy w10 none) := grown_trans HW9.out hg10
    clear hg10 j0 j1 j2 j3 j4 k0 k1 k2 k3 k4
    go_wp2_with fail
    refine Calls.mono (eawake_any w10) ?_
    rintro e w11 ⟨rfl, hg11⟩
    have HW11 : Hid (w.grownBy w11 none) := grown_trans HW10.out hg11
    clear hg11
    go_wp2_with fail
    go_ret
    exact ⟨rfl, HW11.out⟩

end Go.Proofs.Ytmkimeojcpadpaa

/-
  A grammar that came in, as the walks take it.
-/
namespace Go.Proofs.Ytmkimeojcpadpaa
open Go.ChangeShapes Go.WideShapes Go.ChangeAt Go.RowKit Go.Deep

theorem cellsInt : Try.prog.cellsOf 3 = 1 := by kernel_rfl
theorem cellsStr : Try.prog.cellsOf 9 = 1 := by kernel_rfl
theorem cellsInts : Try.prog.cellsOf 24 = 1 := by kernel_rfl
theorem cellsTerm : Try.prog.cellsOf 57 = 2 := by kernel_rfl
theorem cellsProd : Try.prog.cellsOf 45 = 3 := by kernel_rfl
theorem cellsTerms : Try.prog.cellsOf 22 = 1 := by kernel_rfl
theorem cellsStrs : Try.prog.cellsOf 23 = 1 := by kernel_rfl
theorem cellsProds : Try.prog.cellsOf 25 = 1 := by kernel_rfl
theorem cellsGram : Try.prog.cellsOf 27 = 5 := by kernel_rfl
theorem bytesInt : Try.prog.bytesOf 3 = 8 := by kernel_rfl
theorem bytesStr : Try.prog.bytesOf 9 = 16 := by kernel_rfl
theorem bytesTerm : Try.prog.bytesOf 57 = 24 := by kernel_rfl
theorem bytesProd : Try.prog.bytesOf 45 = 40 := by kernel_rfl

theorem weights_mem_all {H : Type} {P : Program} {e : TypeId} {d : DataW H} : ∀ {l : List (DataW H)}, d ∈ l → ∀ n ∈ d.weights P e, n ∈ DataW.weightsAll P e l
  | d0 :: l, hd, n, hn => by
    simp only [DataW.weightsAll, List.mem_append]
    rcases List.mem_cons.1 hd with rfl | h
    · exact .inl hn
    · exact .inr (weights_mem_all h n hn)

theorem ints_of_open {W : World} {x : Addr} {len cap : Nat} {zs : List Int} (hl : len ≤ cap) (hz : zs.length = cap) (hc : ∀ i, i < zs.length → W.cell? (x.add i) = some (.int .i64 (zs.getD i 0))) :
    IntsAt W (some x) (zs.take len) := by
  by_cases h0 : len = 0
  · subst h0; exact .inl (by simp)
  · obtain ⟨b, off, spot⟩ := x
    have h1 := hc 0 (by omega)
    have hs : spot = none := by simpa [Addr.add] using World.cell?_spot h1
    subst hs
    refine .inr ⟨b, off, rfl, fun i hi => ?_⟩
    have hi' : i < len := by simp at hi; omega
    have h2 := hc i (by omega)
    rw [Addr.add_mid] at h2
    rw [h2]
    congr 2
    simp [List.getD, hi']
theorem strs_of_open {W : World} {x : Addr} {len cap : Nat} {zs : List ByteArray} (hl : len ≤ cap) (hz : zs.length = cap) (hc : ∀ i, i < zs.length → W.cell? (x.add i) = some (.string (zs.getD i ByteArray.empty))) :
    StrsAt W (some x) (zs.take len) := by
  by_cases h0 : len = 0
  · subst h0; exact .inl (by simp)
  · obtain ⟨b, off, spot⟩ := x
    have h1 := hc 0 (by omega)
    have hs : spot = none := by simpa [Addr.add] using World.cell?_spot h1
    subst hs
    refine .inr ⟨b, off, rfl, fun i hi => ?_⟩
    have hi' : i < len := by simp at hi; omega
    have h2 := hc i (by omega)
    rw [Addr.add_mid] at h2
    rw [h2]
    congr 2
    have hi2 : i < zs.length := by omega
    simp [List.getD, hi', hi2]

section
variable {H : Type} {enc : TypeId × Value → H} {W : World} {fuel : Nat} {cs : List Value} {x : DataW H × List MemPlace}

theorem open_ints_in (h : DataW.trod enc Try.prog W 0 (fun _ => true) true fuel 24 cs = some x) (hw : ∀ n ∈ x.1.weights Try.prog 24, n ≤ reachBytes) :
    ∃ (a : Option Addr) (l : List Int) (c : Nat), cs = [.slice a l.length c] ∧ IntsAt W a l ∧ l.length ≤ 17592186044416 ∧ l.length ≤ c ∧ (a = none → l.length = 0 ∧ c = 0) ∧ ∀ z ∈ l, (Lit.int .i64 z).wf = true := by
  rcases open_ints Try.underlying24 Try.underlying3 cellsInt h with ⟨hcs, _⟩ | ⟨y, l, c, zs, hcs, _, hl, hm, hz, hx, hcell, hwz⟩
  · exact ⟨none, [], 0, hcs, .inl rfl, by decide, Nat.le_refl _, fun _ => ⟨rfl, rfl⟩, by simp⟩
  · have hz' : zs.length = c := by simpa using hz
    have hlen : (zs.take l).length = l := by rw [List.length_take]; omega
    refine ⟨some y, zs.take l, c, by rw [hlen]; exact hcs, ints_of_open hl hz' hcell, ?_, by rw [hlen]; exact hl, (fun h => by cases h), fun z hz => hwz z (List.mem_of_mem_take hz)⟩
    have := hw ((lits (H := H) .i64 (zs.take l)).length * 8 + (lits (H := H) .i64 (zs.drop l)).length * 8) (by rw [hx]; simp [DataW.weights, Try.underlying24, bytesInt, Nat.add_mul])
    simp only [lits, List.length_map, List.length_take, List.length_drop, reachBytes] at this
    rw [hlen]
    omega

theorem open_strs_in (h : DataW.trod enc Try.prog W 0 (fun _ => true) true fuel 23 cs = some x) (hw : ∀ n ∈ x.1.weights Try.prog 23, n ≤ reachBytes) :
    ∃ (a : Option Addr) (l : List ByteArray) (c : Nat), cs = [.slice a l.length c] ∧ StrsAt W a l ∧ l.length ≤ 8796093022208 ∧ l.length ≤ c ∧ (a = none → l.length = 0 ∧ c = 0) ∧ ∀ s ∈ l, s.size ≤ 140737488355328 := by
  rcases open_strings Try.underlying23 Try.underlying9 cellsStr h with ⟨hcs, _⟩ | ⟨y, l, c, zs, hcs, _, hl, hm, hz, hx, hcell, hwz⟩
  · exact ⟨none, [], 0, hcs, .inl rfl, by decide, Nat.le_refl _, fun _ => ⟨rfl, rfl⟩, by simp⟩
  · have hz' : zs.length = c := by simpa using hz
    have hlen : (zs.take l).length = l := by rw [List.length_take]; omega
    refine ⟨some y, zs.take l, c, by rw [hlen]; exact hcs, strs_of_open hl hz' hcell, ?_, by rw [hlen]; exact hl, (fun h => by cases h), fun s hs => ?_⟩
    rotate_left
    · have := hw s.data.toList.length (by
        rw [hx]
        simp only [DataW.weights, Try.underlying23, List.mem_cons, List.mem_append]
        exact .inr (.inl (weights_mem_all (List.mem_map.2 ⟨s, hs, rfl⟩) _ (by simp [DataW.weights]))))
      have e : s.data.toList.length = s.size := by simp
      unfold reachBytes at this
      omega
    have := hw ((strs (H := H) (zs.take l)).length * 16 + (strs (H := H) (zs.drop l)).length * 16) (by rw [hx]; simp [DataW.weights, Try.underlying23, bytesStr, Nat.add_mul])
    simp only [strs, List.length_map, List.length_take, List.length_drop, reachBytes] at this
    rw [hlen]
    omega

set_option maxRecDepth 100000 in
theorem open_terms_in (h : DataW.trod enc Try.prog W 0 (fun _ => true) true fuel 22 cs = some x) (hw : ∀ n ∈ x.1.weights Try.prog 22, n ≤ reachBytes) :
    ∃ (a : Option Addr) (l : List (ByteArray × Int)) (c : Nat), cs = [.slice a l.length c] ∧ TermsAt W a l ∧ l.length ≤ 5864062014805 ∧ l.length ≤ c ∧ (a = none → l.length = 0 ∧ c = 0) ∧ ∀ t ∈ l, (Lit.int .i64 t.2).wf = true ∧ t.1.size ≤ 140737488355328 := by
  rcases open_slice Try.underlying22 h with ⟨hcs, _⟩ | ⟨ad, len, cap, m, n, D, Pl, hcs, _, hl, hm, hmm, hx, heach⟩
  · exact ⟨none, [], 0, hcs, .inl rfl, by decide, Nat.le_refl _, fun _ => ⟨rfl, rfl⟩, by simp⟩
  · simp only [if_true] at hmm
    subst hx
    rw [cellsTerm] at heach
    have hlen : len ≤ 5864062014805 := by
      have := hw (((List.range len).map D).length * 24 + ((List.range (m - len)).map fun j => D (len + j)).length * 24) (by simp [DataW.weights, Try.underlying22, bytesTerm, Nat.add_mul])
      simp only [List.length_map, List.length_range, reachBytes] at this
      omega
    have each : ∀ i, i < len → ∃ t : ByteArray × Int, ∃ b off, ad = ⟨b, off, none⟩ ∧ W.cell? ⟨b, off + i * 2, none⟩ = some (.string t.1) ∧ W.cell? ⟨b, off + i * 2 + 1, none⟩ = some (.int .i64 t.2) ∧ (Lit.int .i64 t.2).wf = true ∧ t.1.size ≤ 140737488355328 := by
      intro i hi
      obtain ⟨cs', h1, h2⟩ := heach i (by omega)
      obtain ⟨_, hcl, hcell⟩ := World.cells?_some h1
      obtain ⟨xs, k, hk, hxy, _, hxl, hfs⟩ := DataW.trod_struct Try.underlying57 h2
      match xs, hxl, cs', hcl with
      | [y0, y1], _, [v0, v1], _ =>
        have g0 := hfs 0 _ rfl
        have g1 := hfs 1 _ rfl
        simp [cellsInt, cellsStr] at g0 g1
        simp only [Prod.mk.injEq] at hxy
        obtain ⟨s0, e0, ed0, _⟩ := DataW.trod_string Try.underlying9 g0
        have hsz : s0.size ≤ 140737488355328 := by
          have := hw s0.data.toList.length (by
            simp only [DataW.weights, Try.underlying22, List.mem_cons, List.mem_append]
            refine .inr (.inl (weights_mem_all (List.mem_map.2 ⟨i, List.mem_range.2 hi, rfl⟩) _ ?_))
            rw [hxy.1]
            simp only [DataW.weights, Try.underlying57]
            refine DataW.weights_mem_each (j := 0) (t := 9) (d := y0.1) rfl rfl _ ?_
            rw [show y0.1 = .lit (.string s0.data.toList) from congrArg Prod.fst ed0]
            simp [DataW.weights])
          have e : s0.data.toList.length = s0.size := by simp
          unfold reachBytes at this
          omega
        obtain ⟨z1, e1, _, w1⟩ := DataW.trod_int Try.underlying3 g1
        simp only [List.cons.injEq, and_true] at e0 e1
        subst e0 e1
        have c0 := hcell 0 (by omega)
        have c1 := hcell 1 (by omega)
        rw [Deep.add_add] at c0 c1
        obtain ⟨b, off, spot⟩ := ad
        have hs : spot = none := by
          obtain ⟨cs0, h10, _⟩ := heach 0 (by omega)
          obtain ⟨_, hcl0, hcell0⟩ := World.cells?_some h10
          have q0 := hcell0 0 (by omega)
          rw [List.getElem?_eq_getElem (by omega)] at q0
          simpa [Addr.add] using World.cell?_spot q0
        subst hs
        rw [add_plain] at c0 c1
        exact ⟨(s0, z1), b, off, rfl, by simpa using c0, by simpa [Nat.add_assoc] using c1, w1, hsz⟩
    obtain ⟨S, hS⟩ := choose_lt (α := ByteArray × Int) each
    have hg : ∀ i, i < len → ((List.range len).map S).getD i (⟨#[]⟩, 0) = S i := fun i hi => by simp [List.getD, hi]
    refine ⟨some ad, (List.range len).map S, cap, by simpa using hcs, ?_, by simpa using hlen, by simpa using hl, fun h => (by cases h), fun t ht => ?_⟩
    · by_cases h0 : len = 0
      · subst h0; exact .inl (by simp)
      · obtain ⟨b, off, rfl, _⟩ := hS 0 (by omega)
        refine .inr ⟨b, off, rfl, fun i hi => ?_⟩
        have hi' : i < len := by simpa using hi
        obtain ⟨b', off', e, r1, r2, _⟩ := hS i hi'
        simp only [Addr.mk.injEq, and_true] at e
        obtain ⟨rfl, rfl⟩ := e
        rw [hg i hi']
        exact ⟨r1, r2⟩
    · obtain ⟨i, hi, rfl⟩ := List.mem_map.1 ht
      obtain ⟨_, _, _, _, _, hwf⟩ := hS i (by simpa using hi)
      exact hwf

set_option maxRecDepth 100000 in
theorem open_prods_in (h : DataW.trod enc Try.prog W 0 (fun _ => true) true fuel 25 cs = some x) (hw : ∀ n ∈ x.1.weights Try.prog 25, n ≤ reachBytes) :
    ∃ (a : Option Addr) (n c : Nat) (L V : Nat → Int) (R : Nat → List Int) (ra : Nat → Option Addr) (rc : Nat → Nat), cs = [.slice a n c] ∧ ProdsAt W a n L R ra rc V ∧ n ≤ 3518437208883 ∧ n ≤ c ∧ (a = none → n = 0 ∧ c = 0) ∧ ∀ i, i < n → (R i).length ≤ rc i ∧ (Lit.int .i64 (L i)).wf = true ∧ (Lit.int .i64 (V i)).wf = true ∧ ∀ z ∈ R i, (Lit.int .i64 z).wf = true := by
  rcases open_slice Try.underlying25 h with ⟨hcs, _⟩ | ⟨ad, len, cap, m, n, D, Pl, hcs, _, hl, hm, hmm, hx, heach⟩
  · exact ⟨none, 0, 0, fun _ => 0, fun _ => 0, fun _ => [], fun _ => none, fun _ => 0, hcs, .inl rfl, by decide, Nat.le_refl _, fun _ => ⟨rfl, rfl⟩, fun i hi => absurd hi (Nat.not_lt_zero i)⟩
  · simp only [if_true] at hmm
    subst hx
    rw [cellsProd] at heach
    have hlen : len ≤ 3518437208883 := by
      have := hw (((List.range len).map D).length * 40 + ((List.range (m - len)).map fun j => D (len + j)).length * 40) (by simp [DataW.weights, Try.underlying25, bytesProd, Nat.add_mul])
      simp only [List.length_map, List.length_range, reachBytes] at this
      omega
    have each : ∀ i, i < len → ∃ t : Int × Int × List Int × Option Addr × Nat, ∃ b off, ad = ⟨b, off, none⟩ ∧ (W.cell? ⟨b, off + i * 3, none⟩ = some (.int .i64 t.1) ∧ W.cell? ⟨b, off + i * 3 + 1, none⟩ = some (.slice t.2.2.2.1 t.2.2.1.length t.2.2.2.2) ∧ W.cell? ⟨b, off + i * 3 + 2, none⟩ = some (.int .i64 t.2.1) ∧ IntsAt W t.2.2.2.1 t.2.2.1 ∧ (t.2.2.2.1 = none → t.2.2.2.2 = 0) ∧ t.2.2.1.length ≤ 17592186044416) ∧
        t.2.2.1.length ≤ t.2.2.2.2 ∧ (Lit.int .i64 t.1).wf = true ∧ (Lit.int .i64 t.2.1).wf = true ∧ ∀ z ∈ t.2.2.1, (Lit.int .i64 z).wf = true := by
      intro i hi
      obtain ⟨cs', h1, h2⟩ := heach i (by omega)
      obtain ⟨_, hcl, hcell⟩ := World.cells?_some h1
      obtain ⟨xs, k, hk, hxy, _, hxl, hfs⟩ := DataW.trod_struct Try.underlying45 h2
      have hDw : ∀ n ∈ (D i).weights Try.prog 45, n ≤ reachBytes := fun q hq => hw q (by
        simp only [DataW.weights, Try.underlying25, List.mem_cons, List.mem_append]
        exact .inr (.inl (weights_mem_all (List.mem_map.2 ⟨i, List.mem_range.2 hi, rfl⟩) q hq)))
      match xs, hxl, cs', hcl with
      | [y0, y1, y2], _, [v0, v1, v2], _ =>
        have g0 := hfs 0 _ rfl
        have g1 := hfs 1 _ rfl
        have g2 := hfs 2 _ rfl
        simp [cellsInt, cellsInts] at g0 g1 g2
        simp only [Prod.mk.injEq] at hxy
        have hw1 : ∀ n ∈ y1.1.weights Try.prog 24, n ≤ reachBytes := fun q hq => hDw q (by
          rw [hxy.1]
          simp only [DataW.weights, Try.underlying45]
          exact DataW.weights_mem_each (j := 1) (t := 24) (d := y1.1) rfl rfl q hq)
        obtain ⟨z0, e0, _, w0⟩ := DataW.trod_int Try.underlying3 g0
        obtain ⟨la, l, lc, e1, hints, hll, hlc, hnil, hwl⟩ := open_ints_in g1 hw1
        obtain ⟨z2, e2, _, w2⟩ := DataW.trod_int Try.underlying3 g2
        simp only [List.cons.injEq, and_true] at e0 e1 e2
        subst e0 e1 e2
        have c0 := hcell 0 (by omega)
        have c1 := hcell 1 (by omega)
        have c2 := hcell 2 (by omega)
        rw [Deep.add_add] at c0 c1 c2
        obtain ⟨b, off, spot⟩ := ad
        have hs : spot = none := by
          obtain ⟨cs0, h10, _⟩ := heach 0 (by omega)
          obtain ⟨_, hcl0, hcell0⟩ := World.cells?_some h10
          have q0 := hcell0 0 (by omega)
          rw [List.getElem?_eq_getElem (by omega)] at q0
          simpa [Addr.add] using World.cell?_spot q0
        subst hs
        rw [add_plain] at c0 c1 c2
        exact ⟨(z0, z2, l, la, lc), b, off, rfl, ⟨by simpa using c0, by simpa [Nat.add_assoc] using c1, by simpa [Nat.add_assoc] using c2, hints, fun h => (hnil h).2, hll⟩, hlc, w0, w2, hwl⟩
    obtain ⟨S, hS⟩ := choose_lt (α := Int × Int × List Int × Option Addr × Nat) each
    refine ⟨some ad, len, cap, fun i => (S i).1, fun i => (S i).2.1, fun i => (S i).2.2.1, fun i => (S i).2.2.2.1, fun i => (S i).2.2.2.2, hcs, ?_, hlen, hl, fun h => (by cases h), fun i hi => ?_⟩
    · by_cases h0 : len = 0
      · exact .inl h0
      · obtain ⟨b, off, rfl, _⟩ := hS 0 (by omega)
        refine .inr ⟨b, off, rfl, fun i hi => ?_⟩
        obtain ⟨b', off', e, r, _⟩ := hS i hi
        simp only [Addr.mk.injEq, and_true] at e
        obtain ⟨rfl, rfl⟩ := e
        exact r
    · obtain ⟨_, _, _, _, r⟩ := hS i hi
      exact r

/-- What else is known of a grammar that came in. -/
structure GIn (ta la : Option Addr) (tc lc : Nat) (ts : List (ByteArray × Int)) (lv : List Int) (n : Nat) (L : Nat → Int) (R : Nat → List Int) (rc : Nat → Nat) (V : Nat → Int) (st : Int) (ns : List ByteArray) : Prop where
  tn : ts.length ≤ 5864062014805
  nn : ns.length ≤ 8796093022208
  pn : n ≤ 3518437208883
  tnil : ta = none → ts.length = 0 ∧ tc = 0
  lnil : la = none → lv.length = 0 ∧ lc = 0
  lcap : lv.length ≤ lc
  rcap : ∀ i, i < n → (R i).length ≤ rc i
  lvl : ∀ t ∈ ts, (Lit.int .i64 t.2).wf = true ∧ t.1.size ≤ 140737488355328
  nsz : ∀ s ∈ ns, s.size ≤ 140737488355328
  lvw : ∀ z ∈ lv, (Lit.int .i64 z).wf = true
  stw : (Lit.int .i64 st).wf = true
  prw : ∀ i, i < n → (Lit.int .i64 (L i)).wf = true ∧ (Lit.int .i64 (V i)).wf = true ∧ ∀ z ∈ R i, (Lit.int .i64 z).wf = true

set_option maxRecDepth 100000 in
theorem open_gram {base : Nat} {v : Value} {d : DataW H} {p : List MemPlace} (hv : Value.okWide Try.prog W .any base 27 v) (h : DataW.Trod enc Try.prog W 0 (fun _ => true) true 27 v d p) (hw : ∀ n ∈ d.weights Try.prog 27, n ≤ reachBytes) :
    ∃ ta na la pa tc nc lc pc ts ns lv n L R ra rc V st, v = .agg #[.slice ta ts.length tc, .slice na ns.length nc, .slice la lv.length lc, .int .i64 st, .slice pa n pc] ∧ GAt W ta na la pa tc nc lc pc ts ns lv n L R ra rc V ∧ GIn ta la tc lc ts lv n L R rc V st ns := by
  obtain ⟨cs, rfl, hsz⟩ := okWide_struct Try.underlying27 hv
  obtain ⟨fuel, hf⟩ := h
  obtain ⟨xs, k, hk, hxy, hcl, hxl, hfs⟩ := DataW.trod_struct Try.underlying27 hf
  rw [cellsGram] at hsz
  obtain ⟨l, rfl⟩ : ∃ l : List Value, cs = l.toArray := ⟨cs.toList, by simp⟩
  simp only [Value.cells] at hfs hcl
  have hl : l.length = 5 := by simpa using hsz
  match xs, hxl, l, hl with
  | [y0, y1, y2, y3, y4], _, [v0, v1, v2, v3, v4], _ =>
    have g0 := hfs 0 _ rfl
    have g1 := hfs 1 _ rfl
    have g2 := hfs 2 _ rfl
    have g3 := hfs 3 _ rfl
    have g4 := hfs 4 _ rfl
    simp [cellsInt, cellsInts, cellsTerms, cellsStrs, cellsProds] at g0 g1 g2 g3 g4
    simp only [Prod.mk.injEq] at hxy
    have hwj : ∀ (j : Nat) (t : TypeId) (y : DataW H × List MemPlace), ((Try.prog.fieldsOf 27).toList.map (·.type))[j]? = some t → ([y0, y1, y2, y3, y4].map (·.1))[j]? = some y.1 → ∀ n ∈ y.1.weights Try.prog t, n ≤ reachBytes := fun j t y h1 h2 q hq => hw q (by
      rw [hxy.1]
      simp only [DataW.weights, Try.underlying27]
      simp only [Program.fieldsOf, Try.underlying27] at h1
      exact DataW.weights_mem_each (j := j) (t := t) (d := y.1) h1 h2 q hq)
    have hw0 := hwj 0 22 y0 (by kernel_rfl) rfl
    have hw1 := hwj 1 23 y1 (by kernel_rfl) rfl
    have hw2 := hwj 2 24 y2 (by kernel_rfl) rfl
    have hw4 := hwj 4 25 y4 (by kernel_rfl) rfl
    obtain ⟨ta, ts, tc, e0, hT, hTl, hTc, hTn, hTw⟩ := open_terms_in g0 hw0
    obtain ⟨na, ns, nc, e1, hN, hNl, hNc, hNn, hNs⟩ := open_strs_in g1 hw1
    obtain ⟨la, lv, lc, e2, hL, hLl, hLc, hLn, hLw⟩ := open_ints_in g2 hw2
    obtain ⟨st, e3, _, w3⟩ := DataW.trod_int Try.underlying3 g3
    obtain ⟨pa, n, pc, L, V, R, ra, rc, e4, hP, hPl, hPc, hPn, hPw⟩ := open_prods_in g4 hw4
    simp only [List.cons.injEq, and_true] at e0 e1 e2 e3 e4
    subst e0 e1 e2 e3 e4
    exact ⟨ta, na, la, pa, tc, nc, lc, pc, ts, ns, lv, n, L, R, ra, rc, V, st, rfl, ⟨hT, hN, hL, hP, hTc, hNc, hPc, hNn, hPn, by omega, by omega, by omega, by omega⟩, hTl, hNl, hPl, hTn, hLn, hLc, fun i hi => (hPw i hi).1, hTw, hNs, hLw, w3, fun i hi => (hPw i hi).2⟩
end

end Go.Proofs.Ytmkimeojcpadpaa
