/-
  ReachMore of a plain grammar, walked.
-/
import Derived.Test.YtmkimeojcpadpaaQkkcpmcdfamil
namespace Go.Proofs.Ytmkimeojcpadpaa
open Go.RowKit Go.Maps Go.Shelf

attribute [local go_sem] Oper.semAt_some

theorem GramNew.lower {X : World} {B B' : Nat} {G : GR} {vt vn vl vp : Value} (h : GramNew X B' G vt vn vl vp) (hB : B ≤ B') : GramNew X B G vt vn vl vp := by
  obtain ⟨rg, p1, p2⟩ := h.prods
  exact ⟨owns_lower h.terms hB, owns_lower h.nons hB, owns_lower h.levels hB, rg, owns_lower p1 hB, fun i hi => owns_lower (p2 i hi) hB⟩

theorem push_at {n : Nat} {L : Nat → Int} {R : Nat → List Int} {V : Nat → Int} {p : PR} : (∀ i, i < n → (((List.range n).map fun i => (⟨L i, R i, V i⟩ : PR)) ++ [p]).getD i ⟨0, [], 0⟩ = ⟨L i, R i, V i⟩) ∧ (((List.range n).map fun i => (⟨L i, R i, V i⟩ : PR)) ++ [p]).getD n ⟨0, [], 0⟩ = p ∧ (((List.range n).map fun i => (⟨L i, R i, V i⟩ : PR)) ++ [p]).length = n + 1 := by
  refine ⟨fun i hi => ?_, ?_, by simp⟩
  · simp [List.getD, List.getElem?_append_left (show i < ((List.range n).map fun i => (⟨L i, R i, V i⟩ : PR)).length by simpa using hi), hi]
  · simp [List.getD]

/-- What Productive tells of the grammar with a production more. -/
theorem more_told {ts : List (ByteArray × Int)} {ns : List ByteArray} {lv : List Int} {n : Nat} {L : Nat → Int} {R : Nat → List Int} {V : Nat → Int} {st : Int} {tn nn ln : Nat} (hlen : ts.length = tn ∧ ns.length = nn ∧ lv.length = ln) (hval : validOK ts ns lv st n L R V) {F G : Nat → Bool} (hM : MarksOf tn nn n st L R false F G) (r : Nat) (hr : r < nn) (l : List Int) (hl : ∀ x ∈ l, (0 : Int) < x ∧ x < ((tn + nn : Nat) : Int)) :
    ∃ (ec : Int) (m : Nat) (F' : Nat → Bool), ((n = 96 ∧ ec = 1 ∧ m = 0) ∨ (n < 96 ∧ ec = 0 ∧ m = nn ∧ ∀ i, F i = true → F' i = true)) ∧ ∀ (X : World) (ta na la pa : Option Addr) (tc nc lc pc : Nat) (ra : Nat → Option Addr) (rc : Nat → Nat), GAt X ta na la pa tc nc lc pc ts ns lv (n + 1) (fun i => ((((List.range n).map fun i => (⟨L i, R i, V i⟩ : PR)) ++ [(⟨((tn + r : Nat) : Int), l, 0⟩ : PR)]).getD i ⟨0, [], 0⟩).left) (fun i => ((((List.range n).map fun i => (⟨L i, R i, V i⟩ : PR)) ++ [(⟨((tn + r : Nat) : Int), l, 0⟩ : PR)]).getD i ⟨0, [], 0⟩).right) ra rc (fun i => ((((List.range n).map fun i => (⟨L i, R i, V i⟩ : PR)) ++ [(⟨((tn + r : Nat) : Int), l, 0⟩ : PR)]).getD i ⟨0, [], 0⟩).level) → Calls Try.prog 9 #[.agg #[.slice ta tn tc, .slice na nn nc, .slice la ln lc, .int .i64 st, .slice pa (n + 1) pc]] X fun e y => MTold ec m F' X e y := by
  obtain ⟨p1, p2, p3⟩ := push_at (n := n) (L := L) (R := R) (V := V) (p := ⟨((tn + r : Nat) : Int), l, 0⟩)
  obtain ⟨L', hL'⟩ : ∃ L' : Nat → Int, L' = fun i => ((((List.range n).map fun i => (⟨L i, R i, V i⟩ : PR)) ++ [(⟨((tn + r : Nat) : Int), l, 0⟩ : PR)]).getD i ⟨0, [], 0⟩).left := ⟨_, rfl⟩
  obtain ⟨R', hR'⟩ : ∃ R' : Nat → List Int, R' = fun i => ((((List.range n).map fun i => (⟨L i, R i, V i⟩ : PR)) ++ [(⟨((tn + r : Nat) : Int), l, 0⟩ : PR)]).getD i ⟨0, [], 0⟩).right := ⟨_, rfl⟩
  obtain ⟨V', hV'⟩ : ∃ V' : Nat → Int, V' = fun i => ((((List.range n).map fun i => (⟨L i, R i, V i⟩ : PR)) ++ [(⟨((tn + r : Nat) : Int), l, 0⟩ : PR)]).getD i ⟨0, [], 0⟩).level := ⟨_, rfl⟩
  have eL : ∀ i, i < n → L i = L' i := fun i hi => by rw [hL']; show _ = PR.left _; rw [p1 i hi]
  have eR : ∀ i, i < n → R i = R' i := fun i hi => by rw [hR']; show _ = PR.right _; rw [p1 i hi]
  have eV : ∀ i, i < n → V i = V' i := fun i hi => by rw [hV']; show _ = PR.level _; rw [p1 i hi]
  have eLn : L' n = ((tn + r : Nat) : Int) := by rw [hL']; show PR.left _ = _; rw [p2]
  have eRn : R' n = l := by rw [hR']; show PR.right _ = _; rw [p2]
  have eVn : V' n = 0 := by rw [hV']; show PR.level _ = _; rw [p2]
  rw [← hL', ← hR', ← hV']
  have hC : false = true ↔ closedOK ts ns lv st (n + 1) L' R' V' := ⟨fun h => (by cases h), fun h => absurd h.1.name (valid_name hval)⟩
  have hcnt : n ≤ 96 := hval.1.cnt
  by_cases hn : n < 96
  · have hv : validOK ts ns lv st (n + 1) L' R' V' := more_valid hval eL eR eV r (by rw [hlen.2.1]; exact hr) (by rw [hlen.1]; exact eLn) (by rw [eRn, hlen.1, hlen.2.1]; exact hl) eVn hn
    have hV : true = true ↔ validOK ts ns lv st (n + 1) L' R' V' := ⟨fun _ => hv, fun _ => rfl⟩
    obtain ⟨F', G', hM'⟩ := marks_of hlen hV hC
    exact ⟨0, nn, F', .inr ⟨hn, rfl, rfl, more_marks hM (hM' rfl) eL eR⟩, fun X ta na la pa tc nc lc pc ra rc hX => productive_any ta na la pa tc nc lc pc ts ns lv (n + 1) L' R' ra rc V' st X tn nn ln hlen hX true false hV hC F' G' hM'⟩
  · have hno : ¬ validOK ts ns lv st (n + 1) L' R' V' := fun h => by have := h.1.cnt; omega
    have hV : false = true ↔ validOK ts ns lv st (n + 1) L' R' V' := ⟨fun h => (by cases h), fun h => absurd h hno⟩
    exact ⟨1, 0, fun _ => false, .inl ⟨by omega, rfl, rfl⟩, fun X ta na la pa tc nc lc pc ra rc hX => productive_any ta na la pa tc nc lc pc ts ns lv (n + 1) L' R' ra rc V' st X tn nn ln hlen hX false false hV hC (fun _ => false) (fun _ => false) (fun h => by cases h)⟩

section
variable (ta na la pa : Option Addr) (tc nc lc pc : Nat) (ts : List (ByteArray × Int)) (ns : List ByteArray) (lv : List Int) (n : Nat) (L : Nat → Int) (R : Nat → List Int) (ra : Nat → Option Addr) (rc : Nat → Nat) (V : Nat → Int) (st : Int) (w : World) (tn nn ln : Nat) (hlen : ts.length = tn ∧ ns.length = nn ∧ lv.length = ln) (hG : GAt w ta na la pa tc nc lc pc ts ns lv n L R ra rc V) (hnt : ta = none → tn = 0 ∧ tc = 0) (hnl : la = none → ln = 0 ∧ lc = 0) (hts : ∀ t ∈ ts, t.1.size ≤ 140737488355328) (hns : ∀ s ∈ ns, s.size ≤ 140737488355328)
include hlen hG hnt hnl hts hns

set_option maxRecDepth 100000 in
set_option maxHeartbeats 1000000 in
theorem more_ok (left : Int) (hleft : -9223372036854775808 ≤ left ∧ left ≤ 9223372036854775807) (wa : Option Addr) (wcp : Nat) (row : List Int) (hI : IntsAt w wa row) (hrow : ∀ z ∈ row, -9223372036854775808 ≤ z ∧ z ≤ 9223372036854775807) (hval : validOK ts ns lv st n L R V) :
    Calls Try.prog 7 #[.agg #[.slice ta tn tc, .slice na nn nc, .slice la ln lc, .int .i64 st, .slice pa n pc], .int .i64 left, .slice wa row.length wcp] w fun e w' => e = .returned (.bool true) ∧ w.grownBy w' none := by
  have hC : false = true ↔ closedOK ts ns lv st n L R V := ⟨fun h => (by cases h), fun h => absurd h.1.name (valid_name hval)⟩
  have hV : true = true ↔ validOK ts ns lv st n L R V := ⟨fun _ => hval, fun _ => rfl⟩
  obtain ⟨F, G, hM0⟩ := marks_of hlen hV hC
  have hM := hM0 rfl
  have htn : tn ≤ 65 := hM.may.tmax
  have hnn : nn ≤ 65 := hM.may.nmax
  have hn0 : 0 < nn := hM.may.n0
  have ht0 : 0 < tn := hM.may.t0
  have hpn : n ≤ 96 := hval.1.cnt
  have HCP : Hid (∀ X, w.grownBy X none → Calls Try.prog 8 #[.agg #[.slice ta tn tc, .slice na nn nc, .slice la ln lc, .int .i64 st, .slice pa n pc]] X fun e w' => ∃ ta' na' la' pa' tc' nc' lc' pc', e = .returned (.agg #[.slice ta' tn tc', .slice na' nn nc', .slice la' ln lc', .int .i64 st, .slice pa' n pc']) ∧ GramNew w' X.heap.size (grOf ts ns lv st n L R V) (.slice ta' tn tc') (.slice na' nn nc') (.slice la' ln lc') (.slice pa' n pc') ∧ X.grownBy w' none) := fun X hX => by
    have hll := hG.llen
    rw [hlen.2.2] at hll
    refine (rcopy_core ta na la pa tn nn ln n tc nc lc pc st ts ns lv L R ra rc V X hlen (hG.kept hX) hnt hnl (by omega) (by omega) (by omega) (by omega)).mono ?_
    rintro e w' ⟨vt, vn, vl, vp, rfl, hN, hg⟩
    obtain ⟨a1, c1, e1⟩ := owns_slice hN.terms
    obtain ⟨a2, c2, e2⟩ := owns_slice hN.nons
    obtain ⟨a3, c3, e3⟩ := owns_slice hN.levels
    obtain ⟨rg, p1, _⟩ := hN.prods
    obtain ⟨a4, c4, e4⟩ := owns_slice p1
    have e1' : vt = .slice a1 tn c1 := by rw [e1]; show Value.slice a1 ts.length c1 = _; rw [hlen.1]
    have e2' : vn = .slice a2 nn c2 := by rw [e2]; show Value.slice a2 ns.length c2 = _; rw [hlen.2.1]
    have e3' : vl = .slice a3 ln c3 := by rw [e3]; show Value.slice a3 lv.length c3 = _; rw [hlen.2.2]
    have e4' : vp = .slice a4 n c4 := by rw [e4, grOf_len]
    subst e1' e2' e3' e4'
    exact ⟨a1, a2, a3, a4, c1, c2, c3, c4, rfl, hN, hg⟩
  have HGR : Hid (∀ (X : World) (B : Nat) (ta' na' la' pa' : Option Addr) (tc' nc' lc' pc' : Nat), GramNew X B (grOf ts ns lv st n L R V) (.slice ta' tn tc') (.slice na' nn nc') (.slice la' ln lc') (.slice pa' n pc') → Calls Try.prog 9 #[.agg #[.slice ta' tn tc', .slice na' nn nc', .slice la' ln lc', .int .i64 st, .slice pa' n pc']] X fun e y => MTold 0 nn F X e y) := fun X B ta' na' la' pa' tc' nc' lc' pc' hN => by
    obtain ⟨a1, a2, a3, a4, c1, c2, c3, c4, ra', rc', e1, e2, e3, e4, hX, _⟩ := hN.read hG.tlen hG.nlen hG.llen hG.plen (fun i hi => by
      rcases hG.prods with h | ⟨b, off, e, h⟩
      · omega
      · exact (h i hi).2.2.2.2.2)
    rw [hlen.1] at e1
    rw [hlen.2.1] at e2
    rw [hlen.2.2] at e3
    rw [e1, e2, e3, e4]
    exact productive_any a1 a2 a3 a4 c1 c2 c3 c4 ts ns lv n L R ra' rc' V st X tn nn ln hlen hX true false hV hC F G hM0
  have HMT : Hid (∀ (r : Nat) (l : List Int), r < nn → (∀ x ∈ l, (0 : Int) < x ∧ x < ((tn + nn : Nat) : Int)) → ∃ (ec : Int) (m : Nat) (F' : Nat → Bool), ((n = 96 ∧ ec = 1 ∧ m = 0) ∨ (n < 96 ∧ ec = 0 ∧ m = nn ∧ ∀ i, F i = true → F' i = true)) ∧ ∀ (X : World) (B : Nat) (ta' na' la' pa' : Option Addr) (tc' nc' lc' pc' : Nat), l.length ≤ 6 → GramNew X B ⟨ts, ns, lv, st, ((List.range n).map fun i => (⟨L i, R i, V i⟩ : PR)) ++ [(⟨((tn + r : Nat) : Int), l, 0⟩ : PR)]⟩ (.slice ta' tn tc') (.slice na' nn nc') (.slice la' ln lc') (.slice pa' (n + 1) pc') → Calls Try.prog 9 #[.agg #[.slice ta' tn tc', .slice na' nn nc', .slice la' ln lc', .int .i64 st, .slice pa' (n + 1) pc']] X fun e y => MTold ec m F' X e y) := fun r l hr hl => by
    obtain ⟨ec, m, F', hcase, hcall⟩ := more_told hlen hval hM r hr l hl
    obtain ⟨p1, p2, p3⟩ := push_at (n := n) (L := L) (R := R) (V := V) (p := ⟨((tn + r : Nat) : Int), l, 0⟩)
    refine ⟨ec, m, F', hcase, fun X B ta' na' la' pa' tc' nc' lc' pc' hl6 hN => ?_⟩
    have hN' : GramNew X B ⟨ts, ns, lv, st, ((List.range n).map fun i => (⟨L i, R i, V i⟩ : PR)) ++ [(⟨((tn + r : Nat) : Int), l, 0⟩ : PR)]⟩ (.slice ta' ts.length tc') (.slice na' ns.length nc') (.slice la' lv.length lc') (.slice pa' (((List.range n).map fun i => (⟨L i, R i, V i⟩ : PR)) ++ [(⟨((tn + r : Nat) : Int), l, 0⟩ : PR)]).length pc') := by rw [hlen.1, hlen.2.1, hlen.2.2, p3]; exact hN
    obtain ⟨ra', rc', hX⟩ := GramNew.gat hN' hG.tlen hG.nlen hG.llen (by show (((List.range n).map fun i => (⟨L i, R i, V i⟩ : PR)) ++ [_]).length ≤ _; rw [p3]; omega) (fun i hi => by
      have hi' : i < n + 1 := by rw [← p3]; exact hi
      show ((((List.range n).map fun i => (⟨L i, R i, V i⟩ : PR)) ++ [_]).getD i ⟨0, [], 0⟩).right.length ≤ _
      by_cases e : i = n
      · rw [e, p2]; show l.length ≤ _; omega
      · rw [p1 i (by omega)]
        rcases hG.prods with h | ⟨b, off, e', h⟩
        · omega
        · exact (h i (by omega)).2.2.2.2.2)
    have hX' : GAt X ta' na' la' pa' tc' nc' lc' pc' ts ns lv (((List.range n).map fun i => (⟨L i, R i, V i⟩ : PR)) ++ [(⟨((tn + r : Nat) : Int), l, 0⟩ : PR)]).length _ _ ra' rc' _ := hX
    rw [p3] at hX'
    exact hcall X ta' na' la' pa' tc' nc' lc' pc' ra' rc' hX'
  have HVL : Hid (∀ X, w.grownBy X none → Calls Try.prog 20 #[.agg #[.slice ta tn tc, .slice na nn nc, .slice la ln lc, .int .i64 st, .slice pa n pc]] X (fun e w' => e = .returned (.bool true) ∧ X.grownBy w' none)) := fun X hX => (rvc ta na la pa tc nc lc pc ts ns lv n L R ra rc V st w tn nn ln hlen hG hts hns X hX true false hV hC).1
  have HX0 : Hid (PhAt w (w.alloc (.cells #[.slice ta tn tc, .slice na nn nc, .slice la ln lc, .int .i64 st, .slice pa n pc] 27)) w.heap.size #[.slice ta tn tc, .slice na nn nc, .slice la ln lc, .int .i64 st, .slice pa n pc]) := ⟨World.grownBy_alloc _ _ none, heap_alloc_last w _⟩
  have HPK : Hid (∀ X, Calls Try.prog 27 #[.int .i64 left, .int .i64 (nn : Int)] X fun e w' => (∃ r : Nat, r < nn ∧ e = .returned (.int .i64 r)) ∧ w' = X) := fun X => epick_any left hleft.1 hleft.2 nn hn0 (by omega) X
  have HPR : Hid (∀ z, z ∈ row → ∀ X, Calls Try.prog 27 #[.int .i64 z, .int .i64 ((tn : Int) + (nn : Int))] X fun e w' => (∃ r : Nat, r < tn + nn ∧ e = .returned (.int .i64 r)) ∧ w' = X) := fun z hz X => by
    have := epick_any z (hrow z hz).1 (hrow z hz).2 (tn + nn) (by omega) (by omega) X
    rw [show ((tn + nn : Nat) : Int) = (tn : Int) + (nn : Int) by omega] at this
    exact this
  have HIR : Hid (IntsAt w wa row) := hI
  obtain ⟨rl, hrle⟩ : ∃ rl, rl = row.length := ⟨_, rfl⟩
  have HRL : Hid (rl = row.length) := hrle
  rw [← hrle]
  clear hlen hG hnt hnl hts hns hC hV hM0 hM hleft hI hrow hval hrle
  go_enter Try.func7, Try.ntmps7
  go_wp2_with fail
  refine Calls.mono (HVL.out _ HX0.out.grown) ?_
  rintro e w1 ⟨rfl, hg1⟩
  have HX1 : Hid (PhAt w w1 w.heap.size #[.slice ta tn tc, .slice na nn nc, .slice la ln lc, .int .i64 st, .slice pa n pc]) := HX0.out.kept hg1
  have hlow : w.heap.size + 1 ≤ w1.heap.size := by have := hg1.size; simp at this; omega
  obtain ⟨k0, k1, k2, k3, k4⟩ := HX1.out.cells
  clear hg1 HX0
  go_wp2_with fail
  refine Calls.mono (HCP.out _ HX1.out.grown) ?_
  rintro e w2 ⟨ta', na', la', pa', tc', nc', lc', pc', rfl, hN2, hg2⟩
  obtain ⟨X2, hX2⟩ : ∃ X2, X2 = w2.alloc (.cells #[.slice ta' tn tc', .slice na' nn nc', .slice la' ln lc', .int .i64 st, .slice pa' n pc'] 27) := ⟨_, rfl⟩
  obtain ⟨hb, hhb⟩ : ∃ hb, hb = w2.heap.size := ⟨_, rfl⟩
  have hga : w2.grownBy X2 none := by rw [hX2]; exact World.grownBy_alloc _ _ none
  have HGM : Hid (GmAt X2 (w.heap.size + 1) hb (.slice ta' tn tc') (.slice na' nn nc') (.slice la' ln lc') (.slice pa' n pc') st ts ns lv ((List.range n).map fun i => (⟨L i, R i, V i⟩ : PR))) := GmAt.of_gram ((hN2.kept hga).lower hlow) (by rw [hX2, hhb]; exact heap_alloc_last w2 _)
  have HPH : Hid (PhAt w X2 w.heap.size #[.slice ta tn tc, .slice na nn nc, .slice la ln lc, .int .i64 st, .slice pa n pc]) := (HX1.out.kept hg2).kept hga
  have HXE := show Hid _ from hX2
  have HHB : Hid (hb = w2.heap.size) := hhb
  have HWB : Hid (w.heap.size + 1 ≤ hb) := by show _ ≤ _; have := hg2.size; omega
  clear hN2 hg2 hga hX2 hhb k0 k1 k2 k3 k4 HX1 hlow
  obtain ⟨k0, k1, k2, k3, k4⟩ := HPH.out.cells
  go_wp2_with fail
  rw [← HXE.out, ← HHB.out]
  go_cut [10] from 37 to 46 (fun v10 wx => ∃ r : Nat, r < nn ∧ v10 = .pointer (some ⟨X2.heap.size, 0, none⟩) ∧ PuAt X2 wx ((tn + r : Nat) : Int) [] 0 (.slice none 0 0))
  case first =>
    go_region_held3 (fun x => x.cell? ⟨w.heap.size, 0, none⟩ = some (.slice ta tn tc) ∧ x.cell? ⟨w.heap.size, 1, none⟩ = some (.slice na nn nc)) (go_keep)
      ((first
        | (go_at_call 27; refine Calls.mono (HPK.out _) ?_; rintro e w' ⟨⟨r, hr, rfl⟩, rfl⟩; have HRR : Hid (r < nn) := hr; have hwr : IntKind.i64.wrap ((tn : Int) + (r : Int)) = (tn : Int) + (r : Int) := (by { rw [IntKind.wrap_i64]; omega }))))
    all_goals go_wp2_with fail
    all_goals go_meet
    all_goals exact ⟨r, HRR.out, rfl, (grown_trans (World.grownBy_alloc X2 _ none) (grown_drewN _ 1)), (by rw [show ((tn + r : Nat) : Int) = (tn : Int) + (r : Int) by omega]; exact heap_alloc_last X2 _), World.ownsRow_nil _ _ _ _⟩
  case rest =>
    obtain ⟨r, hr, rfl, hPu⟩ := hcut
    have HRR : Hid (r < nn) := hr
    obtain ⟨lf, hlf⟩ : ∃ lf : Int, lf = ((tn + r : Nat) : Int) := ⟨_, rfl⟩
    have HLF : Hid (lf = ((tn + r : Nat) : Int)) := hlf
    rw [← hlf] at hPu
    have HPU0 : Hid (PuAt X2 wc lf [] 0 (.slice none 0 0)) := hPu
    obtain ⟨iI, hiI, hI0, hI1, hI2⟩ := info_parts infoInt
    obtain ⟨iP, hiP, hP0, hP1, hP2⟩ := info_parts infoProd
    clear hr hlf hPu k0 k1 k2 k3 k4 HXE
    obtain ⟨pz, hpz⟩ : ∃ pz, pz = X2.heap.size := ⟨_, rfl⟩
    have HPZ : Hid (pz = X2.heap.size) := hpz
    rw [← hpz]
    clear hpz
    go_wp2_with fail
    go_loopg [11] 6 (fun gk i wr => ∃ (k ll : Nat) (l : List Int) (av : Option Addr) (cv : Nat), k ≤ 6 ∧ k ≤ rl ∧ gk = 6 - k ∧ i = .int .i64 k ∧ ll = l.length ∧ ll ≤ k ∧ (∀ x ∈ l, (0 : Int) < x ∧ x < ((tn + nn : Nat) : Int)) ∧ PuAt X2 wr lf l 0 (.slice av ll cv))
    case atStart => exact ⟨0, 0, [], none, 0, by omega, Nat.zero_le _, rfl, rfl, rfl, Nat.le_refl _, (fun x hx => by cases hx), HPU0.out⟩
    case round =>
      obtain ⟨k, ll, l, av, cv, hk6, hkr, hgk, rfl, hll, hlk, hlx, hPu⟩ := hrel
      have HGK : Hid (gk = 6 - k) := hgk
      have HLL : Hid (ll = l.length) := hll
      have HLX : Hid (∀ x ∈ l, (0 : Int) < x ∧ x < ((tn + nn : Nat) : Int)) := hlx
      have HPU : Hid (PuAt X2 wr lf l 0 (.slice av ll cv)) := hPu
      have HPG : Hid (PhAt w wr w.heap.size #[.slice ta tn tc, .slice na nn nc, .slice la ln lc, .int .i64 st, .slice pa n pc]) := HPH.out.kept hPu.grown
      clear hgk hll hlx hPu HPU0
      obtain ⟨k0, k1, k2, k3, k4⟩ := HPG.out.cells
      by_cases hlt : k < rl ∧ k < 6
      · obtain ⟨hl1, hl2⟩ := hlt
        have hd1 : decide (k < rl) = true := decide_eq_true hl1
        have hd2 : decide (k < 6) = true := decide_eq_true hl2
        have hd3 : decide ((k : Int) < 6) = true := decide_eq_true (by omega)
        have hkR : k < row.length := by rw [← HRL.out]; exact hl1
        obtain ⟨bw, ow, rfl, hcs⟩ : ∃ b off, wa = some ⟨b, off, none⟩ ∧ ∀ i, i < row.length → w.cell? ⟨b, off + i, none⟩ = some (.int .i64 (row.getD i 0)) := by
          rcases HIR.out with h | h
          · rw [h] at hkR; simp at hkR
          · exact h
        have c0 := HPG.out.grown.cell (hcs k hkR) (by simp)
        have HZM : Hid (row.getD k 0 ∈ row) := int_mem hkR
        obtain ⟨z, hz⟩ : ∃ z, z = row.getD k 0 := ⟨_, rfl⟩
        rw [← hz] at c0 HZM
        have hk0 : (0 : Int) ≤ (k : Int) := by omega
        have hk1 : (k : Int) < (rl : Int) := by omega
        have hwn : IntKind.i64.wrap ((tn : Int) + (nn : Int)) = (tn : Int) + (nn : Int) := by rw [IntKind.wrap_i64]; omega
        clear hcs hz hkR
        go_wp2_with fail
        go_cut [12] from 57 to 68 (fun v12 wx => ∃ s : Nat, s < tn + nn ∧ v12 = .int .i64 s ∧ PuAt X2 wx lf l 0 (.slice av ll cv))
        case first =>
          go_region_held3 (fun x => x.cell? ⟨w.heap.size, 0, none⟩ = some (.slice ta tn tc) ∧ x.cell? ⟨w.heap.size, 1, none⟩ = some (.slice na nn nc) ∧ x.cell? ⟨bw, ow + k, none⟩ = some (.int .i64 z)) (go_keep)
            ((first
              | (go_at_call 27; refine Calls.mono (HPR.out z HZM.out _) ?_; rintro e w' ⟨⟨s, hs, rfl⟩, rfl⟩; have HSS : Hid (s < tn + nn) := hs)))
          all_goals go_wp2_with fail
          all_goals go_meet
          all_goals exact ⟨s, HSS.out, rfl, HPU.out.kept (grown_drewN _ 1)⟩
        case rest =>
          obtain ⟨s, hs, rfl, hPu⟩ := hcut
          have HPU2 : Hid (PuAt X2 wc lf l 0 (.slice av ll cv)) := hPu
          clear hPu HPU HPG k0 k1 k2 k3 k4 c0
          by_cases hs0 : s = 0
          · subst hs0
            go_wp2_with fail
            go_roundg (6 - (k + 1))
            case measure => have := HGK.out; omega
            case rel => exact ⟨k + 1, ll, l, av, cv, by omega, by omega, rfl, by go_num, HLL.out, by omega, HLX.out, HPU2.out⟩
          · have hsp : decide ((0 : Int) < (s : Int)) = true := decide_eq_true (by omega)
            have hsp2 : decide (0 < s) = true := decide_eq_true (by omega)
            obtain ⟨p0, p1, p2⟩ := HPU2.out.cells
            have pf := HPU2.out.free 1
            have hpzs := HPU2.out.lt
            rw [← HPZ.out] at p0 p1 p2 pf hpzs
            have hal := World.grownBy_alloc wc (.cells #[.int .i64 (s : Int)] 3) none
            have HPA : Hid (PuAt X2 (wc.alloc (.cells #[.int .i64 (s : Int)] 3)) lf l 0 (.slice av ll cv)) := HPU2.out.kept hal
            have HOW : Hid ((wc.alloc (.cells #[.int .i64 (s : Int)] 3)).ownsRow (pz + 1) 3 1 (.slice av ll cv) ll (l.map (Value.int .i64))) := by
              have := HPA.out.row
              rw [← HLL.out, ← HPZ.out] at this
              exact this
            have HFN : Hid (∀ v6 wB, wB.ownsRow (pz + 1) 3 1 v6 (ll + 1) (l.map (Value.int .i64) ++ [.int .i64 (s : Int)]) → (wc.alloc (.cells #[.int .i64 (s : Int)] 3)).grownBy wB (Value.slice av ll cv).ownBlock → ∃ a c, v6 = .slice a (ll + 1) c ∧ wB.cell? ⟨pz, 1, none⟩ = some (.slice av ll cv) ∧ wB.frozen? ⟨pz, 1, none⟩ = false ∧ PuAt X2 (wB.setCell ⟨pz, 1, none⟩ (.slice a (ll + 1) c)) lf (l ++ [(s : Int)]) 0 (.slice a (ll + 1) c)) := by
              intro v6 wB ho hg
              obtain ⟨a, c, rfl⟩ := owns_slice ho
              obtain ⟨hbx, _⟩ := HPA.out.grew hg
              rw [← HPZ.out] at hbx
              refine ⟨a, c, rfl, by rw [cell_of_row _ _ _ _ _ _ hbx]; rfl, frozen_of_row _ _ _ _ _ hbx, ?_⟩
              have := HPA.out.push (x := (s : Int)) hg (by rw [← HLL.out, ← HPZ.out]; exact ho)
              rw [← HPZ.out] at this
              exact this
            have HBB : Hid (pz + 1 ≤ (wc.alloc (.cells #[.int .i64 (s : Int)] 3)).heap.size) := by show _ ≤ _; simp; omega
            clear hal
            go_wp2_with (at_builtin; refine wpList_append_src rfl (.tmp 72) (.tmp 74) 24 rfl (pz + 1) 3 iI (.int .i64 0) 1 8 Try.underlying24 hiI hI0 hI1 hI2 rfl (by decide) (.slice av ll cv) ll (l.map (Value.int .i64)) rfl HOW.out (some ⟨wc.heap.size, 0, none⟩) 1 1 [.int .i64 (s : Int)] rfl (fun h => by cases h) rfl (fun ad e => by cases e; exact news_new wc _ _) (by simp [Value.oneCell']) (by unfold maxLen; omega) (by omega) HBB.out ?_; intro v6 wB hoB hgB; obtain ⟨a6, c6, rfl, y0, y1, y2⟩ := HFN.out v6 wB hoB hgB; have HY2 := show Hid _ from y2; clear hoB hgB y2)
            go_roundg (6 - (k + 1))
            case measure => have := HGK.out; omega
            case rel => exact ⟨k + 1, ll + 1, l ++ [(s : Int)], a6, c6, by omega, by omega, rfl, by go_num, by rw [List.length_append, ← HLL.out]; rfl, by omega, (fun x hx => by
              rcases List.mem_append.1 hx with h | h
              · exact HLX.out x h
              · have : x = (s : Int) := by simpa using h
                subst this
                omega), HY2.out⟩
      · have hcase : (¬ k < rl) ∨ (k < rl ∧ ¬ k < 6) := by omega
        have HQ : Hid (GmAt wr (w.heap.size + 1) hb (.slice ta' tn tc') (.slice na' nn nc') (.slice la' ln lc') (.slice pa' n pc') st ts ns lv ((List.range n).map fun i => (⟨L i, R i, V i⟩ : PR))) := HGM.out.kept HPU.out.grown
        obtain ⟨⟨q0, q1, q2, q3, q4⟩, qf⟩ := HQ.out.cells
        obtain ⟨p0, p1, p2⟩ := HPU.out.cells
        have hpzs := HPU.out.lt
        rw [← HPZ.out] at p0 p1 p2 hpzs
        have HXL : Hid (∀ x ∈ l, (0 : Int) < x ∧ x < ((tn + nn : Nat) : Int)) := HLX.out
        obtain ⟨ec, m, F', hcs, hcall⟩ := HMT.out r l HRR.out HLX.out
        have HCALL := show Hid _ from hcall
        have HCS := show Hid _ from hcs
        obtain ⟨rs, e1, e2, e3⟩ := HQ.out.pr
        have HRS := show Hid _ from And.intro e1 (And.intro e2 e3)
        obtain ⟨fl, hfl⟩ : ∃ fl, fl = (((List.range n).map fun i => (⟨L i, R i, V i⟩ : PR)).zip rs).flatMap fun x => prL x.1 x.2 := ⟨_, rfl⟩
        have hplen : ((List.range n).map fun i => (⟨L i, R i, V i⟩ : PR)).length = n := by simp
        have hal := World.grownBy_alloc wr (.cells #[.int .i64 lf, .slice av ll cv, .int .i64 0] 45) none
        have HPR4 : Hid ((wr.alloc (.cells #[.int .i64 lf, .slice av ll cv, .int .i64 0] 45)).ownsRow (w.heap.size + 1) 45 3 (.slice pa' n pc') n fl) := by
          have h := keep0 e2 hal
          rw [hplen] at h
          rw [hfl]; exact h
        have hwhb : w.heap.size + 1 ≤ hb := HWB.out
        have HFIN : Hid (∀ (wB : World) (v6 : Value), wB.ownsRow (w.heap.size + 1) 45 3 v6 (n + 1) (fl ++ [.int .i64 lf, .slice av ll cv, .int .i64 0]) → (wr.alloc (.cells #[.int .i64 lf, .slice av ll cv, .int .i64 0] 45)).grownBy wB (Value.slice pa' n pc').ownBlock → ∃ a c, v6 = .slice a (n + 1) c ∧ wB.cell? ⟨hb, 4, none⟩ = some (.slice pa' n pc') ∧ wB.frozen? ⟨hb, 4, none⟩ = false ∧ PhAt w (wB.setCell ⟨hb, 4, none⟩ (.slice a (n + 1) c)) w.heap.size #[.slice ta tn tc, .slice na nn nc, .slice la ln lc, .int .i64 st, .slice pa n pc] ∧ GmAt (wB.setCell ⟨hb, 4, none⟩ (.slice a (n + 1) c)) (w.heap.size + 1) hb (.slice ta' tn tc') (.slice na' nn nc') (.slice la' ln lc') (.slice a (n + 1) c) st ts ns lv (((List.range n).map fun i => (⟨L i, R i, V i⟩ : PR)) ++ [(⟨lf, l, 0⟩ : PR)])) := by
          intro wB v6 ho hg
          obtain ⟨a, c, rfl⟩ := owns_slice ho
          have hQ7 := HQ.out.kept hal
          have hbx := hQ7.boxKept HPR4.out (by decide) hg
          have hP7 : PhAt w wB w.heap.size #[.slice ta tn tc, .slice na nn nc, .slice la ln lc, .int .i64 st, .slice pa n pc] := by
            have h0 := HPG.out.kept hal
            cases hv : (Value.slice pa' n pc').ownBlock with
            | none => rw [hv] at hg; exact h0.kept hg
            | some q => rw [hv] at hg; exact h0.keptRow hg (HPR4.out.lt q hv).1
          refine ⟨a, c, rfl, by rw [cell_of_row _ _ _ _ _ _ hbx]; rfl, frozen_of_row _ _ _ _ _ hbx, hP7.keptRow (grown_setCell _ _ _) hwhb, ?_⟩
          have hrow : (wr.alloc (.cells #[.int .i64 lf, .slice av ll cv, .int .i64 0] 45)).ownsRow (w.heap.size + 1) 3 1 (.slice av ll cv) l.length (l.map (Value.int .i64)) := owns_lower (HPU.out.kept hal).row (by have := HPH.out.grown.size; omega)
          exact GmAt.pushP (p := ⟨lf, l, 0⟩) (v := .slice av ll cv) hQ7 hg hrow rs HRS.out.1 (keep0 HRS.out.2.1 hal) (fun i hi => keep0 (HRS.out.2.2 i hi) hal) (by rw [hplen, ← hfl]; exact ho)
        have HBS : Hid (w.heap.size + 1 ≤ (wr.alloc (.cells #[.int .i64 lf, .slice av ll cv, .int .i64 0] 45)).heap.size) := by show _ ≤ _; have := HQ.out.lt; simp; omega
        have hl6 : ll ≤ 6 := by omega
        have hd6 : ¬ k < 6 → decide (k < 6) = false := decide_eq_false
        have hd6i : ¬ k < 6 → decide ((k : Int) < 6) = false := fun h => decide_eq_false (by omega)
        clear hlt hcs hcall e1 e2 e3 hfl hal hwhb q0 q1 q2 q3 qf hplen
        rcases hcase with hno | ⟨hye, hno⟩
        · have hd1 : decide (k < rl) = false := decide_eq_false hno
          clear hd6 hd6i
          go_wp2_with (at_builtin; refine wpList_append_src rfl (.tmp 78) (.tmp 80) 25 rfl (w.heap.size + 1) 45 iP (.agg #[.int .i64 0, .slice none 0 0, .int .i64 0]) 3 40 Try.underlying25 hiP hP0 hP1 hP2 rfl (by decide) (.slice pa' n pc') n fl rfl HPR4.out (some ⟨wr.heap.size, 0, none⟩) 1 1 [.int .i64 lf, .slice av ll cv, .int .i64 0] rfl (fun h => by cases h) rfl (fun ad e => by cases e; exact news_new wr _ _) (by simp [Value.oneCell']) (by unfold maxLen; omega) (by omega) HBS.out ?_; intro v6 wB hoB hgB; obtain ⟨a6, c6, rfl, y0, y1, y2, y3⟩ := HFIN.out wB v6 hoB hgB; have HY2 : Hid (PhAt w (wB.setCell ⟨hb, 4, none⟩ (.slice a6 (n + 1) c6)) w.heap.size #[.slice ta tn tc, .slice na nn nc, .slice la ln lc, .int .i64 st, .slice pa n pc]) := y2; have HY3 := show Hid _ from y3; have z0 := y2.cells.1; have z1 := y2.cells.2.1; have z2 := y2.cells.2.2.1; have z3 := y2.cells.2.2.2.1; have z4 := y2.cells.2.2.2.2; clear hoB hgB y2 y3)
          generalize wB.setCell ⟨hb, 4, none⟩ (.slice a6 (n + 1) c6) = X4 at *
          refine Calls.mono (HCP.out X4 HY2.out.grown) ?_
          rintro e w5 ⟨ta5, na5, la5, pa5, tc5, nc5, lc5, pc5, rfl, hN5, hg5⟩
          have HN5 := show Hid _ from hN5
          have HY5 : Hid (PhAt w w5 w.heap.size #[.slice ta tn tc, .slice na nn nc, .slice la ln lc, .int .i64 st, .slice pa n pc]) := HY2.out.kept hg5
          have HQ5 : Hid (GmAt w5 (w.heap.size + 1) hb (.slice ta' tn tc') (.slice na' nn nc') (.slice la' ln lc') (.slice a6 (n + 1) c6) st ts ns lv (((List.range n).map fun i => (⟨L i, R i, V i⟩ : PR)) ++ [(⟨lf, l, 0⟩ : PR)])) := HY3.out.kept hg5
          clear hN5 hg5 y0 y1 z0 z1 z2 z3 z4 p0 p1 p2 q4 HY2 HY3 HQ HPU HPG k0 k1 k2 k3 k4
          go_wp2_with fail
          refine Calls.mono (HGR.out w5 _ _ _ _ _ _ _ _ _ HN5.out) ?_
          rintro e w6 ⟨a, rfl, hB6', hg6⟩
          have hB6 : BRow w5 w6 a nn F := hB6'
          have HB6 : Hid (BAt w6 a nn F) := hB6.at
          have HY6 : Hid (PhAt w w6 w.heap.size #[.slice ta tn tc, .slice na nn nc, .slice la ln lc, .int .i64 st, .slice pa n pc]) := HY5.out.kept hg6
          have HQ6 : Hid (GmAt w6 (w.heap.size + 1) hb (.slice ta' tn tc') (.slice na' nn nc') (.slice la' ln lc') (.slice a6 (n + 1) c6) st ts ns lv (((List.range n).map fun i => (⟨L i, R i, V i⟩ : PR)) ++ [(⟨lf, l, 0⟩ : PR)])) := HQ5.out.kept hg6
          clear hB6 hB6' hg6 HY5 HQ5 HN5
          obtain ⟨⟨q0, q1, q2, q3, q4⟩, qf⟩ := HQ6.out.cells
          clear qf
          go_wp2_with fail
          have hgr := HQ6.out.gram
          rw [HLF.out] at hgr
          refine Calls.mono (HCALL.out w6 (w.heap.size + 1) _ _ _ _ _ _ _ _ (by rw [← HLL.out]; exact hl6) hgr) ?_
          clear hgr
          rintro e w7 ⟨b, rfl, hB7', hg7⟩
          have hB7 : BRow w6 w7 b m F' := hB7'
          have HB7 : Hid (BAt w7 b m F') := hB7.at
          have HA7 : Hid (BAt w7 a nn F) := HB6.out.kept hg7
          have HY7 : Hid (PhAt w w7 w.heap.size #[.slice ta tn tc, .slice na nn nc, .slice la ln lc, .int .i64 st, .slice pa n pc]) := HY6.out.kept hg7
          clear hB7 hB7' hg7 HY6 HQ6 HB6 q0 q1 q2 q3 q4
          obtain ⟨k0, k1, k2, k3, k4⟩ := HY7.out.cells
          rcases HCS.out with ⟨hn96, he, hm⟩ | ⟨hn96, he, hm, hFF⟩
          · subst he
            have hnb : ((n : Int) == 96) = true := by rw [hn96]; rfl
            have hnb2 : (n == 96) = true := by rw [hn96]; rfl
            clear hn96 hm HCALL HMT HCS
            go_wp2_with fail
            refine Calls.mono (eawake_any w7) ?_
            rintro e w8 ⟨rfl, hg8⟩
            have HG8 : Hid (w.grownBy w8 none) := grown_trans HY7.out.grown hg8
            clear hg8
            go_wp2_with fail
            go_ret
            exact ⟨rfl, HG8.out⟩
          · subst he hm
            have HFF := show Hid _ from hFF
            have hnb : ((n : Int) == 96) = false := by simp; omega
            have hnb2 : (n == 96) = false := by simp; omega
            clear hFF HCALL HMT HCS
            have HG7 : Hid (w.grownBy w7 none) := HY7.out.grown
            go_wp2_with fail
            go_loopg [17] m (fun gk i wr => ∃ k : Nat, k ≤ m ∧ gk = m - k ∧ i = .int .i64 k ∧ wr = w7)
            case atStart => exact ⟨0, Nat.zero_le _, rfl, rfl, rfl⟩
            case round =>
              obtain ⟨k, hk, hgk, rfl, rfl⟩ := hrel
              have HGK2 : Hid (gk = m - k) := hgk
              clear hgk
              by_cases hlt : k < m
              · obtain ⟨xa, rfl, hxa⟩ : ∃ x, a = some ⟨x, 0, none⟩ ∧ BoolAt wr x m F := by
                  rcases HA7.out with h | h
                  · omega
                  · exact h
                obtain ⟨xb, rfl, hxb⟩ : ∃ x, b = some ⟨x, 0, none⟩ ∧ BoolAt wr x m F' := by
                  rcases HB7.out with h | h
                  · omega
                  · exact h
                have c0 := hxa.cell k hlt
                have c1 := hxb.cell k hlt
                have hi : F k = true → F' k = true := HFF.out k
                have hk0 : (0 : Int) ≤ (k : Int) := by omega
                have hk1 : (k : Int) < (m : Int) := by omega
                have hkd : decide (k < m) = true := decide_eq_true hlt
                clear hxa hxb
                cases hfa : F k with
                | false =>
                  rw [hfa] at c0
                  clear hi hfa
                  go_wp2_with fail
                  go_roundg (m - (k + 1))
                  case measure => have := HGK2.out; omega
                  case rel => exact ⟨k + 1, by omega, rfl, by go_num, rfl⟩
                | true =>
                  rw [hfa] at c0
                  rw [hi hfa] at c1
                  clear hi hfa
                  go_wp2_with fail
                  go_roundg (m - (k + 1))
                  case measure => have := HGK2.out; omega
                  case rel => exact ⟨k + 1, by omega, rfl, by go_num, rfl⟩
              · have hkd : decide (k < m) = false := decide_eq_false hlt
                go_wp2_with fail
                refine Calls.mono (eawake_any wr) ?_
                rintro e w8 ⟨rfl, hg8⟩
                have HG8 : Hid (w.grownBy w8 none) := grown_trans HG7.out hg8
                clear hg8
                go_wp2_with fail
                go_ret
                exact ⟨rfl, HG8.out⟩
        · have hd1 : decide (k < rl) = true := decide_eq_true hye
          have hd2 := hd6 hno
          have hd3 := hd6i hno
          clear hd6 hd6i
          go_wp2_with (at_builtin; refine wpList_append_src rfl (.tmp 78) (.tmp 80) 25 rfl (w.heap.size + 1) 45 iP (.agg #[.int .i64 0, .slice none 0 0, .int .i64 0]) 3 40 Try.underlying25 hiP hP0 hP1 hP2 rfl (by decide) (.slice pa' n pc') n fl rfl HPR4.out (some ⟨wr.heap.size, 0, none⟩) 1 1 [.int .i64 lf, .slice av ll cv, .int .i64 0] rfl (fun h => by cases h) rfl (fun ad e => by cases e; exact news_new wr _ _) (by simp [Value.oneCell']) (by unfold maxLen; omega) (by omega) HBS.out ?_; intro v6 wB hoB hgB; obtain ⟨a6, c6, rfl, y0, y1, y2, y3⟩ := HFIN.out wB v6 hoB hgB; have HY2 : Hid (PhAt w (wB.setCell ⟨hb, 4, none⟩ (.slice a6 (n + 1) c6)) w.heap.size #[.slice ta tn tc, .slice na nn nc, .slice la ln lc, .int .i64 st, .slice pa n pc]) := y2; have HY3 := show Hid _ from y3; have z0 := y2.cells.1; have z1 := y2.cells.2.1; have z2 := y2.cells.2.2.1; have z3 := y2.cells.2.2.2.1; have z4 := y2.cells.2.2.2.2; clear hoB hgB y2 y3)
          generalize wB.setCell ⟨hb, 4, none⟩ (.slice a6 (n + 1) c6) = X4 at *
          refine Calls.mono (HCP.out X4 HY2.out.grown) ?_
          rintro e w5 ⟨ta5, na5, la5, pa5, tc5, nc5, lc5, pc5, rfl, hN5, hg5⟩
          have HN5 := show Hid _ from hN5
          have HY5 : Hid (PhAt w w5 w.heap.size #[.slice ta tn tc, .slice na nn nc, .slice la ln lc, .int .i64 st, .slice pa n pc]) := HY2.out.kept hg5
          have HQ5 : Hid (GmAt w5 (w.heap.size + 1) hb (.slice ta' tn tc') (.slice na' nn nc') (.slice la' ln lc') (.slice a6 (n + 1) c6) st ts ns lv (((List.range n).map fun i => (⟨L i, R i, V i⟩ : PR)) ++ [(⟨lf, l, 0⟩ : PR)])) := HY3.out.kept hg5
          clear hN5 hg5 y0 y1 z0 z1 z2 z3 z4 p0 p1 p2 q4 HY2 HY3 HQ HPU HPG k0 k1 k2 k3 k4
          go_wp2_with fail
          refine Calls.mono (HGR.out w5 _ _ _ _ _ _ _ _ _ HN5.out) ?_
          rintro e w6 ⟨a, rfl, hB6', hg6⟩
          have hB6 : BRow w5 w6 a nn F := hB6'
          have HB6 : Hid (BAt w6 a nn F) := hB6.at
          have HY6 : Hid (PhAt w w6 w.heap.size #[.slice ta tn tc, .slice na nn nc, .slice la ln lc, .int .i64 st, .slice pa n pc]) := HY5.out.kept hg6
          have HQ6 : Hid (GmAt w6 (w.heap.size + 1) hb (.slice ta' tn tc') (.slice na' nn nc') (.slice la' ln lc') (.slice a6 (n + 1) c6) st ts ns lv (((List.range n).map fun i => (⟨L i, R i, V i⟩ : PR)) ++ [(⟨lf, l, 0⟩ : PR)])) := HQ5.out.kept hg6
          clear hB6 hB6' hg6 HY5 HQ5 HN5
          obtain ⟨⟨q0, q1, q2, q3, q4⟩, qf⟩ := HQ6.out.cells
          clear qf
          go_wp2_with fail
          have hgr := HQ6.out.gram
          rw [HLF.out] at hgr
          refine Calls.mono (HCALL.out w6 (w.heap.size + 1) _ _ _ _ _ _ _ _ (by rw [← HLL.out]; exact hl6) hgr) ?_
          clear hgr
          rintro e w7 ⟨b, rfl, hB7', hg7⟩
          have hB7 : BRow w6 w7 b m F' := hB7'
          have HB7 : Hid (BAt w7 b m F') := hB7.at
          have HA7 : Hid (BAt w7 a nn F) := HB6.out.kept hg7
          have HY7 : Hid (PhAt w w7 w.heap.size #[.slice ta tn tc, .slice na nn nc, .slice la ln lc, .int .i64 st, .slice pa n pc]) := HY6.out.kept hg7
          clear hB7 hB7' hg7 HY6 HQ6 HB6 q0 q1 q2 q3 q4
          obtain ⟨k0, k1, k2, k3, k4⟩ := HY7.out.cells
          rcases HCS.out with ⟨hn96, he, hm⟩ | ⟨hn96, he, hm, hFF⟩
          · subst he
            have hnb : ((n : Int) == 96) = true := by rw [hn96]; rfl
            have hnb2 : (n == 96) = true := by rw [hn96]; rfl
            clear hn96 hm HCALL HMT HCS
            go_wp2_with fail
            refine Calls.mono (eawake_any w7) ?_
            rintro e w8 ⟨rfl, hg8⟩
            have HG8 : Hid (w.grownBy w8 none) := grown_trans HY7.out.grown hg8
            clear hg8
            go_wp2_with fail
            go_ret
            exact ⟨rfl, HG8.out⟩
          · subst he hm
            have HFF := show Hid _ from hFF
            have hnb : ((n : Int) == 96) = false := by simp; omega
            have hnb2 : (n == 96) = false := by simp; omega
            clear hFF HCALL HMT HCS
            have HG7 : Hid (w.grownBy w7 none) := HY7.out.grown
            go_wp2_with fail
            go_loopg [17] m (fun gk i wr => ∃ k : Nat, k ≤ m ∧ gk = m - k ∧ i = .int .i64 k ∧ wr = w7)
            case atStart => exact ⟨0, Nat.zero_le _, rfl, rfl, rfl⟩
            case round =>
              obtain ⟨k, hk, hgk, rfl, rfl⟩ := hrel
              have HGK2 : Hid (gk = m - k) := hgk
              clear hgk
              by_cases hlt : k < m
              · obtain ⟨xa, rfl, hxa⟩ : ∃ x, a = some ⟨x, 0, none⟩ ∧ BoolAt wr x m F := by
                  rcases HA7.out with h | h
                  · omega
                  · exact h
                obtain ⟨xb, rfl, hxb⟩ : ∃ x, b = some ⟨x, 0, none⟩ ∧ BoolAt wr x m F' := by
                  rcases HB7.out with h | h
                  · omega
                  · exact h
                have c0 := hxa.cell k hlt
                have c1 := hxb.cell k hlt
                have hi : F k = true → F' k = true := HFF.out k
                have hk0 : (0 : Int) ≤ (k : Int) := by omega
                have hk1 : (k : Int) < (m : Int) := by omega
                have hkd : decide (k < m) = true := decide_eq_true hlt
                clear hxa hxb
                cases hfa : F k with
                | false =>
                  rw [hfa] at c0
                  clear hi hfa
                  go_wp2_with fail
                  go_roundg (m - (k + 1))
                  case measure => have := HGK2.out; omega
                  case rel => exact ⟨k + 1, by omega, rfl, by go_num, rfl⟩
                | true =>
                  rw [hfa] at c0
                  rw [hi hfa] at c1
                  clear hi hfa
                  go_wp2_with fail
                  go_roundg (m - (k + 1))
                  case measure => have := HGK2.out; omega
                  case rel => exact ⟨k + 1, by omega, rfl, by go_num, rfl⟩
              · have hkd : decide (k < m) = false := decide_eq_false hlt
                go_wp2_with fail
                refine Calls.mono (eawake_any wr) ?_
                rintro e w8 ⟨rfl, hg8⟩
                have HG8 : Hid (w.grownBy w8 none) := grown_trans HG7.out hg8
                clear hg8
                go_wp2_with fail
                go_ret
                exact ⟨rfl, HG8.out⟩
end

end Go.Proofs.Ytmkimeojcpadpaa
