import Derived.Test.YtfllgmbnljfboabRows
import Derived.Test.YtfllgmbnljfboabQebnaghbjhlnj
import Derived.Test.YtfllgmbnljfboabQaddjhffllblc
import Derived.Deep.RegionHeld3

/-
  trans: what the laws' theorems share.
-/
namespace Go.Proofs.Ytfllgmbnljfboab.J
open Go.ChangeShapes Go.WideShapes Go.ChangeAt Go.RowKit Go.Deep

theorem own : ownKnob Try.prog.godebug = none := by kernel_rfl
theorem laidOut : laidOutB Try.prog = true := by kernel_rfl

end Go.Proofs.Ytfllgmbnljfboab.J

/-
  trans: the law TransDirect, walked.
-/
namespace Go.Proofs.Ytfllgmbnljfboab.J
open Go.RowKit Go.Maps Go.Shelf

attribute [local go_sem] Oper.semAt_some

theorem ints_ofD {X : World} {B c : Nat} {a : Option Addr} {l : List Int} (h : X.ownsRow B 3 1 (.slice a l.length c) l.length (intV l)) : IntsAt X a l := by
  rcases h.2 with ⟨_, h2⟩ | ⟨g, cap, cur, hv, hB, hh, _, _, hs, ht⟩
  · exact .inl (List.eq_nil_of_length_eq_zero h2)
  · right
    simp only [Value.slice.injEq] at hv
    refine ⟨g, 0, hv.1, fun i hi => ?_⟩
    have h3 : (intV l)[i]? = some (.int .i64 (l.getD i 0)) := by
      unfold intV
      rw [List.getElem?_map, List.getElem?_eq_getElem hi, List.getD_eq_getElem?_getD, List.getElem?_eq_getElem hi]; rfl
    rw [← ht, List.getElem?_take, if_pos (by omega)] at h3
    rw [Nat.zero_add, cell_of_row _ _ _ _ _ _ hh]
    simpa using h3
/-- Is t to be told of a transition that leads to a state of these edges? -/
def wantB (b : Bool) (l : List (Nat × Nat)) (t : Nat) : Bool := if t = 0 then b else (nextL l (t : Int)).isSome
/-- .. as what has items. -/
def wantG (b : Bool) (l : List (Nat × Nat)) (t : Nat) : List It := if wantB b l t = true then [(0, 0)] else []
theorem wantG_ne {b : Bool} {l : List (Nat × Nat)} {t : Nat} : wantG b l t ≠ [] ↔ wantB b l t = true := by
  unfold wantG
  by_cases h : wantB b l t = true
  · rw [if_pos h]; simp [h]
  · rw [if_neg h]; simp [h]
theorem nextL_isSome {l : List (Nat × Nat)} {t : Nat} : (nextL l (t : Int)).isSome = true ↔ t ∈ l.map Prod.fst := by
  constructor
  · intro h
    obtain ⟨v, hv⟩ := Option.isSome_iff_exists.1 h
    obtain ⟨x, hx, h1, _⟩ := nextL_mem hv
    exact List.mem_map.2 ⟨x, hx, by omega⟩
  · intro h
    obtain ⟨x, hx, rfl⟩ := List.mem_map.1 h
    obtain ⟨v, hv, _⟩ := nextL_some hx
    rw [hv]; rfl
theorem filter_range_lt {p : Nat → Bool} : ∀ {S tn : Nat}, tn ≤ S → ((List.range S).filter p).filter (fun t => decide (t < tn)) = (List.range tn).filter p := by
  intro S tn h
  obtain ⟨d, rfl⟩ : ∃ d, S = tn + d := ⟨S - tn, by omega⟩
  clear h
  induction d with
  | zero =>
    rw [Nat.add_zero, List.filter_filter]
    refine List.filter_congr fun t ht => ?_
    rw [decide_eq_true (List.mem_range.1 ht)]; simp
  | succ d ih =>
    rw [← Nat.add_assoc, List.range_succ, List.filter_append, List.filter_append, ih]
    have : (([tn + d] : List Nat).filter p).filter (fun t => decide (t < tn)) = [] := by
      rw [List.filter_filter, List.filter_eq_nil_iff]
      intro t ht
      rw [List.mem_singleton.1 ht]
      have h9 : decide (tn + d < tn) = false := decide_eq_false (by omega)
      simp [h9]
    rw [this, List.append_nil]
theorem dirL_eq {tn : Nat} {l : List (Nat × Nat)} : dirL tn l = ((l.map Prod.fst).filter (fun t => decide (t < tn))).map fun t : Nat => (t : Int) := by
  unfold dirL
  rw [List.filter_map, List.map_map]
  rfl
theorem dir_want {tn S : Nat} {G : Nat → List It} {l : List (Nat × Nat)} (b : Bool) (hl : l.map Prod.fst = symsT G S) (h0 : G 0 = []) (hS : tn ≤ S) (ht : 0 < tn) : preF b ++ dirL tn l = (symsT (wantG b l) tn).map fun t : Nat => (t : Int) := by
  rw [dirL_eq, hl]
  have e1 : (symsT G S).filter (fun t => decide (t < tn)) = (List.range tn).filter fun t => someB (G t) := filter_range_lt hS
  rw [e1]
  obtain ⟨m, rfl⟩ : ∃ m, tn = m + 1 := ⟨tn - 1, by omega⟩
  unfold symsT
  rw [List.range_succ_eq_map, List.filter_cons, List.filter_cons]
  have e2 : someB (G 0) = false := by unfold someB; simp [h0]
  have e3 : someB (wantG b l 0) = b := by
    have h : wantB b l 0 = b := rfl
    unfold wantG
    rw [h]
    cases b <;> rfl
  rw [e2, e3]
  have e4 : (List.map Nat.succ (List.range m)).filter (fun t => someB (G t)) = (List.map Nat.succ (List.range m)).filter (fun t => someB (wantG b l t)) := by
    refine List.filter_congr fun t htm => ?_
    obtain ⟨u, hu, rfl⟩ := List.mem_map.1 htm
    rw [Bool.eq_iff_iff, someB_true, someB_true, wantG_ne]
    have e5 : wantB b l (Nat.succ u) = (nextL l ((Nat.succ u : Nat) : Int)).isSome := rfl
    rw [e5, nextL_isSome, hl, mem_symsT]
    have hu' := List.mem_range.1 hu
    exact ⟨fun h => ⟨by omega, h⟩, fun h => h.2⟩
  rw [e4]
  cases b <;> simp [preF]

section
variable (ta na la pa : Option Addr) (tc nc lc pc : Nat) (n : Nat) (st : Int) (w : World) (tn nn ln : Nat)

set_option maxRecDepth 100000 in
set_option maxHeartbeats 2000000 in
theorem tdirect_bad (ec : Int) (hec : ec = 1 ∨ ec = 11) (hO : OfBad ta na la pa tc nc lc pc n st w tn nn ln ec) :
    Calls Try.prog 3 #[.agg #[.slice ta tn tc, .slice na nn nc, .slice la ln lc, .int .i64 st, .slice pa n pc]] w fun e w' => e = .returned (.bool true) ∧ w.grownBy w' none := by
  have HLI : Hid (∀ X, w.grownBy X none → Calls Try.prog 5 #[.agg #[.slice ta tn tc, .slice na nn nc, .slice la ln lc, .int .i64 st, .slice pa n pc]] X fun e y => e = .returned (.tuple #[.slice none 0 0, .int .i64 ec]) ∧ X.grownBy y none) := fun X hX => listX_bad ta na la pa tc nc lc pc n st X tn nn ln ec hec (fun Y hY => hO Y (grown_trans hX hY))
  have HDI : Hid (∀ X, w.grownBy X none → Calls Try.prog 6 #[.agg #[.slice ta tn tc, .slice na nn nc, .slice la ln lc, .int .i64 st, .slice pa n pc]] X fun e y => e = .returned (.tuple #[.slice none 0 0, .int .i64 ec]) ∧ X.grownBy y none) := fun X hX => directX_bad ta na la pa tc nc lc pc n st X tn nn ln ec hec (fun Y hY => hO Y (grown_trans hX hY))
  have HX0 : Hid (PhAt w (w.alloc (.cells #[.slice ta tn tc, .slice na nn nc, .slice la ln lc, .int .i64 st, .slice pa n pc] 27)) w.heap.size #[.slice ta tn tc, .slice na nn nc, .slice la ln lc, .int .i64 st, .slice pa n pc]) := ⟨World.grownBy_alloc _ _ none, heap_alloc_last w _⟩
  have hne : (ec != 0) = true := bne_iff_ne.2 (by omega)
  have hee : (ec == ec) = true := beq_self_eq_true _
  clear hO hec
  go_enter Try.func3, Try.ntmps3
  go_wp2_with fail
  refine Calls.mono (awake_any _) ?_
  rintro e w1 ⟨rfl, hg1⟩
  have HX1 : Hid (PhAt w w1 w.heap.size #[.slice ta tn tc, .slice na nn nc, .slice la ln lc, .int .i64 st, .slice pa n pc]) := HX0.out.kept hg1
  clear hg1 HX0
  obtain ⟨k0, k1, k2, k3, k4⟩ := HX1.out.cells
  go_wp2_with fail
  refine Calls.mono (HLI.out _ HX1.out.grown) ?_
  rintro e w2 ⟨rfl, hg2⟩
  have HX2 : Hid (PhAt w w2 w.heap.size #[.slice ta tn tc, .slice na nn nc, .slice la ln lc, .int .i64 st, .slice pa n pc]) := HX1.out.kept hg2
  clear hg2 HX1 k0 k1 k2 k3 k4
  obtain ⟨k0, k1, k2, k3, k4⟩ := HX2.out.cells
  go_wp2_with fail
  refine Calls.mono (HDI.out _ HX2.out.grown) ?_
  rintro e w3 ⟨rfl, hg3⟩
  have HG3 : Hid (w.grownBy w3 none) := grown_trans HX2.out.grown hg3
  clear hg3 HX2 k0 k1 k2 k3 k4
  go_wp2_with fail
  go_ret
  exact ⟨rfl, HG3.out⟩

set_option maxRecDepth 100000 in
set_option maxHeartbeats 8000000 in
theorem tdirect_ok (htn : tn ≤ 65) (hnn : nn ≤ 65) (htn0 : 0 < tn) (ks : List (List It)) (es : List (List (Nat × Nat))) (hE : EsOK ks es) (hO : OfOk ta na la pa tc nc lc pc n st w tn nn ln ks es) (hsy : ∀ q, q < ks.length → ∀ x ∈ es.getD q [], x.1 < tn + nn)
    (hD : ∀ (b : Bool) (q : Nat), q < ks.length → preF b ++ dirL tn (es.getD q []) = (symsT (wantG b (es.getD q [])) tn).map fun t : Nat => (t : Int)) :
    Calls Try.prog 3 #[.agg #[.slice ta tn tc, .slice na nn nc, .slice la ln lc, .int .i64 st, .slice pa n pc]] w fun e w' => e = .returned (.bool true) ∧ w.grownBy w' none := by
  have HE : Hid (EsOK ks es) := hE
  have HSY := show Hid _ from hsy
  have HD := show Hid _ from hD
  have HLI : Hid (∀ X, w.grownBy X none → Calls Try.prog 5 #[.agg #[.slice ta tn tc, .slice na nn nc, .slice la ln lc, .int .i64 st, .slice pa n pc]] X fun e y => TrErr (trT tn es ks.length) X e y) := fun X hX => listX_ok ta na la pa tc nc lc pc n st X tn nn ln ks es hE.le (fun q hq => (hE.each q hq).1) (fun Y hY => hO Y (grown_trans hX hY))
  have HDI : Hid (∀ X, w.grownBy X none → Calls Try.prog 6 #[.agg #[.slice ta tn tc, .slice na nn nc, .slice la ln lc, .int .i64 st, .slice pa n pc]] X fun e y => DirErr (trT tn es ks.length) (dirOf tn st es) X e y) := fun X hX => directX_ok ta na la pa tc nc lc pc n st X tn nn ln ks es hE (fun Y hY => hO Y (grown_trans hX hY))
  have HWA : Hid (∀ X b q s t tq, w.grownBy X none → q < ks.length → s < tn + nn → t < tn → tq < ks.length → leadA es (((q : Nat) : Int), ((s : Nat) : Int)) = some ((tq : Nat) : Int) → IntsAt X (some ⟨b, 0, none⟩) [((s : Nat) : Int), ((t : Nat) : Int)] → Calls Try.prog 7 #[.agg #[.slice ta tn tc, .slice na nn nc, .slice la ln lc, .int .i64 st, .slice pa n pc], .int .i64 ((q : Nat) : Int), .slice (some ⟨b, 0, none⟩) 2 2] X fun e y => e = .returned (.tuple #[.int .i64 (wayV (nextL (es.getD tq []) (t : Int))), .int .i64 0]) ∧ X.grownBy y none) := fun X b q s t tq hX hq hs ht htq hle hI => by
    have h := walkX_ok ta na la pa tc nc lc pc n st X tn nn ln ks es htn hnn hE.le hE.ok (fun Y hY => hO Y (grown_trans hX hY)) q hq (some ⟨b, 0, none⟩) 2 [(s : Int), (t : Int)] hI (by simp) (fun x hx => by
      unfold noB
      rw [decide_eq_true (by simp at hx; omega)]; rfl)
    have e1 : wayF es (some (q : Int)) [(s : Int), (t : Int)] = nextL (es.getD tq []) (t : Int) := by
      have e2 : wayF es (some (q : Int)) [(s : Int), (t : Int)] = wayF es (leadA es ((q : Int), (s : Int))) [(t : Int)] := rfl
      rw [e2, hle]
      exact leadA_at es (by rw [hE.len]; exact htq) (t : Int)
    rw [e1] at h
    exact h
  have HX0 : Hid (PhAt w (w.alloc (.cells #[.slice ta tn tc, .slice na nn nc, .slice la ln lc, .int .i64 st, .slice pa n pc] 27)) w.heap.size #[.slice ta tn tc, .slice na nn nc, .slice la ln lc, .int .i64 st, .slice pa n pc]) := ⟨World.grownBy_alloc _ _ none, heap_alloc_last w _⟩
  obtain ⟨l, hl⟩ : ∃ l, l = trT tn es ks.length := ⟨_, rfl⟩
  have HL : Hid (l = trT tn es ks.length) := hl
  have hlb : l.length ≤ 33280 := by
    rw [hl]
    have h1 := trT_len (tn := tn) (c := 130) ks.length (fun q hq => hE.short q)
    have h2 : ks.length * 130 ≤ 256 * 130 := Nat.mul_le_mul_right _ hE.le
    omega
  rw [← hl] at HLI HDI
  clear hO hE hsy hD hl hnn
  go_enter Try.func3, Try.ntmps3
  go_wp2_with fail
  refine Calls.mono (awake_any _) ?_
  rintro e w1 ⟨rfl, hg1⟩
  have HX1 : Hid (PhAt w w1 w.heap.size #[.slice ta tn tc, .slice na nn nc, .slice la ln lc, .int .i64 st, .slice pa n pc]) := HX0.out.kept hg1
  clear hg1 HX0
  obtain ⟨k0, k1, k2, k3, k4⟩ := HX1.out.cells
  go_wp2_with fail
  refine Calls.mono (HLI.out _ HX1.out.grown) ?_
  rintro e w2 ⟨a3, c3, rfl, ho3, hg3⟩
  have HX2 : Hid (PhAt w w2 w.heap.size #[.slice ta tn tc, .slice na nn nc, .slice la ln lc, .int .i64 st, .slice pa n pc]) := HX1.out.kept hg3
  have HTW2 : Hid (∀ Y, w2.grownBy Y none → ItsAt Y a3 l) := fun Y hY => (ItsAt.ofT ho3).kept hY
  clear hg3 ho3 HX1 k0 k1 k2 k3 k4 HLI
  obtain ⟨k0, k1, k2, k3, k4⟩ := HX2.out.cells
  obtain ⟨K, hK⟩ : ∃ k, k = l.length := ⟨_, rfl⟩
  have HK : Hid (K = l.length) := hK
  rw [← hK] at hlb ⊢
  clear hK
  go_wp2_with fail
  refine Calls.mono (HDI.out _ HX2.out.grown) ?_
  rintro e W ⟨rb, ua, uc, rfl, hv, hr, hg4⟩
  have HXW : Hid (PhAt w W w.heap.size #[.slice ta tn tc, .slice na nn nc, .slice la ln lc, .int .i64 st, .slice pa n pc]) := HX2.out.kept hg4
  have HTW : Hid (∀ Y, W.grownBy Y none → ItsAt Y a3 l) := fun Y hY => HTW2.out Y (grown_trans hg4 hY)
  have HDC : Hid (∀ Y i, W.grownBy Y none → i < K → Y.cell? ⟨rb, i, none⟩ = some (.slice (ua i) (dirOf tn st es (l.getD i (0, 0))).length (uc i)) ∧ IntsAt Y (ua i) (dirOf tn st es (l.getD i (0, 0)))) := fun Y i hY hi => ⟨(hv.kept hY).cell i (by rw [← HK.out]; exact hi), (ints_ofD (hr i (by rw [← HK.out]; exact hi))).kept hY⟩
  have hKK : ((K : Int) != (K : Int)) = false := bne_self_eq_false _
  rw [← HK.out]
  clear hg4 hv hr HX2 HTW2 k0 k1 k2 k3 k4 HDI
  go_wp2_with fail
  go_loopg [8] K (fun gk v8 wr => ∃ i : Nat, i ≤ K ∧ gk = K - i ∧ v8 = .int .i64 i ∧ W.grownBy wr none)
  case atStart => exact ⟨0, Nat.zero_le _, rfl, rfl, grown_refl _ _⟩
  case round =>
    obtain ⟨i, hi, hgi, rfl, hg⟩ := hrel
    have HGI : Hid (gk = K - i) := hgi
    have HG : Hid (W.grownBy wr none) := hg
    clear hgi hg
    generalize wr = Z at *
    by_cases hlt : i < K ∧ i < 60
    · obtain ⟨hlt, h60⟩ := hlt
      have hid : decide (i < K) = true := decide_eq_true hlt
      have hid2 : decide (i < 60) = true := decide_eq_true h60
      have hid3 : decide ((i : Int) < 60) = true := decide_eq_true (by omega)
      have hi0 : (0 : Int) ≤ (i : Int) := by omega
      have hi1 : (i : Int) < (K : Int) := by omega
      have hil : i < l.length := by rw [← HK.out]; exact hlt
      have hmem : l.getD i (0, 0) ∈ trT tn es ks.length := by rw [← HL.out]; generalize l = l' at hil ⊢; rw [List.getD_eq_getElem?_getD, List.getElem?_eq_getElem hil]; exact List.getElem_mem hil
      obtain ⟨q, s, tq, hx, hq, hts, hs130, hle, htq⟩ := HE.out.trans hmem
      have hss : s < tn + nn := by
        obtain ⟨q2, hq2, e2, he2, _, h9⟩ := trT_mem hmem
        rw [hx] at h9
        have h8 := HSY.out q2 hq2 e2 he2
        simp only [Prod.mk.injEq] at h9
        omega
      obtain ⟨bb, hbb⟩ : ∃ b, b = ((q : Int) == 0 && (s : Int) == st) := ⟨_, rfl⟩
      have hdir : dirOf tn st es (l.getD i (0, 0)) = (symsT (wantG bb (es.getD tq [])) tn).map fun t : Nat => (t : Int) := by
        rw [hx, ← HD.out bb tq htq, hbb]
        unfold dirOf
        rw [hle]; rfl
      have HEQ : Hid (∀ X : World, (binOp .eql 39 (.agg #[.int .i64 (q : Int), .int .i64 (s : Int)]) (.agg #[.int .i64 0, .int .i64 st])).run Try.prog X = .ok (.bool bb) X) := fun X => by rw [hbb]; exact eq_trans (q : Int) (s : Int) 0 st X
      obtain ⟨dl, hdl⟩ : ∃ d, d = (dirOf tn st es (l.getD i (0, 0))).length := ⟨_, rfl⟩
      have HDL : Hid (dl = (symsT (wantG bb (es.getD tq [])) tn).length) := by show _ = _; rw [hdl, hdir, List.length_map]
      have hdlb : dl ≤ 65 := by rw [HDL.out]; exact Nat.le_trans (symsT_len _ _) htn
      obtain ⟨_, hIr⟩ := HDC.out Z i HG.out hlt
      have HRC : Hid (∀ Y, W.grownBy Y none → Y.cell? ⟨rb, i, none⟩ = some (.slice (ua i) dl (uc i)) ∧ IntsAt Y (ua i) ((symsT (wantG bb (es.getD tq [])) tn).map fun t : Nat => (t : Int))) := fun Y hY => by
        obtain ⟨h1, h2⟩ := HDC.out Y i hY hlt
        rw [← hdl] at h1
        rw [hdir] at h2
        exact ⟨h1, h2⟩
      obtain ⟨lb2, lo2, hla, -, -⟩ := (HTW.out Z HG.out).cellAt hil
      subst hla
      have HTC : Hid (∀ Y, W.grownBy Y none → Y.cell? ⟨lb2, lo2 + i * 2, none⟩ = some (.int .i64 (q : Int)) ∧ Y.cell? ⟨lb2, lo2 + i * 2 + 1, none⟩ = some (.int .i64 (s : Int))) := fun Y hY => by
        obtain ⟨b3, o3, h1, h2, h3⟩ := (HTW.out Y hY).cellAt hil
        simp only [Option.some.injEq, Addr.mk.injEq, and_true] at h1
        obtain ⟨rfl, rfl⟩ := h1
        rw [hx] at h2 h3
        exact ⟨h2, h3⟩
      have HWC : Hid (∀ X b t, W.grownBy X none → t < tn → IntsAt X (some ⟨b, 0, none⟩) [(s : Int), ((t : Nat) : Int)] → Calls Try.prog 7 #[.agg #[.slice ta tn tc, .slice na nn nc, .slice la ln lc, .int .i64 st, .slice pa n pc], .int .i64 (q : Int), .slice (some ⟨b, 0, none⟩) 2 2] X fun e y => e = .returned (.tuple #[.int .i64 (wayV (nextL (es.getD tq []) (t : Int))), .int .i64 0]) ∧ X.grownBy y none) := fun X b t hX ht hI => HWA.out X b q s t tq (grown_trans HXW.out.grown hX) hq hss ht htq hle hI
      have HNN : Hid (∀ t v, nextL (es.getD tq []) t = some v → 0 ≤ v) := fun t v hv => by
        obtain ⟨x, _, _, h⟩ := nextL_mem hv
        omega
      obtain ⟨ed, hed⟩ : ∃ ed, ed = es.getD tq [] := ⟨_, rfl⟩
      rw [← hed] at HDL HRC HWC HNN
      clear hmem hx hq hts hs130 hle htq hss hbb hdir hdl hIr hil hed
      go_wp2_with fail
      go_loopg [9, 10] tn (fun gk v9 v10 wr => ∃ t m : Nat, t ≤ tn ∧ gk = tn - t ∧ v10 = .int .i64 t ∧ v9 = .int .i64 m ∧ m = (symsT (wantG bb ed) t).length ∧ W.grownBy wr none)
      case atStart => exact ⟨0, 0, Nat.zero_le _, rfl, rfl, rfl, rfl, HG.out⟩
      case round =>
        obtain ⟨t, m, ht, hgt, rfl, rfl, hm, hg2⟩ := hrel
        have HGT : Hid (gk = tn - t) := hgt
        have HM : Hid (m = (symsT (wantG bb ed) t).length) := hm
        have HG2 : Hid (W.grownBy wr none) := hg2
        have hmb : m ≤ 65 := by rw [hm]; have := symsT_len (wantG bb ed) t; omega
        clear hgt hm hg2
        obtain ⟨k0, k1, k2, k3, k4⟩ := (HXW.out.kept HG2.out).cells
        by_cases hlt2 : t < tn
        · have htd : decide (t < tn) = true := decide_eq_true hlt2
          have HUP : Hid (W.grownBy wr.drew none) := grown_trans HG2.out (grown_drewN _ 1)
          have HUP2 : Hid (W.grownBy (wr.alloc (.cells #[.int .i64 (s : Int), .int .i64 (t : Int)] 3)).drew none) := grown_trans HG2.out (grown_trans (World.grownBy_alloc _ _ none) (grown_drewN _ 1))
          have HIA : Hid (IntsAt (wr.alloc (.cells #[.int .i64 (s : Int), .int .i64 (t : Int)] 3)).drew (some ⟨wr.heap.size, 0, none⟩) [(s : Int), (t : Int)]) := .inr ⟨wr.heap.size, 0, rfl, fun i hi => by
            have h3 : (wr.alloc (.cells #[.int .i64 (s : Int), .int .i64 (t : Int)] 3)).drew.heap[wr.heap.size]? = some (.cells #[.int .i64 (s : Int), .int .i64 (t : Int)] 3 (0, 0)) := heap_alloc_last wr _
            have h2 : i = 0 ∨ i = 1 := by simp at hi; omega
            rcases h2 with rfl | rfl <;> (rw [cell_of_row _ _ _ _ _ _ h3]; rfl)⟩
          have HCS : Hid (∀ Y, W.grownBy Y none → (Y.cell? ⟨w.heap.size, 0, none⟩ = some (.slice ta tn tc) ∧ Y.cell? ⟨w.heap.size, 1, none⟩ = some (.slice na nn nc) ∧ Y.cell? ⟨w.heap.size, 2, none⟩ = some (.slice la ln lc) ∧ Y.cell? ⟨w.heap.size, 3, none⟩ = some (.int .i64 st) ∧ Y.cell? ⟨w.heap.size, 4, none⟩ = some (.slice pa n pc)) ∧ Y.cell? ⟨lb2, lo2 + i * 2, none⟩ = some (.int .i64 (q : Int)) ∧ Y.cell? ⟨lb2, lo2 + i * 2 + 1, none⟩ = some (.int .i64 (s : Int))) := fun Y hY => ⟨(HXW.out.kept hY).cells, HTC.out Y hY⟩
          have HV := show Hid _ from HWC.out _ _ t HUP2.out hlt2 HIA.out
          obtain ⟨v, hv⟩ : ∃ v, v = wayV (nextL ed (t : Int)) := ⟨_, rfl⟩
          have HVE : Hid (v = wayV (nextL ed (t : Int))) := hv
          rw [← hv] at HV
          clear hv
          go_wp2_with fail
          go_region_held3 (fun Y => (Y.cell? ⟨w.heap.size, 0, none⟩ = some (.slice ta tn tc) ∧ Y.cell? ⟨w.heap.size, 1, none⟩ = some (.slice na nn nc) ∧ Y.cell? ⟨w.heap.size, 2, none⟩ = some (.slice la ln lc) ∧ Y.cell? ⟨w.heap.size, 3, none⟩ = some (.int .i64 st) ∧ Y.cell? ⟨w.heap.size, 4, none⟩ = some (.slice pa n pc)) ∧ Y.cell? ⟨lb2, lo2 + i * 2, none⟩ = some (.int .i64 (q : Int)) ∧ Y.cell? ⟨lb2, lo2 + i * 2 + 1, none⟩ = some (.int .i64 (s : Int))) (first | exact HCS.out _ HUP.out | exact HCS.out _ HUP2.out | exact HCS.out _ HG5.out | go_keep)
            ((first
              | (go_at_call 7; refine Calls.mono HV.out ?_; rintro e w5 ⟨rfl, hg5⟩; have HG5 : Hid (W.grownBy w5 none) := grown_trans HUP2.out hg5; clear hg5)
              | fail))
          clear HUP HUP2 HIA HV k0 k1 k2 k3 k4
          have HSU : Hid (symsT (wantG bb ed) (t + 1) = symsT (wantG bb ed) t ++ (if wantG bb ed t = [] then [] else [t])) := symsT_succ _ _
          by_cases h0 : t = 0
          · subst h0
            obtain ⟨⟨k0, k1, k2, k3, k4⟩, z0, z1⟩ := HCS.out w5 HG5.out
            have hEQ := HEQ.out
            have HWB : Hid (wantB bb ed 0 = bb) := rfl
            go_wp2_with fail
            go_quiet (fail)
            obtain ⟨X6, hX6⟩ : ∃ X, X = w5.drewN nq := ⟨_, rfl⟩
            rw [← hX6]
            have HG6 : Hid (W.grownBy X6 none) := by show W.grownBy X6 none; rw [hX6]; exact grown_trans HG5.out (grown_drewN _ _)
            clear hX6 k0 k1 k2 k3 k4 z0 z1 hEQ HG5
            obtain ⟨wb, hwb⟩ : ∃ b, b = bb := ⟨_, rfl⟩
            rw [← hwb]
            have HWW : Hid (wb = wantB bb ed 0) := by show _ = _; rw [HWB.out]; exact hwb
            clear hwb HWB
            cases wb with
            | true =>
              have hne : wantG bb ed 0 ≠ [] := wantG_ne.2 HWW.out.symm
              obtain ⟨h1, h2⟩ := symsT_at (wantG bb ed) hlt2 hne
              rw [← HM.out] at h1 h2
              have hmd : m < dl := by rw [HDL.out]; exact h1
              have hm0 : (0 : Int) ≤ (m : Int) := by omega
              have hm1 : (m : Int) < (dl : Int) := by omega
              have hd3 : decide (dl ≤ m) = false := decide_eq_false (by omega)
              have hd4 : decide ((dl : Int) ≤ (m : Int)) = false := decide_eq_false (by omega)
              obtain ⟨y0, hIr⟩ := HRC.out X6 HG6.out
              obtain ⟨db, do_, hda, y1⟩ : ∃ b off, ua i = some ⟨b, off, none⟩ ∧ X6.cell? ⟨b, off + m, none⟩ = some (.int .i64 (0)) := by
                rcases hIr with h | ⟨b, off, e, h⟩
                · have h9 : (symsT (wantG bb ed) tn).length = 0 := by rw [← List.length_map (f := fun t : Nat => (t : Int)), h]; rfl
                  omega
                · refine ⟨b, off, e, ?_⟩
                  have h9 := h m (by rw [List.length_map]; exact h1)
                  have e9 : ((symsT (wantG bb ed) tn).map fun t : Nat => (t : Int)).getD m 0 = (0) := by
                    rw [List.getD_eq_getElem?_getD, List.getElem?_map, List.getElem?_eq_getElem h1]
                    rw [List.getD_eq_getElem?_getD, List.getElem?_eq_getElem h1] at h2
                    simp only [Option.map_some, Option.getD_some] at h2 ⊢
                    rw [h2]; rfl
                  rw [e9] at h9
                  exact h9
              rw [hda] at y0
              have htt : ((0) != (0)) = false := bne_self_eq_false _
              have HNX : Hid (m + 1 = (symsT (wantG bb ed) (0 + 1)).length) := by
                show _ = _
                rw [HSU.out, if_neg hne, List.length_append, ← HM.out]; rfl
              clear hne h1 h2 hIr hda HWW
              go_wp2_with fail
              go_roundg (tn - (0 + 1))
              case measure => have := HGT.out; omega
              case rel => exact ⟨0 + 1, m + 1, by omega, rfl, by go_num, by go_num, HNX.out, HG6.out⟩
            | false =>
              have hne : wantG bb ed 0 = [] := by
                apply Classical.byContradiction
                intro h
                have h9 := wantG_ne.1 h
                rw [← HWW.out] at h9
                cases h9
              have HNX : Hid (m = (symsT (wantG bb ed) (0 + 1)).length) := by
                show _ = _
                rw [HSU.out, if_pos hne, List.append_nil]; exact HM.out
              clear hne HWW
              go_wp2_with fail
              go_roundg (tn - (0 + 1))
              case measure => have := HGT.out; omega
              case rel => exact ⟨0 + 1, m, by omega, rfl, by go_num, rfl, HNX.out, HG6.out⟩
          · have ht0 : ((t : Int) == 0) = false := beq_eq_false_iff_ne.2 (by omega)
            have ht1 : (t == 0) = false := beq_eq_false_iff_ne.2 h0
            have HWB : Hid (wantB bb ed t = (nextL ed (t : Int)).isSome) := by show _ = _; unfold wantB; rw [if_neg h0]
            obtain ⟨wb, hwb⟩ : ∃ b, b = decide (0 ≤ v) := ⟨_, rfl⟩
            have HWW : Hid (wb = wantB bb ed t) := by
              show wb = _
              rw [HWB.out, hwb, HVE.out]
              cases hn : nextL ed (t : Int) with
              | none => rfl
              | some u => exact decide_eq_true (HNN.out _ u hn)
            obtain ⟨X6, hX6⟩ : ∃ X, X = w5 := ⟨_, rfl⟩
            rw [← hX6] at HG5 ⊢
            have HG6 : Hid (W.grownBy X6 none) := HG5.out
            have hwb2 : decide (0 ≤ v) = wb := hwb.symm
            clear hX6 HWB HVE hwb HG5
            cases wb with
            | true =>
              have hne : wantG bb ed t ≠ [] := wantG_ne.2 HWW.out.symm
              obtain ⟨h1, h2⟩ := symsT_at (wantG bb ed) hlt2 hne
              rw [← HM.out] at h1 h2
              have hmd : m < dl := by rw [HDL.out]; exact h1
              have hm0 : (0 : Int) ≤ (m : Int) := by omega
              have hm1 : (m : Int) < (dl : Int) := by omega
              have hd3 : decide (dl ≤ m) = false := decide_eq_false (by omega)
              have hd4 : decide ((dl : Int) ≤ (m : Int)) = false := decide_eq_false (by omega)
              obtain ⟨y0, hIr⟩ := HRC.out X6 HG6.out
              obtain ⟨db, do_, hda, y1⟩ : ∃ b off, ua i = some ⟨b, off, none⟩ ∧ X6.cell? ⟨b, off + m, none⟩ = some (.int .i64 (t : Int)) := by
                rcases hIr with h | ⟨b, off, e, h⟩
                · have h9 : (symsT (wantG bb ed) tn).length = 0 := by rw [← List.length_map (f := fun t : Nat => (t : Int)), h]; rfl
                  omega
                · refine ⟨b, off, e, ?_⟩
                  have h9 := h m (by rw [List.length_map]; exact h1)
                  have e9 : ((symsT (wantG bb ed) tn).map fun t : Nat => (t : Int)).getD m 0 = (t : Int) := by
                    rw [List.getD_eq_getElem?_getD, List.getElem?_map, List.getElem?_eq_getElem h1]
                    rw [List.getD_eq_getElem?_getD, List.getElem?_eq_getElem h1] at h2
                    simp only [Option.map_some, Option.getD_some] at h2 ⊢
                    rw [h2]
                  rw [e9] at h9
                  exact h9
              rw [hda] at y0
              have htt : ((t : Int) != (t : Int)) = false := bne_self_eq_false _
              have HNX : Hid (m + 1 = (symsT (wantG bb ed) (t + 1)).length) := by
                show _ = _
                rw [HSU.out, if_neg hne, List.length_append, ← HM.out]; rfl
              clear hne h1 h2 hIr hda HWW
              go_wp2_with fail
              go_roundg (tn - (t + 1))
              case measure => have := HGT.out; omega
              case rel => exact ⟨t + 1, m + 1, by omega, rfl, by go_num, by go_num, HNX.out, HG6.out⟩
            | false =>
              have hne : wantG bb ed t = [] := by
                apply Classical.byContradiction
                intro h
                have h9 := wantG_ne.1 h
                rw [← HWW.out] at h9
                cases h9
              have HNX : Hid (m = (symsT (wantG bb ed) (t + 1)).length) := by
                show _ = _
                rw [HSU.out, if_pos hne, List.append_nil]; exact HM.out
              clear hne HWW
              go_wp2_with fail
              go_roundg (tn - (t + 1))
              case measure => have := HGT.out; omega
              case rel => exact ⟨t + 1, m, by omega, rfl, by go_num, rfl, HNX.out, HG6.out⟩
        · have htT : tn = t := by omega
          subst htT
          have htd : decide (tn < tn) = false := decide_eq_false (by omega)
          have hmd : m = dl := by rw [HDL.out]; exact HM.out
          subst hmd
          have hmm : ((m : Int) != (m : Int)) = false := bne_self_eq_false _
          have y0 := (HRC.out wr HG2.out).1
          go_wp2_with fail
          go_roundg (K - (i + 1))
          case measure => have := HGI.out; omega
          case rel => exact ⟨i + 1, by omega, rfl, by go_num, HG2.out⟩
    · by_cases hlt2 : i < K
      · have hid : decide (i < K) = true := decide_eq_true hlt2
        have hid2 : decide (i < 60) = false := decide_eq_false (fun h => hlt ⟨hlt2, h⟩)
        have hid3 : decide ((i : Int) < 60) = false := decide_eq_false (fun h => hlt ⟨hlt2, by omega⟩)
        go_wp2_with fail
        go_ret
        exact ⟨rfl, grown_trans HXW.out.grown HG.out⟩
      · have hid : decide (i < K) = false := decide_eq_false hlt2
        go_wp2_with fail
        go_ret
        exact ⟨rfl, grown_trans HXW.out.grown HG.out⟩
end

end Go.Proofs.Ytfllgmbnljfboab.J

/-
  trans: the law TransDirect, for every input.
-/
namespace Go.Proofs.Ytfllgmbnljfboab.J
open Go.RowKit Go.Maps Go.Shelf

theorem GG_zero {tn n : Nat} {L : Nat → Int} {R : Nat → List Int} {k : List It} (hk : ∀ x ∈ k, itB n R x = true) (hR : ∀ k, k < n → ∀ x ∈ R k, (0 : Int) < x) : GG tn n L R k 0 = [] := by
  unfold GG
  have key : ∀ x ∈ CLo tn n L R k, itB n R x = true := by
    unfold CLo
    by_cases hh : ∃ l, IsClo tn n L R k l ∧ l.length ≤ k.length + 13000
    · rw [dif_pos hh]
      have h1 := Classical.choose_spec hh
      exact fun x hx => ((h1.1.mem x).1 hx).item hk
    · rw [dif_neg hh]
      exact fun x hx => absurd hx (by simp)
  unfold kerT
  rw [List.map_eq_nil_iff, List.filter_eq_nil_iff]
  intro x hx h
  have h1 := key x hx
  have h2 : aheadV R x = 0 := by simpa using h
  unfold itB at h1
  simp only [Bool.and_eq_true, decide_eq_true_eq] at h1
  obtain ⟨⟨⟨a1, a2⟩, a3⟩, a4⟩ := h1
  unfold aheadV at h2
  by_cases e : x.2 = ((R x.1.toNat).length : Int)
  · rw [if_pos e] at h2; omega
  · rw [if_neg e] at h2
    have hl : x.2.toNat < (R x.1.toNat).length := by omega
    have h3 := hR x.1.toNat (by omega) ((R x.1.toNat).getD x.2.toNat 0) (by
      generalize R x.1.toNat = l at hl ⊢
      rw [List.getD_eq_getElem?_getD, List.getElem?_eq_getElem hl]; exact List.getElem_mem hl)
    omega

theorem tdirect_core (ta na la pa : Option Addr) (tc nc lc pc : Nat) (ts : List (ByteArray × Int)) (ns : List ByteArray) (lv : List Int) (n : Nat) (L : Nat → Int) (R : Nat → List Int) (ra : Nat → Option Addr) (rc : Nat → Nat) (V : Nat → Int) (st : Int) (w : World) (tn nn ln : Nat) (hlen : ts.length = tn ∧ ns.length = nn ∧ lv.length = ln) (hG : GAt w ta na la pa tc nc lc pc ts ns lv n L R ra rc V) : Calls Try.prog 3 #[.agg #[.slice ta tn tc, .slice na nn nc, .slice la ln lc, .int .i64 st, .slice pa n pc]] w fun e w' => e = .returned (.bool true) ∧ w.grownBy w' none := by
  by_cases hc : closedOK ts ns lv st n L R V
  · have hM : MayOK tn nn n st L R true := by obtain ⟨rfl, rfl, rfl⟩ := hlen; exact mayOK_closed hc
    cases hau : autoF (GG tn n L R) (tn + nn) 256 with
    | none => exact tdirect_bad ta na la pa tc nc lc pc n st w tn nn ln 11 (.inr rfl) (ofBad11 ta na la pa tc nc lc pc ts ns lv n L R ra rc V st w tn nn ln hlen hG hc hau)
    | some p =>
      obtain ⟨ks, es⟩ := p
      obtain ⟨hO, hE⟩ := ofOk ta na la pa tc nc lc pc ts ns lv n L R ra rc V st w tn nn ln hlen hG hc hau
      have hA := autF hM.p0 hau
      exact tdirect_ok ta na la pa tc nc lc pc n st w tn nn ln hM.tmax hM.nmax hM.t0 ks es hE hO (fun q hq x hx => (hA.snd q hq x hx).1) (fun b q hq => dir_want b (hA.fst q hq) (GG_zero (hA.kok.each q hq).1 (fun k hk x hx => (hM.right k hk x hx).1)) (Nat.le_add_right _ _) hM.t0)
  · exact tdirect_bad ta na la pa tc nc lc pc n st w tn nn ln 1 (.inl rfl) (ofBad1 ta na la pa tc nc lc pc ts ns lv n L R ra rc V st w tn nn ln hlen hG hc)

end Go.Proofs.Ytfllgmbnljfboab.J
