import Derived.Test.YtdijjlhodlghbaaRows
import Derived.Test.YtdijjlhodlghbaaQnppmnomjphad
import Derived.Test.YtdijjlhodlghbaaQehmadobnnnbm
import Derived.Test.YtdijjlhodlghbaaQkahfeglipgoi
import Derived.Test.YtdijjlhodlghbaaQfhjjcabagdej
import Derived.Test.YtdijjlhodlghbaaQfhlhmekdlllp

/-
  lr0: what the laws' theorems share.
-/
namespace Go.Proofs.Ytdijjlhodlghbaa.J
open Go.ChangeShapes Go.WideShapes Go.ChangeAt Go.RowKit Go.Deep

theorem own : ownKnob Try.prog.godebug = none := by kernel_rfl
theorem laidOut : laidOutB Try.prog = true := by kernel_rfl
section
variable {H : Type} {enc : TypeId × Value → H} {W : World} {fuel : Nat} {cs : List Value} {x : DataW H × List MemPlace}

end

set_option maxRecDepth 100000 in
theorem open_int {H : Type} {enc : TypeId × Value → H} {W : World} {base : Nat} {v : Value} {d : DataW H} {p : List MemPlace} (hv : Value.okWide Try.prog W .any base 3 v) (h : DataW.Trod enc Try.prog W 0 (fun _ => true) true 3 v d p) : ∃ z, v = .int .i64 z ∧ (Lit.int .i64 z).wf = true := by
  obtain ⟨z, rfl⟩ := okWide_int Try.underlying3 hv
  obtain ⟨fuel, hf⟩ := h
  have hf' : DataW.trod enc Try.prog W 0 (fun _ => true) true fuel 3 [.int .i64 z] = some (d, p) := hf
  obtain ⟨z', e, h2⟩ := DataW.trod_int Try.underlying3 hf'
  simp only [List.cons.injEq, Value.int.injEq, and_true, true_and] at e
  subst e
  exact ⟨z, rfl, h2.2⟩

end Go.Proofs.Ytdijjlhodlghbaa.J

/-
  lr0: the law Lr0Again.
-/
namespace Go.Proofs.Ytdijjlhodlghbaa.J
open Go.RowKit Go.Maps Go.Shelf

attribute [local go_sem] Oper.semAt_some

theorem own_nil {X : World} {B e s n c : Nat} {a : Option Addr} {xs : List Value} (h : X.ownsRow B e s (.slice a n c) n xs) : a = none → n = 0 ∧ c = 0 := fun e => by
  rcases h.2 with ⟨h1, h2⟩ | ⟨g, cap, cur, h1, _⟩
  · simp only [Value.slice.injEq] at h1
    exact ⟨h2, h1.2.2⟩
  · simp only [Value.slice.injEq] at h1
    rw [e] at h1
    cases h1.1
theorem ItsAt.cellAt {X : World} {a : Option Addr} {l : List It} (h : ItsAt X a l) {i : Nat} (hi : i < l.length) : ∃ b off, a = some ⟨b, off, none⟩ ∧ X.cell? ⟨b, off + i * 2, none⟩ = some (.int .i64 (l.getD i (0, 0)).1) ∧ X.cell? ⟨b, off + i * 2 + 1, none⟩ = some (.int .i64 (l.getD i (0, 0)).2) := by
  rcases h with h | ⟨b, off, e, h⟩
  · rw [h] at hi; cases hi
  · exact ⟨b, off, e, h i hi⟩
section
variable (ta na la pa : Option Addr) (tc nc lc pc : Nat) (n : Nat) (L : Nat → Int) (R : Nat → List Int) (st : Int) (w : World) (tn nn ln : Nat) (a : Option Addr) (cap : Nat) (I : List It) (s : Int)

end

end Go.Proofs.Ytdijjlhodlghbaa.J

/-
  lr0: the law Lr0Again, for every input.
-/
namespace Go.Proofs.Ytdijjlhodlghbaa.J
open Go.RowKit Go.Maps Go.Shelf

theorem ItsErr.same {l m : List It} {ec : Int} {X : World} {e : Ending} {y : World} (h : ItsErr l ec X e y) (hm : l = m) : ItsErr m ec X e y := hm ▸ h

section
variable (ta na la pa : Option Addr) (tc nc lc pc : Nat) (ts : List (ByteArray × Int)) (ns : List ByteArray) (lv : List Int) (n : Nat) (L : Nat → Int) (R : Nat → List Int) (ra : Nat → Option Addr) (rc : Nat → Nat) (V : Nat → Int) (st : Int) (w : World) (tn nn ln : Nat) (hlen : ts.length = tn ∧ ns.length = nn ∧ lv.length = ln) (hG : GAt w ta na la pa tc nc lc pc ts ns lv n L R ra rc V) (a : Option Addr) (cap : Nat) (I : List It) (hI : ItsAt w a I) (s : Int)
include hlen hG hI
end

end Go.Proofs.Ytdijjlhodlghbaa.J

/-
  lr0: the law Lr0Edges, walked.
-/
namespace Go.Proofs.Ytdijjlhodlghbaa.J
open Go.RowKit Go.Maps Go.Shelf

attribute [local go_sem] Oper.semAt_some

theorem ItsAt.ofT {X : World} {B c e : Nat} {a : Option Addr} {l : List It} (h : X.ownsRow B e 2 (.slice a l.length c) l.length (itsV l)) : ItsAt X a l := by
  rcases h.2 with ⟨h', h2⟩ | ⟨g, cap, cur, hv, hB, hh, _, _, hs, ht⟩
  · left
    exact List.eq_nil_of_length_eq_zero h2
  · right
    simp only [Value.slice.injEq] at hv
    refine ⟨g, 0, hv.1, fun i hi => ?_⟩
    obtain ⟨h3, h4⟩ := itsV_at l i hi
    rw [← ht, List.getElem?_take, if_pos (by omega)] at h3 h4
    rw [Nat.zero_add, cell_of_row _ _ _ _ _ _ hh, cell_of_row _ _ _ _ _ _ hh]
    exact ⟨by simpa using h3, by simpa using h4⟩
/-- The cells of an automaton that is read. -/
theorem AutP.st {B : Nat} {X : World} {v : Value} {ks : List (List It)} {el : Nat → List It} {kv ev : Nat → Value} (h : AutP B X v ks el kv ev) {q : Nat} (hq : q < ks.length) : ∃ g c, v = .slice (some ⟨g, 0, none⟩) ks.length c ∧ X.cell? ⟨g, q * 2, none⟩ = some (kv q) ∧ X.cell? ⟨g, q * 2 + 1, none⟩ = some (ev q) := by
  obtain ⟨g, c, e, h1⟩ := owns_at h.row (by omega)
  exact ⟨g, c, e, h1 _ _ (stV_at kv ev _ q hq).1, h1 _ _ (stV_at kv ev _ q hq).2⟩
theorem AutP.kerAt {B : Nat} {X : World} {v : Value} {ks : List (List It)} {el : Nat → List It} {kv ev : Nat → Value} (h : AutP B X v ks el kv ev) {q : Nat} (hq : q < ks.length) : ∃ a c, kv q = .slice a (ks.getD q []).length c ∧ ItsAt X a (ks.getD q []) ∧ (a = none → (ks.getD q []).length = 0 ∧ c = 0) := by
  have h1 := h.ker q hq
  obtain ⟨a, c, e⟩ := owns_cut h1
  rw [e] at h1
  exact ⟨a, c, e, ItsAt.of h1, own_nil h1⟩
theorem AutP.edgAt {B : Nat} {X : World} {v : Value} {ks : List (List It)} {el : Nat → List It} {kv ev : Nat → Value} (h : AutP B X v ks el kv ev) {q : Nat} (hq : q < ks.length) : ∃ a c, ev q = .slice a (el q).length c ∧ ItsAt X a (el q) := by
  have h1 := h.edg q hq
  obtain ⟨a, c, e⟩ := owns_cut h1
  rw [e] at h1
  exact ⟨a, c, e, ItsAt.ofT h1⟩
theorem elF_at {es : List (List (Nat × Nat))} {q i : Nat} (hi : i < (es.getD q []).length) : (elF es q).length = (es.getD q []).length ∧ (elF es q).getD i (0, 0) = (((((es.getD q []).getD i (0, 0)).1 : Nat) : Int), ((((es.getD q []).getD i (0, 0)).2 : Nat) : Int)) := by
  unfold elF
  generalize es.getD q [] = l at hi ⊢
  refine ⟨edI_len l, ?_⟩
  unfold edI
  rw [List.getD_eq_getElem?_getD, List.getD_eq_getElem?_getD, List.getElem?_map, List.getElem?_eq_getElem hi]; rfl
theorem elF_len (es : List (List (Nat × Nat))) (q : Nat) : (elF es q).length = (es.getD q []).length := edI_len _

section
variable (ta na la pa : Option Addr) (tc nc lc pc : Nat) (n : Nat) (st : Int) (w : World) (tn nn ln : Nat) (z : Int)

set_option maxRecDepth 100000 in
set_option maxHeartbeats 2000000 in
theorem edges_bad (ec : Int) (is : Bool) (hec : ec = 1 ∧ is = false ∨ ec = 11 ∧ is = true)
    (hBU : ∀ X, w.grownBy X none → Calls Try.prog 12 #[.agg #[.slice ta tn tc, .slice na nn nc, .slice la ln lc, .int .i64 st, .slice pa n pc]] X fun e y => e = .returned (.tuple #[.agg #[.slice none 0 0, .int .i64 0, .int .i64 0], .int .i64 ec]) ∧ X.grownBy y none)
    (hCL : ∀ X, w.grownBy X none → Calls Try.prog 22 #[.agg #[.slice ta tn tc, .slice na nn nc, .slice la ln lc, .int .i64 st, .slice pa n pc]] X fun e y => e = .returned (.bool is) ∧ X.grownBy y none) :
    Calls Try.prog 6 #[.agg #[.slice ta tn tc, .slice na nn nc, .slice la ln lc, .int .i64 st, .slice pa n pc], .int .i64 z] w fun e w' => e = .returned (.bool true) ∧ w.grownBy w' none := by
  have HBU := show Hid _ from hBU
  have HCL := show Hid _ from hCL
  have HX0 : Hid (PhAt w (w.alloc (.cells #[.slice ta tn tc, .slice na nn nc, .slice la ln lc, .int .i64 st, .slice pa n pc] 27)) w.heap.size #[.slice ta tn tc, .slice na nn nc, .slice la ln lc, .int .i64 st, .slice pa n pc]) := ⟨World.grownBy_alloc _ _ none, heap_alloc_last w _⟩
  clear hBU hCL
  rcases hec with ⟨rfl, rfl⟩ | ⟨rfl, rfl⟩
  all_goals
    go_enter Try.func6, Try.ntmps6
    go_wp2_with fail
    refine Calls.mono (awake_any _) ?_
    rintro e w1 ⟨rfl, hg1⟩
    have HX1 : Hid (PhAt w w1 w.heap.size #[.slice ta tn tc, .slice na nn nc, .slice la ln lc, .int .i64 st, .slice pa n pc]) := HX0.out.kept hg1
    clear hg1 HX0
    obtain ⟨k0, k1, k2, k3, k4⟩ := HX1.out.cells
    go_wp2_with fail
    refine Calls.mono (HBU.out _ HX1.out.grown) ?_
    rintro e w2 ⟨rfl, hg2⟩
    have HX2 : Hid (PhAt w (w2.alloc (.cells #[.slice none 0 0, .int .i64 0, .int .i64 0] 32)) w.heap.size #[.slice ta tn tc, .slice na nn nc, .slice la ln lc, .int .i64 st, .slice pa n pc]) := HX1.out.kept (grown_trans hg2 (World.grownBy_alloc _ _ none))
    clear hg2 HX1 k0 k1 k2 k3 k4
    obtain ⟨k0, k1, k2, k3, k4⟩ := HX2.out.cells
    go_wp2_with fail
    refine Calls.mono (HCL.out _ HX2.out.grown) ?_
    rintro e w3 ⟨rfl, hg3⟩
    have HG3 : Hid (w.grownBy w3 none) := grown_trans HX2.out.grown hg3
    clear hg3 HX2 k0 k1 k2 k3 k4
    go_wp2_with fail
    go_ret
    exact ⟨rfl, HG3.out⟩

set_option maxRecDepth 100000 in
set_option maxHeartbeats 4000000 in
theorem edges_pos (S N ask qn zn : Nat) (hz : z = (zn : Int)) (hzb : zn ≤ 9223372036854775807) (hS : S ≤ 130) (ks : List (List It)) (es : List (List (Nat × Nat))) (Gq : Nat → List It) (hN : N = ks.length) (hqn : qn < N) (hqz : qn = zn % N)
    (hlen : (es.getD qn []).length = (symsT Gq S).length) (hedge : ∀ s, s < S → Gq s ≠ [] → (symsT Gq s).length < (es.getD qn []).length ∧ ∃ t, (es.getD qn []).getD (symsT Gq s).length (0, 0) = (s, t) ∧ t < ks.length ∧ ks.getD t [] = Gq s) (hGl : ∀ s, (Gq s).length ≤ 3341001)
    (hBU : ∀ X, w.grownBy X none → Calls Try.prog 12 #[.agg #[.slice ta tn tc, .slice na nn nc, .slice la ln lc, .int .i64 st, .slice pa n pc]] X fun e y => ∃ sa sc kv ev, e = .returned (.tuple #[.agg #[.slice sa N sc, .int .i64 (ask : Int), .int .i64 (N : Int)], .int .i64 0]) ∧ AutP w.heap.size y (.slice sa ks.length sc) ks (elF es) kv ev ∧ X.grownBy y none)
    (hSY : ∀ X, Calls Try.prog 24 #[.agg #[.slice ta tn tc, .slice na nn nc, .slice la ln lc, .int .i64 st, .slice pa n pc]] X fun e y => e = .returned (.int .i64 (S : Int)) ∧ X.grownBy y none)
    (hGO : ∀ X a' c' s, w.grownBy X none → s < S → ItsAt X a' (ks.getD qn []) → (a' = none → (ks.getD qn []).length = 0 ∧ c' = 0) → Calls Try.prog 19 #[.agg #[.slice ta tn tc, .slice na nn nc, .slice la ln lc, .int .i64 st, .slice pa n pc], .int .i64 ((s : Nat) : Int), .slice a' (ks.getD qn []).length c'] X fun e y => ItsErr (Gq s) 0 X e y) :
    Calls Try.prog 6 #[.agg #[.slice ta tn tc, .slice na nn nc, .slice la ln lc, .int .i64 st, .slice pa n pc], .int .i64 z] w fun e w' => e = .returned (.bool true) ∧ w.grownBy w' none := by
  have HBU := show Hid _ from hBU
  have HSY := show Hid _ from hSY
  have HGO := show Hid _ from hGO
  have HLEN : Hid ((es.getD qn []).length = (symsT Gq S).length) := hlen
  have HEDGE := show Hid _ from hedge
  have HGL := show Hid _ from hGl
  have HN : Hid (N = ks.length) := hN
  have HX0 : Hid (PhAt w (w.alloc (.cells #[.slice ta tn tc, .slice na nn nc, .slice la ln lc, .int .i64 st, .slice pa n pc] 27)) w.heap.size #[.slice ta tn tc, .slice na nn nc, .slice la ln lc, .int .i64 st, .slice pa n pc]) := ⟨World.grownBy_alloc _ _ none, heap_alloc_last w _⟩
  have hm : (zn : Int).tmod (N : Int) = (qn : Int) := by rw [hqz]; rfl
  have hN0 : ((N : Int) == 0) = false := beq_eq_false_iff_ne.2 (by omega)
  have hN1 : (N == 0) = false := beq_eq_false_iff_ne.2 (by omega)
  have hN2 : ¬ (N : Int) = 0 := by omega
  have hN3 : ¬ N = 0 := by omega
  have hzd : decide (z < 0) = false := decide_eq_false (by omega)
  subst hz
  clear hBU hSY hGO hlen hedge hGl hN hqz
  go_enter Try.func6, Try.ntmps6
  go_wp2_with fail
  refine Calls.mono (awake_any _) ?_
  rintro e w1 ⟨rfl, hg1⟩
  have HX1 : Hid (PhAt w w1 w.heap.size #[.slice ta tn tc, .slice na nn nc, .slice la ln lc, .int .i64 st, .slice pa n pc]) := HX0.out.kept hg1
  clear hg1 HX0
  obtain ⟨k0, k1, k2, k3, k4⟩ := HX1.out.cells
  go_wp2_with fail
  refine Calls.mono (HBU.out _ HX1.out.grown) ?_
  rintro e w2 ⟨sa, sc, kv, ev, rfl, hAP, hg2⟩
  obtain ⟨ab, hab⟩ : ∃ b, b = w2.heap.size := ⟨_, rfl⟩
  obtain ⟨W, hW⟩ : ∃ W, W = w2.alloc (.cells #[.slice sa N sc, .int .i64 (ask : Int), .int .i64 (N : Int)] 32) := ⟨_, rfl⟩
  have HXW : Hid (PhAt w W w.heap.size #[.slice ta tn tc, .slice na nn nc, .slice la ln lc, .int .i64 st, .slice pa n pc]) := by rw [hW]; exact HX1.out.kept (grown_trans hg2 (World.grownBy_alloc _ _ none))
  have HAW : Hid (W.heap[ab]? = some (.cells #[.slice sa N sc, .int .i64 (ask : Int), .int .i64 (N : Int)] 32 (0, 0))) := by rw [hW, hab]; exact heap_alloc_last w2 _
  have HPW : Hid (AutP w.heap.size W (.slice sa ks.length sc) ks (elF es) kv ev) := by rw [hW]; exact hAP.kept (World.grownBy_alloc _ _ none)
  have HWE := show Hid _ from hW
  have HBE := show Hid _ from hab
  obtain ⟨sb, sc', hsv, hs0, hs1⟩ := HPW.out.st (q := qn) (by rw [← HN.out]; exact hqn)
  simp only [Value.slice.injEq] at hsv
  obtain ⟨rfl, _, rfl⟩ := hsv
  obtain ⟨ka, kc, hkv, hki, hkn⟩ := HPW.out.kerAt (q := qn) (by rw [← HN.out]; exact hqn)
  obtain ⟨ea, ec, hev, hei⟩ := HPW.out.edgAt (q := qn) (by rw [← HN.out]; exact hqn)
  rw [hkv] at hs0
  rw [hev] at hs1
  obtain ⟨kl, hkl⟩ : ∃ k, k = (ks.getD qn []).length := ⟨_, rfl⟩
  obtain ⟨E, hE⟩ : ∃ E, E = (elF es qn).length := ⟨_, rfl⟩
  rw [← hkl] at hs0
  rw [← hE] at hs1
  have HEE : Hid (E = (es.getD qn []).length) := by show _ = _; rw [hE]; exact elF_len _ _
  have HKI : Hid (∀ Y, W.grownBy Y none → ItsAt Y ka (ks.getD qn [])) := fun Y hY => hki.kept hY
  have HEI : Hid (∀ Y, W.grownBy Y none → ItsAt Y ea (elF es qn)) := fun Y hY => hei.kept hY
  have HKN : Hid (ka = none → (ks.getD qn []).length = 0 ∧ kc = 0) := hkn
  have HKL : Hid (kl = (ks.getD qn []).length) := hkl
  have HCE : Hid (∀ Y, W.grownBy Y none → (Y.cell? ⟨w.heap.size, 0, none⟩ = some (.slice ta tn tc) ∧ Y.cell? ⟨w.heap.size, 1, none⟩ = some (.slice na nn nc) ∧ Y.cell? ⟨w.heap.size, 2, none⟩ = some (.slice la ln lc) ∧ Y.cell? ⟨w.heap.size, 3, none⟩ = some (.int .i64 st) ∧ Y.cell? ⟨w.heap.size, 4, none⟩ = some (.slice pa n pc)) ∧ Y.cell? ⟨ab, 0, none⟩ = some (.slice (some ⟨sb, 0, none⟩) N sc) ∧ Y.cell? ⟨sb, qn * 2, none⟩ = some (.slice ka kl kc) ∧ Y.cell? ⟨sb, qn * 2 + 1, none⟩ = some (.slice ea E ec)) := fun Y hY => ⟨(HXW.out.kept hY).cells, by rw [cell_of_row _ _ _ _ _ _ (box_kept HAW.out hY)]; rfl, hY.cell hs0 (by simp), hY.cell hs1 (by simp)⟩
  have HTC : Hid (∀ Y t, W.grownBy Y none → t < N → ∃ ta' tc', Y.cell? ⟨sb, t * 2, none⟩ = some (.slice ta' (ks.getD t []).length tc') ∧ ∀ Z, W.grownBy Z none → ItsAt Z ta' (ks.getD t [])) := fun Y t hY ht => by
    obtain ⟨sb2, sc2, hsv2, hs2, _⟩ := HPW.out.st (q := t) (by rw [← HN.out]; exact ht)
    simp only [Value.slice.injEq, Option.some.injEq, Addr.mk.injEq] at hsv2
    obtain ⟨⟨rfl, _⟩, _⟩ := hsv2
    obtain ⟨ta', tc', h1, h2, _⟩ := HPW.out.kerAt (q := t) (by rw [← HN.out]; exact ht)
    rw [h1] at hs2
    exact ⟨ta', tc', hY.cell hs2 (by simp), fun Z hZ => h2.kept hZ⟩
  clear hg2 hAP HX1 k0 k1 k2 k3 k4 hW hab hs0 hs1 hkv hev hki hei hkn hkl hE
  obtain ⟨_, y0, y1, y2⟩ := HCE.out W (grown_refl _ _)
  rw [HWE.out, HBE.out] at y0
  go_wp2_with fail
  rw [← HWE.out, ← HBE.out]
  clear HWE HBE y0 y1 y2
  go_loopg [10, 11] S (fun gk v10 v11 wr => ∃ s m : Nat, s ≤ S ∧ gk = S - s ∧ v11 = .int .i64 s ∧ v10 = .int .i64 m ∧ m = (symsT Gq s).length ∧ W.grownBy wr none)
  case atStart => exact ⟨0, 0, Nat.zero_le _, rfl, rfl, rfl, rfl, grown_refl _ _⟩
  case round =>
    obtain ⟨s, m, hs, hgs, rfl, rfl, hms, hg⟩ := hrel
    have HGS : Hid (gk = S - s) := hgs
    have HMS : Hid (m = (symsT Gq s).length) := hms
    have HG : Hid (W.grownBy wr none) := hg
    have hmb : m ≤ 130 := by rw [hms]; have := symsT_len Gq s; omega
    obtain ⟨⟨k0, k1, k2, k3, k4⟩, y0, y1, y2⟩ := HCE.out wr hg
    clear hgs hms hg
    go_wp2_with fail
    refine Calls.mono (HSY.out wr) ?_
    rintro e w4 ⟨rfl, hg4⟩
    have HG4 : Hid (W.grownBy w4 none) := grown_trans HG.out hg4
    clear hg4 k0 k1 k2 k3 k4 y0 y1 y2
    by_cases hlt : s < S
    · have hsd : decide (s < S) = true := decide_eq_true hlt
      have hq0 : (0 : Int) ≤ (qn : Int) := by omega
      have hq1 : (qn : Int) < (N : Int) := by omega
      have HUP : Hid (W.grownBy w4.drew none) := grown_trans HG4.out (grown_drewN _ 1)
      have HGC := show Hid _ from fun (Y : World) (hY : W.grownBy Y none) => HGO.out Y ka kc s (grown_trans HXW.out.grown hY) hlt (HKI.out Y hY) HKN.out
      rw [← HKL.out] at HGC
      go_wp2_with fail
      go_region_held3 (fun Y => (Y.cell? ⟨w.heap.size, 0, none⟩ = some (.slice ta tn tc) ∧ Y.cell? ⟨w.heap.size, 1, none⟩ = some (.slice na nn nc) ∧ Y.cell? ⟨w.heap.size, 2, none⟩ = some (.slice la ln lc) ∧ Y.cell? ⟨w.heap.size, 3, none⟩ = some (.int .i64 st) ∧ Y.cell? ⟨w.heap.size, 4, none⟩ = some (.slice pa n pc)) ∧ Y.cell? ⟨ab, 0, none⟩ = some (.slice (some ⟨sb, 0, none⟩) N sc) ∧ Y.cell? ⟨sb, qn * 2, none⟩ = some (.slice ka kl kc) ∧ Y.cell? ⟨sb, qn * 2 + 1, none⟩ = some (.slice ea E ec)) (first | exact HCE.out _ HUP.out | exact HCE.out _ HG5.out | go_keep)
        ((first
          | (go_at_call 19; refine Calls.mono (HGC.out _ HUP.out) ?_; rintro e w5 ⟨a5, c5, rfl, ho5, hg5⟩; have HG5 : Hid (W.grownBy w5 none) := grown_trans HUP.out hg5; have HI5 : Hid (∀ Z, w5.grownBy Z none → ItsAt Z a5 (Gq s)) := fun Z hZ => (ItsAt.of ho5).kept hZ; clear hg5 ho5)
          | fail))
      obtain ⟨gl, hgl⟩ : ∃ g, g = (Gq s).length := ⟨_, rfl⟩
      have HGLN : Hid (gl = (Gq s).length) := hgl
      have hglb : gl ≤ 3341001 := by rw [hgl]; exact HGL.out s
      rw [← hgl]
      clear hgl HUP HGC HG4
      by_cases hz0 : gl = 0
      · subst hz0
        have HNX : Hid (m = (symsT Gq (s + 1)).length) := by
          have h1 : Gq s = [] := List.eq_nil_of_length_eq_zero HGLN.out.symm
          show m = _
          rw [symsT_succ, if_pos h1, List.append_nil]; exact HMS.out
        go_wp2_with fail
        go_roundg (S - (s + 1))
        case measure => have := HGS.out; omega
        case rel => exact ⟨s + 1, m, by omega, rfl, by go_num, rfl, HNX.out, HG5.out⟩
      · have hgz : ((gl : Int) == 0) = false := beq_eq_false_iff_ne.2 (by omega)
        have hgz2 : (gl == 0) = false := beq_eq_false_iff_ne.2 hz0
        have hne : Gq s ≠ [] := fun h => hz0 (by rw [HGLN.out, h]; rfl)
        obtain ⟨h1, t, h2, h3, h4⟩ := HEDGE.out s hlt hne
        rw [← HMS.out] at h1 h2
        have hmE : m < E := by rw [HEE.out]; exact h1
        have htN : t < N := by rw [HN.out]; exact h3
        have HNX : Hid (m + 1 = (symsT Gq (s + 1)).length) := by
          show m + 1 = _
          rw [symsT_succ, if_neg hne, List.length_append, ← HMS.out]; rfl
        obtain ⟨_, q2⟩ := elF_at h1
        rw [h2] at q2
        have hb1 : decide (E ≤ m) = false := decide_eq_false (by omega)
        have hb2 : decide ((E : Int) ≤ (m : Int)) = false := decide_eq_false (by omega)
        have hb3 : decide ((t : Int) < 0) = false := decide_eq_false (by omega)
        have hb4 : decide (N ≤ t) = false := decide_eq_false (by omega)
        have hb5 : decide ((N : Int) ≤ (t : Int)) = false := decide_eq_false (by omega)
        have hss : ((s : Int) != (s : Int)) = false := bne_self_eq_false _
        have hss1 : ((s : Int) == (s : Int)) = true := beq_self_eq_true _
        have hss2 : (s == s) = true := beq_self_eq_true _
        have hss3 : (s != s) = false := bne_self_eq_false _
        have hss4 : (!((s : Int) == (s : Int))) = false := by rw [hss1]; rfl
        have hss5 : (!(s == s)) = false := by rw [hss2]; rfl
        have hm0 : (0 : Int) ≤ (m : Int) := by omega
        have hm1 : (m : Int) < (E : Int) := by omega
        have ht0 : (0 : Int) ≤ (t : Int) := by omega
        have ht1 : (t : Int) < (N : Int) := by omega
        obtain ⟨eb, eo, hea, -⟩ := (HEI.out w5 HG5.out).cellAt (i := m) (by rw [elF_len]; exact h1)
        subst hea
        have HEC : Hid (∀ Y, W.grownBy Y none → Y.cell? ⟨eb, eo + m * 2, none⟩ = some (.int .i64 (s : Int)) ∧ Y.cell? ⟨eb, eo + m * 2 + 1, none⟩ = some (.int .i64 (t : Int))) := fun Y hY => by
          obtain ⟨b2, o2, h5, h6, h7⟩ := (HEI.out Y hY).cellAt (i := m) (by rw [elF_len]; exact h1)
          simp only [Option.some.injEq, Addr.mk.injEq, and_true] at h5
          obtain ⟨rfl, rfl⟩ := h5
          rw [q2] at h6 h7
          exact ⟨h6, h7⟩
        obtain ⟨ta', tc', r3, HTI⟩ := HTC.out w5 t HG5.out htN
        have HTCC : Hid (∀ Y, W.grownBy Y none → Y.cell? ⟨sb, t * 2, none⟩ = some (.slice ta' gl tc')) := fun Y hY => by
          obtain ⟨ta2, tc2, h5, _⟩ := HTC.out Y t hY htN
          have h6 := hY
          obtain ⟨sb2, sc2, hsv2, hs2, _⟩ := HPW.out.st (q := t) (by rw [← HN.out]; exact htN)
          simp only [Value.slice.injEq, Option.some.injEq, Addr.mk.injEq] at hsv2
          obtain ⟨⟨rfl, _⟩, _⟩ := hsv2
          have h7 := HG5.out.cell hs2 (by simp)
          rw [r3] at h7
          have h8 := hY.cell hs2 (by simp)
          rw [← Option.some.inj h7] at h8
          rw [h4, ← HGLN.out] at h8
          exact h8
        have HSM : Hid (∀ Y, w5.grownBy Y none → Calls Try.prog 21 #[.slice ta' gl tc', .slice a5 gl c5] Y fun e y => e = .returned (.bool true) ∧ Y.grownBy y none) := fun Y hY => by
          rw [HGLN.out]
          have h5 := HTI Y (grown_trans HG5.out hY)
          rw [h4] at h5
          exact sameItems_any ta' a5 tc' c5 (Gq s) (Gq s) Y h5 (HI5.out Y hY) (by rw [← HGLN.out]; omega) (by rw [← HGLN.out]; omega) true ⟨fun _ => rfl, fun _ => rfl⟩
        obtain ⟨_, y0, y1, y2⟩ := HCE.out w5 HG5.out
        obtain ⟨x0, x1⟩ := HEC.out w5 HG5.out
        clear h1 h2 h3 h4 q2 r3 HTI hne
        go_wp2_with fail
        go_quiet (fail)
        obtain ⟨V1, hV1⟩ : ∃ V, V = w5.drewN nq := ⟨_, rfl⟩
        rw [← hV1]
        have HGV : Hid (w5.grownBy V1 none) := by show w5.grownBy V1 none; rw [hV1]; exact grown_drewN _ _
        have HUP2 : Hid (W.grownBy V1.drew none) := grown_trans HG5.out (grown_trans HGV.out (grown_drewN _ 1))
        have HUP3 : Hid (w5.grownBy V1.drew none) := grown_trans HGV.out (grown_drewN _ 1)
        have HKS2 : Hid (∀ Y, W.grownBy Y none → Y.cell? ⟨ab, 0, none⟩ = some (.slice (some ⟨sb, 0, none⟩) N sc) ∧ Y.cell? ⟨eb, eo + m * 2 + 1, none⟩ = some (.int .i64 (t : Int)) ∧ Y.cell? ⟨sb, t * 2, none⟩ = some (.slice ta' gl tc')) := fun Y hY => ⟨(HCE.out Y hY).2.1, (HEC.out Y hY).2, HTCC.out Y hY⟩
        clear hV1 x0 x1 y0 y1 y2
        go_wp2_with fail
        go_region_held3 (fun Y => Y.cell? ⟨ab, 0, none⟩ = some (.slice (some ⟨sb, 0, none⟩) N sc) ∧ Y.cell? ⟨eb, eo + m * 2 + 1, none⟩ = some (.int .i64 (t : Int)) ∧ Y.cell? ⟨sb, t * 2, none⟩ = some (.slice ta' gl tc')) (first | exact HKS2.out _ HUP2.out | exact HKS2.out _ HG6.out | go_keep)
          ((first
            | (go_at_call 21; refine Calls.mono (HSM.out _ HUP3.out) ?_; rintro e w6 ⟨rfl, hg6⟩; have HG6 : Hid (W.grownBy w6 none) := grown_trans HUP2.out hg6; clear hg6)
            | fail))
        go_wp2_with fail
        go_roundg (S - (s + 1))
        case measure => have := HGS.out; omega
        case rel => exact ⟨s + 1, m + 1, by omega, rfl, by go_num, by go_num, HNX.out, HG6.out⟩
    · have hsS : S = s := by omega
      subst hsS
      have hsd : decide (S < S) = false := decide_eq_false (by omega)
      have hq0 : (0 : Int) ≤ (qn : Int) := by omega
      have hq1 : (qn : Int) < (N : Int) := by omega
      have hmE : m = E := by rw [HEE.out, HLEN.out]; exact HMS.out
      subst hmE
      obtain ⟨_, y0, y1, y2⟩ := HCE.out w4 HG4.out
      go_wp2_with fail
      go_ret
      exact ⟨rfl, grown_trans HXW.out.grown HG4.out⟩

set_option maxRecDepth 100000 in
set_option maxHeartbeats 4000000 in
theorem edges_neg (S N ask qn zn : Nat) (hz : z = -(zn : Int) - 1) (hzb : zn ≤ 9223372036854775807) (hS : S ≤ 130) (ks : List (List It)) (es : List (List (Nat × Nat))) (Gq : Nat → List It) (hN : N = ks.length) (hqn : qn < N) (hqz : qn = zn % N)
    (hlen : (es.getD qn []).length = (symsT Gq S).length) (hedge : ∀ s, s < S → Gq s ≠ [] → (symsT Gq s).length < (es.getD qn []).length ∧ ∃ t, (es.getD qn []).getD (symsT Gq s).length (0, 0) = (s, t) ∧ t < ks.length ∧ ks.getD t [] = Gq s) (hGl : ∀ s, (Gq s).length ≤ 3341001)
    (hBU : ∀ X, w.grownBy X none → Calls Try.prog 12 #[.agg #[.slice ta tn tc, .slice na nn nc, .slice la ln lc, .int .i64 st, .slice pa n pc]] X fun e y => ∃ sa sc kv ev, e = .returned (.tuple #[.agg #[.slice sa N sc, .int .i64 (ask : Int), .int .i64 (N : Int)], .int .i64 0]) ∧ AutP w.heap.size y (.slice sa ks.length sc) ks (elF es) kv ev ∧ X.grownBy y none)
    (hSY : ∀ X, Calls Try.prog 24 #[.agg #[.slice ta tn tc, .slice na nn nc, .slice la ln lc, .int .i64 st, .slice pa n pc]] X fun e y => e = .returned (.int .i64 (S : Int)) ∧ X.grownBy y none)
    (hGO : ∀ X a' c' s, w.grownBy X none → s < S → ItsAt X a' (ks.getD qn []) → (a' = none → (ks.getD qn []).length = 0 ∧ c' = 0) → Calls Try.prog 19 #[.agg #[.slice ta tn tc, .slice na nn nc, .slice la ln lc, .int .i64 st, .slice pa n pc], .int .i64 ((s : Nat) : Int), .slice a' (ks.getD qn []).length c'] X fun e y => ItsErr (Gq s) 0 X e y) :
    Calls Try.prog 6 #[.agg #[.slice ta tn tc, .slice na nn nc, .slice la ln lc, .int .i64 st, .slice pa n pc], .int .i64 z] w fun e w' => e = .returned (.bool true) ∧ w.grownBy w' none := by
  have HBU := show Hid _ from hBU
  have HSY := show Hid _ from hSY
  have HGO := show Hid _ from hGO
  have HLEN : Hid ((es.getD qn []).length = (symsT Gq S).length) := hlen
  have HEDGE := show Hid _ from hedge
  have HGL := show Hid _ from hGl
  have HN : Hid (N = ks.length) := hN
  have HX0 : Hid (PhAt w (w.alloc (.cells #[.slice ta tn tc, .slice na nn nc, .slice la ln lc, .int .i64 st, .slice pa n pc] 27)) w.heap.size #[.slice ta tn tc, .slice na nn nc, .slice la ln lc, .int .i64 st, .slice pa n pc]) := ⟨World.grownBy_alloc _ _ none, heap_alloc_last w _⟩
  have hm : (zn : Int).tmod (N : Int) = (qn : Int) := by rw [hqz]; rfl
  have hN0 : ((N : Int) == 0) = false := beq_eq_false_iff_ne.2 (by omega)
  have hN1 : (N == 0) = false := beq_eq_false_iff_ne.2 (by omega)
  have hN2 : ¬ (N : Int) = 0 := by omega
  have hN3 : ¬ N = 0 := by omega
  have hzd : decide (z < 0) = true := decide_eq_true (by omega)
  have hz1 : IntKind.i64.wrap (z + 1) = z + 1 := by rw [IntKind.wrap_i64]; omega
  have hz2 : IntKind.i64.wrap (-(z + 1)) = (zn : Int) := by rw [IntKind.wrap_i64]; omega
  have hz3 : z < 0 := by omega
  clear hz hzb
  clear hBU hSY hGO hlen hedge hGl hN hqz
  go_enter Try.func6, Try.ntmps6
  go_wp2_with fail
  refine Calls.mono (awake_any _) ?_
  rintro e w1 ⟨rfl, hg1⟩
  have HX1 : Hid (PhAt w w1 w.heap.size #[.slice ta tn tc, .slice na nn nc, .slice la ln lc, .int .i64 st, .slice pa n pc]) := HX0.out.kept hg1
  clear hg1 HX0
  obtain ⟨k0, k1, k2, k3, k4⟩ := HX1.out.cells
  go_wp2_with fail
  refine Calls.mono (HBU.out _ HX1.out.grown) ?_
  rintro e w2 ⟨sa, sc, kv, ev, rfl, hAP, hg2⟩
  obtain ⟨ab, hab⟩ : ∃ b, b = w2.heap.size := ⟨_, rfl⟩
  obtain ⟨W, hW⟩ : ∃ W, W = w2.alloc (.cells #[.slice sa N sc, .int .i64 (ask : Int), .int .i64 (N : Int)] 32) := ⟨_, rfl⟩
  have HXW : Hid (PhAt w W w.heap.size #[.slice ta tn tc, .slice na nn nc, .slice la ln lc, .int .i64 st, .slice pa n pc]) := by rw [hW]; exact HX1.out.kept (grown_trans hg2 (World.grownBy_alloc _ _ none))
  have HAW : Hid (W.heap[ab]? = some (.cells #[.slice sa N sc, .int .i64 (ask : Int), .int .i64 (N : Int)] 32 (0, 0))) := by rw [hW, hab]; exact heap_alloc_last w2 _
  have HPW : Hid (AutP w.heap.size W (.slice sa ks.length sc) ks (elF es) kv ev) := by rw [hW]; exact hAP.kept (World.grownBy_alloc _ _ none)
  have HWE := show Hid _ from hW
  have HBE := show Hid _ from hab
  obtain ⟨sb, sc', hsv, hs0, hs1⟩ := HPW.out.st (q := qn) (by rw [← HN.out]; exact hqn)
  simp only [Value.slice.injEq] at hsv
  obtain ⟨rfl, _, rfl⟩ := hsv
  obtain ⟨ka, kc, hkv, hki, hkn⟩ := HPW.out.kerAt (q := qn) (by rw [← HN.out]; exact hqn)
  obtain ⟨ea, ec, hev, hei⟩ := HPW.out.edgAt (q := qn) (by rw [← HN.out]; exact hqn)
  rw [hkv] at hs0
  rw [hev] at hs1
  obtain ⟨kl, hkl⟩ : ∃ k, k = (ks.getD qn []).length := ⟨_, rfl⟩
  obtain ⟨E, hE⟩ : ∃ E, E = (elF es qn).length := ⟨_, rfl⟩
  rw [← hkl] at hs0
  rw [← hE] at hs1
  have HEE : Hid (E = (es.getD qn []).length) := by show _ = _; rw [hE]; exact elF_len _ _
  have HKI : Hid (∀ Y, W.grownBy Y none → ItsAt Y ka (ks.getD qn [])) := fun Y hY => hki.kept hY
  have HEI : Hid (∀ Y, W.grownBy Y none → ItsAt Y ea (elF es qn)) := fun Y hY => hei.kept hY
  have HKN : Hid (ka = none → (ks.getD qn []).length = 0 ∧ kc = 0) := hkn
  have HKL : Hid (kl = (ks.getD qn []).length) := hkl
  have HCE : Hid (∀ Y, W.grownBy Y none → (Y.cell? ⟨w.heap.size, 0, none⟩ = some (.slice ta tn tc) ∧ Y.cell? ⟨w.heap.size, 1, none⟩ = some (.slice na nn nc) ∧ Y.cell? ⟨w.heap.size, 2, none⟩ = some (.slice la ln lc) ∧ Y.cell? ⟨w.heap.size, 3, none⟩ = some (.int .i64 st) ∧ Y.cell? ⟨w.heap.size, 4, none⟩ = some (.slice pa n pc)) ∧ Y.cell? ⟨ab, 0, none⟩ = some (.slice (some ⟨sb, 0, none⟩) N sc) ∧ Y.cell? ⟨sb, qn * 2, none⟩ = some (.slice ka kl kc) ∧ Y.cell? ⟨sb, qn * 2 + 1, none⟩ = some (.slice ea E ec)) := fun Y hY => ⟨(HXW.out.kept hY).cells, by rw [cell_of_row _ _ _ _ _ _ (box_kept HAW.out hY)]; rfl, hY.cell hs0 (by simp), hY.cell hs1 (by simp)⟩
  have HTC : Hid (∀ Y t, W.grownBy Y none → t < N → ∃ ta' tc', Y.cell? ⟨sb, t * 2, none⟩ = some (.slice ta' (ks.getD t []).length tc') ∧ ∀ Z, W.grownBy Z none → ItsAt Z ta' (ks.getD t [])) := fun Y t hY ht => by
    obtain ⟨sb2, sc2, hsv2, hs2, _⟩ := HPW.out.st (q := t) (by rw [← HN.out]; exact ht)
    simp only [Value.slice.injEq, Option.some.injEq, Addr.mk.injEq] at hsv2
    obtain ⟨⟨rfl, _⟩, _⟩ := hsv2
    obtain ⟨ta', tc', h1, h2, _⟩ := HPW.out.kerAt (q := t) (by rw [← HN.out]; exact ht)
    rw [h1] at hs2
    exact ⟨ta', tc', hY.cell hs2 (by simp), fun Z hZ => h2.kept hZ⟩
  clear hg2 hAP HX1 k0 k1 k2 k3 k4 hW hab hs0 hs1 hkv hev hki hei hkn hkl hE
  obtain ⟨_, y0, y1, y2⟩ := HCE.out W (grown_refl _ _)
  rw [HWE.out, HBE.out] at y0
  go_wp2_with fail
  rw [← HWE.out, ← HBE.out]
  clear HWE HBE y0 y1 y2
  go_loopg [10, 11] S (fun gk v10 v11 wr => ∃ s m : Nat, s ≤ S ∧ gk = S - s ∧ v11 = .int .i64 s ∧ v10 = .int .i64 m ∧ m = (symsT Gq s).length ∧ W.grownBy wr none)
  case atStart => exact ⟨0, 0, Nat.zero_le _, rfl, rfl, rfl, rfl, grown_refl _ _⟩
  case round =>
    obtain ⟨s, m, hs, hgs, rfl, rfl, hms, hg⟩ := hrel
    have HGS : Hid (gk = S - s) := hgs
    have HMS : Hid (m = (symsT Gq s).length) := hms
    have HG : Hid (W.grownBy wr none) := hg
    have hmb : m ≤ 130 := by rw [hms]; have := symsT_len Gq s; omega
    obtain ⟨⟨k0, k1, k2, k3, k4⟩, y0, y1, y2⟩ := HCE.out wr hg
    clear hgs hms hg
    go_wp2_with fail
    refine Calls.mono (HSY.out wr) ?_
    rintro e w4 ⟨rfl, hg4⟩
    have HG4 : Hid (W.grownBy w4 none) := grown_trans HG.out hg4
    clear hg4 k0 k1 k2 k3 k4 y0 y1 y2
    by_cases hlt : s < S
    · have hsd : decide (s < S) = true := decide_eq_true hlt
      have hq0 : (0 : Int) ≤ (qn : Int) := by omega
      have hq1 : (qn : Int) < (N : Int) := by omega
      have HUP : Hid (W.grownBy w4.drew none) := grown_trans HG4.out (grown_drewN _ 1)
      have HGC := show Hid _ from fun (Y : World) (hY : W.grownBy Y none) => HGO.out Y ka kc s (grown_trans HXW.out.grown hY) hlt (HKI.out Y hY) HKN.out
      rw [← HKL.out] at HGC
      go_wp2_with fail
      go_region_held3 (fun Y => (Y.cell? ⟨w.heap.size, 0, none⟩ = some (.slice ta tn tc) ∧ Y.cell? ⟨w.heap.size, 1, none⟩ = some (.slice na nn nc) ∧ Y.cell? ⟨w.heap.size, 2, none⟩ = some (.slice la ln lc) ∧ Y.cell? ⟨w.heap.size, 3, none⟩ = some (.int .i64 st) ∧ Y.cell? ⟨w.heap.size, 4, none⟩ = some (.slice pa n pc)) ∧ Y.cell? ⟨ab, 0, none⟩ = some (.slice (some ⟨sb, 0, none⟩) N sc) ∧ Y.cell? ⟨sb, qn * 2, none⟩ = some (.slice ka kl kc) ∧ Y.cell? ⟨sb, qn * 2 + 1, none⟩ = some (.slice ea E ec)) (first | exact HCE.out _ HUP.out | exact HCE.out _ HG5.out | go_keep)
        ((first
          | (go_at_call 19; refine Calls.mono (HGC.out _ HUP.out) ?_; rintro e w5 ⟨a5, c5, rfl, ho5, hg5⟩; have HG5 : Hid (W.grownBy w5 none) := grown_trans HUP.out hg5; have HI5 : Hid (∀ Z, w5.grownBy Z none → ItsAt Z a5 (Gq s)) := fun Z hZ => (ItsAt.of ho5).kept hZ; clear hg5 ho5)
          | fail))
      obtain ⟨gl, hgl⟩ : ∃ g, g = (Gq s).length := ⟨_, rfl⟩
      have HGLN : Hid (gl = (Gq s).length) := hgl
      have hglb : gl ≤ 3341001 := by rw [hgl]; exact HGL.out s
      rw [← hgl]
      clear hgl HUP HGC HG4
      by_cases hz0 : gl = 0
      · subst hz0
        have HNX : Hid (m = (symsT Gq (s + 1)).length) := by
          have h1 : Gq s = [] := List.eq_nil_of_length_eq_zero HGLN.out.symm
          show m = _
          rw [symsT_succ, if_pos h1, List.append_nil]; exact HMS.out
        go_wp2_with fail
        go_roundg (S - (s + 1))
        case measure => have := HGS.out; omega
        case rel => exact ⟨s + 1, m, by omega, rfl, by go_num, rfl, HNX.out, HG5.out⟩
      · have hgz : ((gl : Int) == 0) = false := beq_eq_false_iff_ne.2 (by omega)
        have hgz2 : (gl == 0) = false := beq_eq_false_iff_ne.2 hz0
        have hne : Gq s ≠ [] := fun h => hz0 (by rw [HGLN.out, h]; rfl)
        obtain ⟨h1, t, h2, h3, h4⟩ := HEDGE.out s hlt hne
        rw [← HMS.out] at h1 h2
        have hmE : m < E := by rw [HEE.out]; exact h1
        have htN : t < N := by rw [HN.out]; exact h3
        have HNX : Hid (m + 1 = (symsT Gq (s + 1)).length) := by
          show m + 1 = _
          rw [symsT_succ, if_neg hne, List.length_append, ← HMS.out]; rfl
        obtain ⟨_, q2⟩ := elF_at h1
        rw [h2] at q2
        have hb1 : decide (E ≤ m) = false := decide_eq_false (by omega)
        have hb2 : decide ((E : Int) ≤ (m : Int)) = false := decide_eq_false (by omega)
        have hb3 : decide ((t : Int) < 0) = false := decide_eq_false (by omega)
        have hb4 : decide (N ≤ t) = false := decide_eq_false (by omega)
        have hb5 : decide ((N : Int) ≤ (t : Int)) = false := decide_eq_false (by omega)
        have hss : ((s : Int) != (s : Int)) = false := bne_self_eq_false _
        have hss1 : ((s : Int) == (s : Int)) = true := beq_self_eq_true _
        have hss2 : (s == s) = true := beq_self_eq_true _
        have hss3 : (s != s) = false := bne_self_eq_false _
        have hss4 : (!((s : Int) == (s : Int))) = false := by rw [hss1]; rfl
        have hss5 : (!(s == s)) = false := by rw [hss2]; rfl
        have hm0 : (0 : Int) ≤ (m : Int) := by omega
        have hm1 : (m : Int) < (E : Int) := by omega
        have ht0 : (0 : Int) ≤ (t : Int) := by omega
        have ht1 : (t : Int) < (N : Int) := by omega
        obtain ⟨eb, eo, hea, -⟩ := (HEI.out w5 HG5.out).cellAt (i := m) (by rw [elF_len]; exact h1)
        subst hea
        have HEC : Hid (∀ Y, W.grownBy Y none → Y.cell? ⟨eb, eo + m * 2, none⟩ = some (.int .i64 (s : Int)) ∧ Y.cell? ⟨eb, eo + m * 2 + 1, none⟩ = some (.int .i64 (t : Int))) := fun Y hY => by
          obtain ⟨b2, o2, h5, h6, h7⟩ := (HEI.out Y hY).cellAt (i := m) (by rw [elF_len]; exact h1)
          simp only [Option.some.injEq, Addr.mk.injEq, and_true] at h5
          obtain ⟨rfl, rfl⟩ := h5
          rw [q2] at h6 h7
          exact ⟨h6, h7⟩
        obtain ⟨ta', tc', r3, HTI⟩ := HTC.out w5 t HG5.out htN
        have HTCC : Hid (∀ Y, W.grownBy Y none → Y.cell? ⟨sb, t * 2, none⟩ = some (.slice ta' gl tc')) := fun Y hY => by
          obtain ⟨ta2, tc2, h5, _⟩ := HTC.out Y t hY htN
          have h6 := hY
          obtain ⟨sb2, sc2, hsv2, hs2, _⟩ := HPW.out.st (q := t) (by rw [← HN.out]; exact htN)
          simp only [Value.slice.injEq, Option.some.injEq, Addr.mk.injEq] at hsv2
          obtain ⟨⟨rfl, _⟩, _⟩ := hsv2
          have h7 := HG5.out.cell hs2 (by simp)
          rw [r3] at h7
          have h8 := hY.cell hs2 (by simp)
          rw [← Option.some.inj h7] at h8
          rw [h4, ← HGLN.out] at h8
          exact h8
        have HSM : Hid (∀ Y, w5.grownBy Y none → Calls Try.prog 21 #[.slice ta' gl tc', .slice a5 gl c5] Y fun e y => e = .returned (.bool true) ∧ Y.grownBy y none) := fun Y hY => by
          rw [HGLN.out]
          have h5 := HTI Y (grown_trans HG5.out hY)
          rw [h4] at h5
          exact sameItems_any ta' a5 tc' c5 (Gq s) (Gq s) Y h5 (HI5.out Y hY) (by rw [← HGLN.out]; omega) (by rw [← HGLN.out]; omega) true ⟨fun _ => rfl, fun _ => rfl⟩
        obtain ⟨_, y0, y1, y2⟩ := HCE.out w5 HG5.out
        obtain ⟨x0, x1⟩ := HEC.out w5 HG5.out
        clear h1 h2 h3 h4 q2 r3 HTI hne
        go_wp2_with fail
        go_quiet (fail)
        obtain ⟨V1, hV1⟩ : ∃ V, V = w5.drewN nq := ⟨_, rfl⟩
        rw [← hV1]
        have HGV : Hid (w5.grownBy V1 none) := by show w5.grownBy V1 none; rw [hV1]; exact grown_drewN _ _
        have HUP2 : Hid (W.grownBy V1.drew none) := grown_trans HG5.out (grown_trans HGV.out (grown_drewN _ 1))
        have HUP3 : Hid (w5.grownBy V1.drew none) := grown_trans HGV.out (grown_drewN _ 1)
        have HKS2 : Hid (∀ Y, W.grownBy Y none → Y.cell? ⟨ab, 0, none⟩ = some (.slice (some ⟨sb, 0, none⟩) N sc) ∧ Y.cell? ⟨eb, eo + m * 2 + 1, none⟩ = some (.int .i64 (t : Int)) ∧ Y.cell? ⟨sb, t * 2, none⟩ = some (.slice ta' gl tc')) := fun Y hY => ⟨(HCE.out Y hY).2.1, (HEC.out Y hY).2, HTCC.out Y hY⟩
        clear hV1 x0 x1 y0 y1 y2
        go_wp2_with fail
        go_region_held3 (fun Y => Y.cell? ⟨ab, 0, none⟩ = some (.slice (some ⟨sb, 0, none⟩) N sc) ∧ Y.cell? ⟨eb, eo + m * 2 + 1, none⟩ = some (.int .i64 (t : Int)) ∧ Y.cell? ⟨sb, t * 2, none⟩ = some (.slice ta' gl tc')) (first | exact HKS2.out _ HUP2.out | exact HKS2.out _ HG6.out | go_keep)
          ((first
            | (go_at_call 21; refine Calls.mono (HSM.out _ HUP3.out) ?_; rintro e w6 ⟨rfl, hg6⟩; have HG6 : Hid (W.grownBy w6 none) := grown_trans HUP2.out hg6; clear hg6)
            | fail))
        go_wp2_with fail
        go_roundg (S - (s + 1))
        case measure => have := HGS.out; omega
        case rel => exact ⟨s + 1, m + 1, by omega, rfl, by go_num, by go_num, HNX.out, HG6.out⟩
    · have hsS : S = s := by omega
      subst hsS
      have hsd : decide (S < S) = false := decide_eq_false (by omega)
      have hq0 : (0 : Int) ≤ (qn : Int) := by omega
      have hq1 : (qn : Int) < (N : Int) := by omega
      have hmE : m = E := by rw [HEE.out, HLEN.out]; exact HMS.out
      subst hmE
      obtain ⟨_, y0, y1, y2⟩ := HCE.out w4 HG4.out
      go_wp2_with fail
      go_ret
      exact ⟨rfl, grown_trans HXW.out.grown HG4.out⟩
end

end Go.Proofs.Ytdijjlhodlghbaa.J

/-
  lr0: the law Lr0Edges, for every input.
-/
namespace Go.Proofs.Ytdijjlhodlghbaa.J
open Go.RowKit Go.Maps Go.Shelf

theorem AutP.base {B B' : Nat} {X : World} {v : Value} {ks : List (List It)} {el : Nat → List It} {kv ev : Nat → Value} (h : AutP B X v ks el kv ev) (hb : B' ≤ B) : AutP B' X v ks el kv ev :=
  ⟨owns_base h.row hb, fun i hi => owns_base (h.ker i hi) hb, fun i hi => owns_base (h.edg i hi) hb⟩
theorem PJ.len {n : Nat} {R : Nat → List Int} {i : Nat} {k : List It} (h : PJ n R i k) (hi : i ≤ 257) : k.length ≤ 3341001 := by
  have h1 := h.2
  have h2 : 13000 * i ≤ 13000 * 257 := Nat.mul_le_mul_left _ hi
  omega
section
variable (ta na la pa : Option Addr) (tc nc lc pc : Nat) (ts : List (ByteArray × Int)) (ns : List ByteArray) (lv : List Int) (n : Nat) (L : Nat → Int) (R : Nat → List Int) (ra : Nat → Option Addr) (rc : Nat → Nat) (V : Nat → Int) (st : Int) (w : World) (tn nn ln : Nat) (hlen : ts.length = tn ∧ ns.length = nn ∧ lv.length = ln) (hG : GAt w ta na la pa tc nc lc pc ts ns lv n L R ra rc V)
include hlen hG
/-- Build, where there is an automaton: one for all worlds. -/
theorem build_some (hc : closedOK ts ns lv st n L R V) {ks : List (List It)} {es : List (List (Nat × Nat))} (h : autoF (GG tn n L R) (tn + nn) 256 = some (ks, es)) (X : World) (hX : w.grownBy X none) : Calls Try.prog 12 #[.agg #[.slice ta tn tc, .slice na nn nc, .slice la ln lc, .int .i64 st, .slice pa n pc]] X fun e y => ∃ sa sc kv ev, e = .returned (.tuple #[.agg #[.slice sa ks.length sc, .int .i64 (askN es : Int), .int .i64 (ks.length : Int)], .int .i64 0]) ∧ AutP X.heap.size y (.slice sa ks.length sc) ks (elF es) kv ev ∧ X.grownBy y none := by
  refine (buildOk ta na la pa tc nc lc pc ts ns lv n L R ra rc V st X tn nn ln hlen (hG.kept hX) hc).mono ?_
  rintro e y (⟨ks', es', sa, sc, kv, ev, hau, rfl, hA, hg⟩ | ⟨hau, _⟩)
  · have h2 := h.symm.trans hau
    simp only [Option.some.injEq, Prod.mk.injEq] at h2
    obtain ⟨rfl, rfl⟩ := h2
    exact ⟨sa, sc, kv, ev, rfl, hA, hg⟩
  · have h2 := h.symm.trans hau
    cases h2
theorem build_none (hc : closedOK ts ns lv st n L R V) (h : autoF (GG tn n L R) (tn + nn) 256 = none) (X : World) (hX : w.grownBy X none) : Calls Try.prog 12 #[.agg #[.slice ta tn tc, .slice na nn nc, .slice la ln lc, .int .i64 st, .slice pa n pc]] X fun e y => e = .returned (.tuple #[.agg #[.slice none 0 0, .int .i64 0, .int .i64 0], .int .i64 11]) ∧ X.grownBy y none := by
  refine (buildOk ta na la pa tc nc lc pc ts ns lv n L R ra rc V st X tn nn ln hlen (hG.kept hX) hc).mono ?_
  rintro e y (⟨ks', es', sa, sc, kv, ev, hau, rfl, hA, hg⟩ | ⟨hau, rfl, hg⟩)
  · have h2 := h.symm.trans hau
    cases h2
  · exact ⟨rfl, hg⟩
/-- Goto of a state's kernel. -/
theorem goto_state (hc : closedOK ts ns lv st n L R V) {ks : List (List It)} {es : List (List (Nat × Nat))} (h : AutF (GG tn n L R) n R (tn + nn) ks es) {q : Nat} (hq : q < ks.length) (X : World) (hX : w.grownBy X none) (a' : Option Addr) (c' s : Nat) (hs : s < tn + nn) (hI : ItsAt X a' (ks.getD q [])) (hn : a' = none → (ks.getD q []).length = 0 ∧ c' = 0) : Calls Try.prog 19 #[.agg #[.slice ta tn tc, .slice na nn nc, .slice la ln lc, .int .i64 st, .slice pa n pc], .int .i64 (s : Int), .slice a' (ks.getD q []).length c'] X fun e y => ItsErr (GG tn n L R (ks.getD q []) s) 0 X e y := by
  have h1 := h.kok.each q hq
  have h2 := h.kok.le
  refine (gotoOk ta na la pa tc nc lc pc ts ns lv n L R ra rc V st X tn nn ln hlen (hG.kept hX) a' c' (ks.getD q []) hI (by have := h1.len (by omega); omega) hn s hs hc h1.1).mono ?_
  rintro e y ⟨l, hl, hll, he⟩
  exact he.same (by rw [GG_eq hl hll])

theorem edges_core (hts : ∀ t ∈ ts, t.1.size ≤ 140737488355328) (hns : ∀ s ∈ ns, s.size ≤ 140737488355328) (z : Int) (hz : -9223372036854775808 ≤ z ∧ z ≤ 9223372036854775807) : Calls Try.prog 6 #[.agg #[.slice ta tn tc, .slice na nn nc, .slice la ln lc, .int .i64 st, .slice pa n pc], .int .i64 z] w fun e w' => e = .returned (.bool true) ∧ w.grownBy w' none := by
  have hRC : ∀ (r : Bool), (r = true ↔ closedOK ts ns lv st n L R V) → ∀ X, w.grownBy X none → Calls Try.prog 22 #[.agg #[.slice ta tn tc, .slice na nn nc, .slice la ln lc, .int .i64 st, .slice pa n pc]] X fun e y => e = .returned (.bool r) ∧ X.grownBy y none := fun r hr X hX => by
    have := rclosed_any ta na la pa tc nc lc pc st ts ns lv n L R ra rc V X (hG.kept hX) hts hns r hr
    rwa [hlen.1, hlen.2.1, hlen.2.2] at this
  by_cases hc : closedOK ts ns lv st n L R V
  · have hM : MayOK tn nn n st L R true := by obtain ⟨rfl, rfl, rfl⟩ := hlen; exact mayOK_closed hc
    cases hau : autoF (GG tn n L R) (tn + nn) 256 with
    | none => exact edges_bad ta na la pa tc nc lc pc n st w tn nn ln z 11 true (.inr ⟨rfl, rfl⟩) (build_none ta na la pa tc nc lc pc ts ns lv n L R ra rc V st w tn nn ln hlen hG hc hau) (hRC true ⟨fun _ => hc, fun _ => rfl⟩)
    | some p =>
      obtain ⟨ks, es⟩ := p
      have hA := autF hM.p0 hau
      have hS : tn + nn ≤ 130 := by have := hM.tmax; have := hM.nmax; omega
      have hSY : ∀ X, Calls Try.prog 24 #[.agg #[.slice ta tn tc, .slice na nn nc, .slice la ln lc, .int .i64 st, .slice pa n pc]] X fun e y => e = .returned (.int .i64 (((tn + nn : Nat)) : Int)) ∧ X.grownBy y none := fun X => by
        refine (Go.Proofs.Ytdijjlhodlghbaa.symbols_any ta na la pa tn nn ln n tc nc lc pc st X (by have := hM.tmax; omega) (by have := hM.nmax; omega)).mono ?_
        rintro e y ⟨rfl, hg⟩
        exact ⟨by rw [Int.natCast_add], hg⟩
      have hBU : ∀ X, w.grownBy X none → Calls Try.prog 12 #[.agg #[.slice ta tn tc, .slice na nn nc, .slice la ln lc, .int .i64 st, .slice pa n pc]] X fun e y => ∃ sa sc kv ev, e = .returned (.tuple #[.agg #[.slice sa ks.length sc, .int .i64 (askN es : Int), .int .i64 (ks.length : Int)], .int .i64 0]) ∧ AutP w.heap.size y (.slice sa ks.length sc) ks (elF es) kv ev ∧ X.grownBy y none := fun X hX => by
        refine (build_some ta na la pa tc nc lc pc ts ns lv n L R ra rc V st w tn nn ln hlen hG hc hau X hX).mono ?_
        rintro e y ⟨sa, sc, kv, ev, he, hAP, hg⟩
        exact ⟨sa, sc, kv, ev, he, hAP.base hX.size, hg⟩
      have key : ∀ zn : Nat, zn % ks.length < ks.length := fun zn => Nat.mod_lt _ hA.pos
      have hGl : ∀ q, q < ks.length → ∀ s, (GG tn n L R (ks.getD q []) s).length ≤ 3341001 := fun q hq s => ((hA.kok.each q hq).GG (m := q + 1) s (Nat.lt_succ_self q)).len (by have := hA.kok.le; omega)
      by_cases h0 : 0 ≤ z
      · obtain ⟨zn, rfl⟩ : ∃ zn : Nat, z = (zn : Int) := ⟨z.toNat, by omega⟩
        exact edges_pos ta na la pa tc nc lc pc n st w tn nn ln (zn : Int) (tn + nn) ks.length (askN es) (zn % ks.length) zn rfl (by omega) hS ks es (GG tn n L R (ks.getD (zn % ks.length) [])) rfl (key zn) rfl (hA.elen (key zn)) (fun s hs hk => hA.edge (key zn) hs hk) (hGl _ (key zn)) hBU hSY (fun X a' c' s hX hs hI hn => goto_state ta na la pa tc nc lc pc ts ns lv n L R ra rc V st w tn nn ln hlen hG hc hA (key zn) X hX a' c' s hs hI hn)
      · obtain ⟨zn, rfl⟩ : ∃ zn : Nat, z = -(zn : Int) - 1 := ⟨(-(z + 1)).toNat, by omega⟩
        exact edges_neg ta na la pa tc nc lc pc n st w tn nn ln _ (tn + nn) ks.length (askN es) (zn % ks.length) zn rfl (by omega) hS ks es (GG tn n L R (ks.getD (zn % ks.length) [])) rfl (key zn) rfl (hA.elen (key zn)) (fun s hs hk => hA.edge (key zn) hs hk) (hGl _ (key zn)) hBU hSY (fun X a' c' s hX hs hI hn => goto_state ta na la pa tc nc lc pc ts ns lv n L R ra rc V st w tn nn ln hlen hG hc hA (key zn) X hX a' c' s hs hI hn)
  · exact edges_bad ta na la pa tc nc lc pc n st w tn nn ln z 1 false (.inl ⟨rfl, rfl⟩) (fun X hX => buildBad ta na la pa tc nc lc pc ts ns lv n L R ra rc V st X tn nn ln hlen (hG.kept hX) hc) (hRC false ⟨(fun h => by cases h), fun h => absurd h hc⟩)
end

end Go.Proofs.Ytdijjlhodlghbaa.J
