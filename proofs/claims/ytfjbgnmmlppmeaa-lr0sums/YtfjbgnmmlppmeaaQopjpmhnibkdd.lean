import Derived.Test.YtfjbgnmmlppmeaaRows
import Derived.Test.YtfjbgnmmlppmeaaQalokglbohekc
import Derived.Test.YtfjbgnmmlppmeaaQdpeiipffgnaf
import Derived.Test.YtfjbgnmmlppmeaaQmajfkchlmgcj
import Derived.Test.YtfjbgnmmlppmeaaQmcgnoklfaege

/-
  lr0: what the laws' theorems share.
-/
namespace Go.Proofs.Ytfjbgnmmlppmeaa.J
open Go.ChangeShapes Go.WideShapes Go.ChangeAt Go.RowKit Go.Deep

theorem own : ownKnob Try.prog.godebug = none := by kernel_rfl
theorem laidOut : laidOutB Try.prog = true := by kernel_rfl
theorem bytesItem : Try.prog.bytesOf 49 = 16 := by kernel_rfl

section
variable {H : Type} {enc : TypeId × Value → H} {W : World} {fuel : Nat} {cs : List Value} {x : DataW H × List MemPlace}

set_option maxRecDepth 100000 in
theorem open_its_in (h : DataW.trod enc Try.prog W 0 (fun _ => true) true fuel 40 cs = some x) (hw : ∀ n ∈ x.1.weights Try.prog 40, n ≤ reachBytes) :
    ∃ (a : Option Addr) (l : List It) (c : Nat), cs = [.slice a l.length c] ∧ ItsAt W a l ∧ l.length ≤ 8796093022208 ∧ l.length ≤ c ∧ (a = none → l.length = 0 ∧ c = 0) ∧ ∀ t ∈ l, I64 t := by
  rcases open_slice Try.underlying40 h with ⟨hcs, _⟩ | ⟨ad, len, cap, m, n, D, Pl, hcs, _, hl, hm, hmm, hx, heach⟩
  · exact ⟨none, [], 0, hcs, .inl rfl, by decide, Nat.le_refl _, fun _ => ⟨rfl, rfl⟩, by simp⟩
  · simp only [if_true] at hmm
    subst hx
    rw [cellsItem] at heach
    have hlen : len ≤ 8796093022208 := by
      have := hw (((List.range len).map D).length * 16 + ((List.range (m - len)).map fun j => D (len + j)).length * 16) (by simp [DataW.weights, Try.underlying40, bytesItem, Nat.add_mul])
      simp only [List.length_map, List.length_range, reachBytes] at this
      omega
    have each : ∀ i, i < len → ∃ t : It, ∃ b off, ad = ⟨b, off, none⟩ ∧ W.cell? ⟨b, off + i * 2, none⟩ = some (.int .i64 t.1) ∧ W.cell? ⟨b, off + i * 2 + 1, none⟩ = some (.int .i64 t.2) ∧ I64 t := by
      intro i hi
      obtain ⟨cs', h1, h2⟩ := heach i (by omega)
      obtain ⟨_, hcl, hcell⟩ := World.cells?_some h1
      obtain ⟨xs, k, hk, hxy, _, hxl, hfs⟩ := DataW.trod_struct Try.underlying49 h2
      match xs, hxl, cs', hcl with
      | [y0, y1], _, [v0, v1], _ =>
        have g0 := hfs 0 _ rfl
        have g1 := hfs 1 _ rfl
        simp [cellsInt] at g0 g1
        obtain ⟨s0, e0, _, w0⟩ := DataW.trod_int Try.underlying3 g0
        obtain ⟨z1, e1, _, w1⟩ := DataW.trod_int Try.underlying3 g1
        simp only [List.cons.injEq, and_true] at e0 e1
        subst e0 e1
        have c0 := hcell 0 (by omega)
        have c1 := hcell 1 (by omega)
        rw [Deep.add_add] at c0 c1
        obtain ⟨b, off, spot⟩ := ad
        have hs : spot = none := by
          obtain ⟨cs0, h10, _⟩ := heach 0 (by omega)
          obtain ⟨_, hcl0, hcell0⟩ := World.cells?_some h10
          have q0 := hcell0 0 (by omega)
          rw [List.getElem?_eq_getElem (by omega)] at q0
          simpa [Addr.add] using World.cell?_spot q0
        subst hs
        rw [add_plain] at c0 c1
        exact ⟨(s0, z1), b, off, rfl, by simpa using c0, by simpa [Nat.add_assoc] using c1, w0, w1⟩
    obtain ⟨S, hS⟩ := choose_lt (α := It) each
    have hg : ∀ i, i < len → ((List.range len).map S).getD i (0, 0) = S i := fun i hi => by simp [List.getD, hi]
    refine ⟨some ad, (List.range len).map S, cap, by simpa using hcs, ?_, by simpa using hlen, by simpa using hl, fun h => (by cases h), fun t ht => ?_⟩
    · by_cases h0 : len = 0
      · subst h0; exact .inl (by simp)
      · obtain ⟨b, off, rfl, _⟩ := hS 0 (by omega)
        refine .inr ⟨b, off, rfl, fun i hi => ?_⟩
        have hi' : i < len := by simpa using hi
        obtain ⟨b', off', e, r1, r2, _⟩ := hS i hi'
        simp only [Addr.mk.injEq, and_true] at e
        obtain ⟨rfl, rfl⟩ := e
        rw [hg i hi']
        exact ⟨r1, r2⟩
    · obtain ⟨i, hi, rfl⟩ := List.mem_map.1 ht
      obtain ⟨_, _, _, _, _, hwf⟩ := hS i (by simpa using hi)
      exact hwf

end

set_option maxRecDepth 100000 in
theorem open_int {H : Type} {enc : TypeId × Value → H} {W : World} {base : Nat} {v : Value} {d : DataW H} {p : List MemPlace} (hv : Value.okWide Try.prog W .any base 3 v) (h : DataW.Trod enc Try.prog W 0 (fun _ => true) true 3 v d p) : ∃ z, v = .int .i64 z ∧ (Lit.int .i64 z).wf = true := by
  obtain ⟨z, rfl⟩ := okWide_int Try.underlying3 hv
  obtain ⟨fuel, hf⟩ := h
  have hf' : DataW.trod enc Try.prog W 0 (fun _ => true) true fuel 3 [.int .i64 z] = some (d, p) := hf
  obtain ⟨z', e, h2⟩ := DataW.trod_int Try.underlying3 hf'
  simp only [List.cons.injEq, Value.int.injEq, and_true, true_and] at e
  subst e
  exact ⟨z, rfl, h2.2⟩

set_option maxRecDepth 100000 in
theorem open_its {H : Type} {enc : TypeId × Value → H} {W : World} {base : Nat} {v : Value} {d : DataW H} {p : List MemPlace} (hv : Value.okWide Try.prog W .any base 40 v) (h : DataW.Trod enc Try.prog W 0 (fun _ => true) true 40 v d p) (hw : ∀ n ∈ d.weights Try.prog 40, n ≤ reachBytes) : ∃ a l c, v = .slice a (List.length l) c ∧ ItsAt W a l ∧ l.length ≤ 8796093022208 ∧ l.length ≤ c ∧ (a = none → l.length = 0 ∧ c = 0) ∧ ∀ t ∈ l, I64 t := by
  obtain ⟨a, len, cap, rfl⟩ := okWide_slice Try.underlying40 hv
  obtain ⟨fuel, hf⟩ := h
  have hf' : DataW.trod enc Try.prog W 0 (fun _ => true) true fuel 40 [.slice a len cap] = some (d, p) := hf
  obtain ⟨a', l, c, e, hI, hl⟩ := open_its_in hf' hw
  simp only [List.cons.injEq, Value.slice.injEq, and_true] at e
  obtain ⟨rfl, rfl, rfl⟩ := e
  exact ⟨a, l, cap, rfl, hI, hl⟩

end Go.Proofs.Ytfjbgnmmlppmeaa.J

/-
  lr0: the law Lr0Again.
-/
namespace Go.Proofs.Ytfjbgnmmlppmeaa.J
open Go.RowKit Go.Maps Go.Shelf

attribute [local go_sem] Oper.semAt_some

theorem own_nil {X : World} {B e s n c : Nat} {a : Option Addr} {xs : List Value} (h : X.ownsRow B e s (.slice a n c) n xs) : a = none → n = 0 ∧ c = 0 := fun e => by
  rcases h.2 with ⟨h1, h2⟩ | ⟨g, cap, cur, h1, _⟩
  · simp only [Value.slice.injEq] at h1
    exact ⟨h2, h1.2.2⟩
  · simp only [Value.slice.injEq] at h1
    rw [e] at h1
    cases h1.1
section
variable (ta na la pa : Option Addr) (tc nc lc pc : Nat) (n : Nat) (L : Nat → Int) (R : Nat → List Int) (st : Int) (w : World) (tn nn ln : Nat) (a : Option Addr) (cap : Nat) (I : List It) (s : Int)

end

end Go.Proofs.Ytfjbgnmmlppmeaa.J

/-
  lr0: the law Lr0Again, for every input.
-/
namespace Go.Proofs.Ytfjbgnmmlppmeaa.J
open Go.RowKit Go.Maps Go.Shelf

theorem not_symB {S : Nat} {s : Int} (h : ¬ (0 ≤ s ∧ s < (S : Int))) : symB S s = false := by
  unfold symB
  rw [Bool.and_eq_false_iff, decide_eq_false_iff_not, decide_eq_false_iff_not]
  omega
theorem ItsErr.same {l m : List It} {ec : Int} {X : World} {e : Ending} {y : World} (h : ItsErr l ec X e y) (hm : l = m) : ItsErr m ec X e y := hm ▸ h

section
variable (ta na la pa : Option Addr) (tc nc lc pc : Nat) (ts : List (ByteArray × Int)) (ns : List ByteArray) (lv : List Int) (n : Nat) (L : Nat → Int) (R : Nat → List Int) (ra : Nat → Option Addr) (rc : Nat → Nat) (V : Nat → Int) (st : Int) (w : World) (tn nn ln : Nat) (hlen : ts.length = tn ∧ ns.length = nn ∧ lv.length = ln) (hG : GAt w ta na la pa tc nc lc pc ts ns lv n L R ra rc V) (a : Option Addr) (cap : Nat) (I : List It) (hI : ItsAt w a I) (s : Int)
include hlen hG hI
end

end Go.Proofs.Ytfjbgnmmlppmeaa.J

/-
  lr0: the law Lr0Sums, its walks.
-/
namespace Go.Proofs.Ytfjbgnmmlppmeaa.J
open Go.RowKit Go.Maps Go.Shelf

attribute [local go_sem] Oper.semAt_some

set_option maxRecDepth 100000 in
set_option maxHeartbeats 4000000 in
theorem sums_bad1P (ta na la pa : Option Addr) (tc nc lc pc : Nat) (n : Nat) (st : Int) (w : World) (tn nn ln : Nat) (s : Int) (x : Addr) (cap k N : Nat) (hk : k = N / 2) (hNc : N ≤ cap) (hc0 : 0 < cap) (hNb : N ≤ 8796093022208) (A B C xA xB xC : List It) (f1 i1 l1 : Int)
    (hC1 : ∀ X, w.grownBy X none → Calls Try.prog 17 #[.agg #[.slice ta tn tc, .slice na nn nc, .slice la ln lc, .int .i64 st, .slice pa n pc], .slice (some x) k cap] X fun e y => ItsErr A 1 X e y)
    (hC2 : ∀ X, w.grownBy X none → Calls Try.prog 17 #[.agg #[.slice ta tn tc, .slice na nn nc, .slice la ln lc, .int .i64 st, .slice pa n pc], .slice (some (x.add (k * 2))) (N - k) (cap - k)] X fun e y => ItsErr B f1 X e y)
    (hC3 : ∀ X, w.grownBy X none → Calls Try.prog 17 #[.agg #[.slice ta tn tc, .slice na nn nc, .slice la ln lc, .int .i64 st, .slice pa n pc], .slice (some x) N cap] X fun e y => ItsErr C 1 X e y)
    (hG1 : ∀ X, w.grownBy X none → Calls Try.prog 19 #[.agg #[.slice ta tn tc, .slice na nn nc, .slice la ln lc, .int .i64 st, .slice pa n pc], .int .i64 s, .slice (some x) k cap] X fun e y => ItsErr xA i1 X e y)
    (hG2 : ∀ X, w.grownBy X none → Calls Try.prog 19 #[.agg #[.slice ta tn tc, .slice na nn nc, .slice la ln lc, .int .i64 st, .slice pa n pc], .int .i64 s, .slice (some (x.add (k * 2))) (N - k) (cap - k)] X fun e y => ItsErr xB l1 X e y)
    (hG3 : ∀ X, w.grownBy X none → Calls Try.prog 19 #[.agg #[.slice ta tn tc, .slice na nn nc, .slice la ln lc, .int .i64 st, .slice pa n pc], .int .i64 s, .slice (some x) N cap] X fun e y => ItsErr xC 1 X e y) :
    Calls Try.prog 8 #[.agg #[.slice ta tn tc, .slice na nn nc, .slice la ln lc, .int .i64 st, .slice pa n pc], .int .i64 s, .slice (some x) N cap] w fun e w' => e = .returned (.bool true) ∧ w.grownBy w' none := by
  have HC1 := show Hid _ from hC1
  have HC2 := show Hid _ from hC2
  have HC3 := show Hid _ from hC3
  have HG1 := show Hid _ from hG1
  have HG2 := show Hid _ from hG2
  have HG3 := show Hid _ from hG3
  have HX0 : Hid (PhAt w (w.alloc (.cells #[.slice ta tn tc, .slice na nn nc, .slice la ln lc, .int .i64 st, .slice pa n pc] 27)) w.heap.size #[.slice ta tn tc, .slice na nn nc, .slice la ln lc, .int .i64 st, .slice pa n pc]) := ⟨World.grownBy_alloc _ _ none, heap_alloc_last w _⟩
  have hq : (N : Int).tdiv 2 = (k : Int) := by rw [hk]; rfl
  have hkN : k ≤ N := by omega
  have hkc : k < cap := by omega
  have z1 : (0 : Int) ≤ (k : Int) := by omega
  have z2 : (k : Int) ≤ (N : Int) := by omega
  have z3 : (k : Int) ≤ (cap : Int) := by omega
  have z4 : (N : Int) ≤ (cap : Int) := by omega
  have z5 : ¬ cap = k := by omega
  have z6 : ¬ k = cap := by omega
  clear hk
  clear hC1 hC2 hC3 hG1 hG2 hG3
  go_enter Try.func8, Try.ntmps8
  go_wp2_with fail
  refine Calls.mono (awake_any _) ?_
  rintro e w1 ⟨rfl, hg1⟩
  have HX1 : Hid (PhAt w w1 w.heap.size #[.slice ta tn tc, .slice na nn nc, .slice la ln lc, .int .i64 st, .slice pa n pc]) := HX0.out.kept hg1
  clear hg1 HX0
  have HUP1 : Hid (w1.grownBy w1.drew none) := grown_drewN _ 1
  have HKS1 : Hid (∀ Y, w1.grownBy Y none → (Y.cell? ⟨w.heap.size, 0, none⟩ = some (.slice ta tn tc) ∧ Y.cell? ⟨w.heap.size, 1, none⟩ = some (.slice na nn nc) ∧ Y.cell? ⟨w.heap.size, 2, none⟩ = some (.slice la ln lc) ∧ Y.cell? ⟨w.heap.size, 3, none⟩ = some (.int .i64 st) ∧ Y.cell? ⟨w.heap.size, 4, none⟩ = some (.slice pa n pc))) := fun Y hY => (HX1.out.kept hY).cells
  go_wp2_with fail
  go_region_held3 (fun Y => (Y.cell? ⟨w.heap.size, 0, none⟩ = some (.slice ta tn tc) ∧ Y.cell? ⟨w.heap.size, 1, none⟩ = some (.slice na nn nc) ∧ Y.cell? ⟨w.heap.size, 2, none⟩ = some (.slice la ln lc) ∧ Y.cell? ⟨w.heap.size, 3, none⟩ = some (.int .i64 st) ∧ Y.cell? ⟨w.heap.size, 4, none⟩ = some (.slice pa n pc))) (first | exact HKS1.out _ HUP1.out | exact HKS1.out _ HGa2.out | go_keep)
    ((first
      | (go_at_call 17; refine Calls.mono (HC1.out _ (grown_trans HX1.out.grown HUP1.out)) ?_; rintro e w2 ⟨a2, c2, rfl, ho2, hg2⟩; have HGa2 : Hid (w1.grownBy w2 none) := grown_trans HUP1.out hg2; have HO2 : Hid (w2.ownsRow w.heap.size 49 2 (.slice a2 A.length c2) A.length (itsV A)) := owns_lowJ ho2 (grown_trans HX1.out.grown HUP1.out).size; clear hg2 ho2)
      | fail))
  have HX2 : Hid (PhAt w w2 w.heap.size #[.slice ta tn tc, .slice na nn nc, .slice la ln lc, .int .i64 st, .slice pa n pc]) := HX1.out.kept HGa2.out
  obtain ⟨len2, hl2⟩ : ∃ m, m = A.length := ⟨_, rfl⟩
  have HL2 : Hid (len2 = A.length) := hl2
  rw [← hl2] at HO2
  rw [← hl2]
  clear hl2
  have HUP2 : Hid (w2.grownBy w2.drew none) := grown_drewN _ 1
  have HKS2 : Hid (∀ Y, w2.grownBy Y none → (Y.cell? ⟨w.heap.size, 0, none⟩ = some (.slice ta tn tc) ∧ Y.cell? ⟨w.heap.size, 1, none⟩ = some (.slice na nn nc) ∧ Y.cell? ⟨w.heap.size, 2, none⟩ = some (.slice la ln lc) ∧ Y.cell? ⟨w.heap.size, 3, none⟩ = some (.int .i64 st) ∧ Y.cell? ⟨w.heap.size, 4, none⟩ = some (.slice pa n pc))) := fun Y hY => (HX2.out.kept hY).cells
  go_wp2_with fail
  go_region_held3 (fun Y => (Y.cell? ⟨w.heap.size, 0, none⟩ = some (.slice ta tn tc) ∧ Y.cell? ⟨w.heap.size, 1, none⟩ = some (.slice na nn nc) ∧ Y.cell? ⟨w.heap.size, 2, none⟩ = some (.slice la ln lc) ∧ Y.cell? ⟨w.heap.size, 3, none⟩ = some (.int .i64 st) ∧ Y.cell? ⟨w.heap.size, 4, none⟩ = some (.slice pa n pc))) (first | exact HKS2.out _ HUP2.out | exact HKS2.out _ HGa3.out | go_keep)
    ((first
      | (go_at_call 17; refine Calls.mono (HC2.out _ (grown_trans HX2.out.grown HUP2.out)) ?_; rintro e w3 ⟨a3, c3, rfl, ho3, hg3⟩; have HGa3 : Hid (w2.grownBy w3 none) := grown_trans HUP2.out hg3; have HO3 : Hid (w3.ownsRow w.heap.size 49 2 (.slice a3 B.length c3) B.length (itsV B)) := owns_lowJ ho3 (grown_trans HX2.out.grown HUP2.out).size; clear hg3 ho3)
      | fail))
  have HX3 : Hid (PhAt w w3 w.heap.size #[.slice ta tn tc, .slice na nn nc, .slice la ln lc, .int .i64 st, .slice pa n pc]) := HX2.out.kept HGa3.out
  obtain ⟨len3, hl3⟩ : ∃ m, m = B.length := ⟨_, rfl⟩
  have HL3 : Hid (len3 = B.length) := hl3
  rw [← hl3] at HO3
  rw [← hl3]
  clear hl3
  obtain ⟨k0, k1, k2, k3, k4⟩ := HX3.out.cells
  go_wp2_with fail
  refine Calls.mono (HC3.out _ HX3.out.grown) ?_
  rintro e w4 ⟨a4, c4, rfl, ho4, hg4⟩
  have HGa4 : Hid (w3.grownBy w4 none) := hg4
  have HO4 : Hid (w4.ownsRow w.heap.size 49 2 (.slice a4 C.length c4) C.length (itsV C)) := owns_lowJ ho4 HX3.out.grown.size
  have HX4 : Hid (PhAt w w4 w.heap.size #[.slice ta tn tc, .slice na nn nc, .slice la ln lc, .int .i64 st, .slice pa n pc]) := HX3.out.kept hg4
  clear hg4 ho4 k0 k1 k2 k3 k4
  obtain ⟨len4, hl4⟩ : ∃ m, m = C.length := ⟨_, rfl⟩
  have HL4 : Hid (len4 = C.length) := hl4
  rw [← hl4] at HO4
  rw [← hl4]
  clear hl4
  have HUP4 : Hid (w4.grownBy w4.drew none) := grown_drewN _ 1
  have HKS4 : Hid (∀ Y, w4.grownBy Y none → (Y.cell? ⟨w.heap.size, 0, none⟩ = some (.slice ta tn tc) ∧ Y.cell? ⟨w.heap.size, 1, none⟩ = some (.slice na nn nc) ∧ Y.cell? ⟨w.heap.size, 2, none⟩ = some (.slice la ln lc) ∧ Y.cell? ⟨w.heap.size, 3, none⟩ = some (.int .i64 st) ∧ Y.cell? ⟨w.heap.size, 4, none⟩ = some (.slice pa n pc))) := fun Y hY => (HX4.out.kept hY).cells
  go_wp2_with fail
  go_region_held3 (fun Y => (Y.cell? ⟨w.heap.size, 0, none⟩ = some (.slice ta tn tc) ∧ Y.cell? ⟨w.heap.size, 1, none⟩ = some (.slice na nn nc) ∧ Y.cell? ⟨w.heap.size, 2, none⟩ = some (.slice la ln lc) ∧ Y.cell? ⟨w.heap.size, 3, none⟩ = some (.int .i64 st) ∧ Y.cell? ⟨w.heap.size, 4, none⟩ = some (.slice pa n pc))) (first | exact HKS4.out _ HUP4.out | exact HKS4.out _ HGa5.out | go_keep)
    ((first
      | (go_at_call 19; refine Calls.mono (HG1.out _ (grown_trans HX4.out.grown HUP4.out)) ?_; rintro e w5 ⟨a5, c5, rfl, ho5, hg5⟩; have HGa5 : Hid (w4.grownBy w5 none) := grown_trans HUP4.out hg5; have HO5 : Hid (w5.ownsRow w.heap.size 49 2 (.slice a5 xA.length c5) xA.length (itsV xA)) := owns_lowJ ho5 (grown_trans HX4.out.grown HUP4.out).size; clear hg5 ho5)
      | fail))
  have HX5 : Hid (PhAt w w5 w.heap.size #[.slice ta tn tc, .slice na nn nc, .slice la ln lc, .int .i64 st, .slice pa n pc]) := HX4.out.kept HGa5.out
  obtain ⟨len5, hl5⟩ : ∃ m, m = xA.length := ⟨_, rfl⟩
  have HL5 : Hid (len5 = xA.length) := hl5
  rw [← hl5] at HO5
  rw [← hl5]
  clear hl5
  have HUP5 : Hid (w5.grownBy w5.drew none) := grown_drewN _ 1
  have HKS5 : Hid (∀ Y, w5.grownBy Y none → (Y.cell? ⟨w.heap.size, 0, none⟩ = some (.slice ta tn tc) ∧ Y.cell? ⟨w.heap.size, 1, none⟩ = some (.slice na nn nc) ∧ Y.cell? ⟨w.heap.size, 2, none⟩ = some (.slice la ln lc) ∧ Y.cell? ⟨w.heap.size, 3, none⟩ = some (.int .i64 st) ∧ Y.cell? ⟨w.heap.size, 4, none⟩ = some (.slice pa n pc))) := fun Y hY => (HX5.out.kept hY).cells
  go_wp2_with fail
  go_region_held3 (fun Y => (Y.cell? ⟨w.heap.size, 0, none⟩ = some (.slice ta tn tc) ∧ Y.cell? ⟨w.heap.size, 1, none⟩ = some (.slice na nn nc) ∧ Y.cell? ⟨w.heap.size, 2, none⟩ = some (.slice la ln lc) ∧ Y.cell? ⟨w.heap.size, 3, none⟩ = some (.int .i64 st) ∧ Y.cell? ⟨w.heap.size, 4, none⟩ = some (.slice pa n pc))) (first | exact HKS5.out _ HUP5.out | exact HKS5.out _ HGa6.out | go_keep)
    ((first
      | (go_at_call 19; refine Calls.mono (HG2.out _ (grown_trans HX5.out.grown HUP5.out)) ?_; rintro e w6 ⟨a6, c6, rfl, ho6, hg6⟩; have HGa6 : Hid (w5.grownBy w6 none) := grown_trans HUP5.out hg6; have HO6 : Hid (w6.ownsRow w.heap.size 49 2 (.slice a6 xB.length c6) xB.length (itsV xB)) := owns_lowJ ho6 (grown_trans HX5.out.grown HUP5.out).size; clear hg6 ho6)
      | fail))
  have HX6 : Hid (PhAt w w6 w.heap.size #[.slice ta tn tc, .slice na nn nc, .slice la ln lc, .int .i64 st, .slice pa n pc]) := HX5.out.kept HGa6.out
  obtain ⟨len6, hl6⟩ : ∃ m, m = xB.length := ⟨_, rfl⟩
  have HL6 : Hid (len6 = xB.length) := hl6
  rw [← hl6] at HO6
  rw [← hl6]
  clear hl6
  obtain ⟨k0, k1, k2, k3, k4⟩ := HX6.out.cells
  go_wp2_with fail
  refine Calls.mono (HG3.out _ HX6.out.grown) ?_
  rintro e w7 ⟨a7, c7, rfl, ho7, hg7⟩
  have HGa7 : Hid (w6.grownBy w7 none) := hg7
  have HO7 : Hid (w7.ownsRow w.heap.size 49 2 (.slice a7 xC.length c7) xC.length (itsV xC)) := owns_lowJ ho7 HX6.out.grown.size
  have HX7 : Hid (PhAt w w7 w.heap.size #[.slice ta tn tc, .slice na nn nc, .slice la ln lc, .int .i64 st, .slice pa n pc]) := HX6.out.kept hg7
  clear hg7 ho7 k0 k1 k2 k3 k4
  obtain ⟨len7, hl7⟩ : ∃ m, m = xC.length := ⟨_, rfl⟩
  have HL7 : Hid (len7 = xC.length) := hl7
  rw [← hl7] at HO7
  rw [← hl7]
  clear hl7
  go_wp2_with fail
  go_ret
  exact ⟨rfl, HX7.out.grown⟩

set_option maxRecDepth 100000 in
set_option maxHeartbeats 4000000 in
theorem sums_bad2P (ta na la pa : Option Addr) (tc nc lc pc : Nat) (n : Nat) (st : Int) (w : World) (tn nn ln : Nat) (s : Int) (x : Addr) (cap k N : Nat) (hk : k = N / 2) (hNc : N ≤ cap) (hc0 : 0 < cap) (hNb : N ≤ 8796093022208) (A B C xA xB xC : List It) (i1 l1 : Int)
    (hC1 : ∀ X, w.grownBy X none → Calls Try.prog 17 #[.agg #[.slice ta tn tc, .slice na nn nc, .slice la ln lc, .int .i64 st, .slice pa n pc], .slice (some x) k cap] X fun e y => ItsErr A 0 X e y)
    (hC2 : ∀ X, w.grownBy X none → Calls Try.prog 17 #[.agg #[.slice ta tn tc, .slice na nn nc, .slice la ln lc, .int .i64 st, .slice pa n pc], .slice (some (x.add (k * 2))) (N - k) (cap - k)] X fun e y => ItsErr B 1 X e y)
    (hC3 : ∀ X, w.grownBy X none → Calls Try.prog 17 #[.agg #[.slice ta tn tc, .slice na nn nc, .slice la ln lc, .int .i64 st, .slice pa n pc], .slice (some x) N cap] X fun e y => ItsErr C 1 X e y)
    (hG1 : ∀ X, w.grownBy X none → Calls Try.prog 19 #[.agg #[.slice ta tn tc, .slice na nn nc, .slice la ln lc, .int .i64 st, .slice pa n pc], .int .i64 s, .slice (some x) k cap] X fun e y => ItsErr xA i1 X e y)
    (hG2 : ∀ X, w.grownBy X none → Calls Try.prog 19 #[.agg #[.slice ta tn tc, .slice na nn nc, .slice la ln lc, .int .i64 st, .slice pa n pc], .int .i64 s, .slice (some (x.add (k * 2))) (N - k) (cap - k)] X fun e y => ItsErr xB l1 X e y)
    (hG3 : ∀ X, w.grownBy X none → Calls Try.prog 19 #[.agg #[.slice ta tn tc, .slice na nn nc, .slice la ln lc, .int .i64 st, .slice pa n pc], .int .i64 s, .slice (some x) N cap] X fun e y => ItsErr xC 1 X e y) :
    Calls Try.prog 8 #[.agg #[.slice ta tn tc, .slice na nn nc, .slice la ln lc, .int .i64 st, .slice pa n pc], .int .i64 s, .slice (some x) N cap] w fun e w' => e = .returned (.bool true) ∧ w.grownBy w' none := by
  have HC1 := show Hid _ from hC1
  have HC2 := show Hid _ from hC2
  have HC3 := show Hid _ from hC3
  have HG1 := show Hid _ from hG1
  have HG2 := show Hid _ from hG2
  have HG3 := show Hid _ from hG3
  have HX0 : Hid (PhAt w (w.alloc (.cells #[.slice ta tn tc, .slice na nn nc, .slice la ln lc, .int .i64 st, .slice pa n pc] 27)) w.heap.size #[.slice ta tn tc, .slice na nn nc, .slice la ln lc, .int .i64 st, .slice pa n pc]) := ⟨World.grownBy_alloc _ _ none, heap_alloc_last w _⟩
  have hq : (N : Int).tdiv 2 = (k : Int) := by rw [hk]; rfl
  have hkN : k ≤ N := by omega
  have hkc : k < cap := by omega
  have z1 : (0 : Int) ≤ (k : Int) := by omega
  have z2 : (k : Int) ≤ (N : Int) := by omega
  have z3 : (k : Int) ≤ (cap : Int) := by omega
  have z4 : (N : Int) ≤ (cap : Int) := by omega
  have z5 : ¬ cap = k := by omega
  have z6 : ¬ k = cap := by omega
  clear hk
  clear hC1 hC2 hC3 hG1 hG2 hG3
  go_enter Try.func8, Try.ntmps8
  go_wp2_with fail
  refine Calls.mono (awake_any _) ?_
  rintro e w1 ⟨rfl, hg1⟩
  have HX1 : Hid (PhAt w w1 w.heap.size #[.slice ta tn tc, .slice na nn nc, .slice la ln lc, .int .i64 st, .slice pa n pc]) := HX0.out.kept hg1
  clear hg1 HX0
  have HUP1 : Hid (w1.grownBy w1.drew none) := grown_drewN _ 1
  have HKS1 : Hid (∀ Y, w1.grownBy Y none → (Y.cell? ⟨w.heap.size, 0, none⟩ = some (.slice ta tn tc) ∧ Y.cell? ⟨w.heap.size, 1, none⟩ = some (.slice na nn nc) ∧ Y.cell? ⟨w.heap.size, 2, none⟩ = some (.slice la ln lc) ∧ Y.cell? ⟨w.heap.size, 3, none⟩ = some (.int .i64 st) ∧ Y.cell? ⟨w.heap.size, 4, none⟩ = some (.slice pa n pc))) := fun Y hY => (HX1.out.kept hY).cells
  go_wp2_with fail
  go_region_held3 (fun Y => (Y.cell? ⟨w.heap.size, 0, none⟩ = some (.slice ta tn tc) ∧ Y.cell? ⟨w.heap.size, 1, none⟩ = some (.slice na nn nc) ∧ Y.cell? ⟨w.heap.size, 2, none⟩ = some (.slice la ln lc) ∧ Y.cell? ⟨w.heap.size, 3, none⟩ = some (.int .i64 st) ∧ Y.cell? ⟨w.heap.size, 4, none⟩ = some (.slice pa n pc))) (first | exact HKS1.out _ HUP1.out | exact HKS1.out _ HGa2.out | go_keep)
    ((first
      | (go_at_call 17; refine Calls.mono (HC1.out _ (grown_trans HX1.out.grown HUP1.out)) ?_; rintro e w2 ⟨a2, c2, rfl, ho2, hg2⟩; have HGa2 : Hid (w1.grownBy w2 none) := grown_trans HUP1.out hg2; have HO2 : Hid (w2.ownsRow w.heap.size 49 2 (.slice a2 A.length c2) A.length (itsV A)) := owns_lowJ ho2 (grown_trans HX1.out.grown HUP1.out).size; clear hg2 ho2)
      | fail))
  have HX2 : Hid (PhAt w w2 w.heap.size #[.slice ta tn tc, .slice na nn nc, .slice la ln lc, .int .i64 st, .slice pa n pc]) := HX1.out.kept HGa2.out
  obtain ⟨len2, hl2⟩ : ∃ m, m = A.length := ⟨_, rfl⟩
  have HL2 : Hid (len2 = A.length) := hl2
  rw [← hl2] at HO2
  rw [← hl2]
  clear hl2
  have HUP2 : Hid (w2.grownBy w2.drew none) := grown_drewN _ 1
  have HKS2 : Hid (∀ Y, w2.grownBy Y none → (Y.cell? ⟨w.heap.size, 0, none⟩ = some (.slice ta tn tc) ∧ Y.cell? ⟨w.heap.size, 1, none⟩ = some (.slice na nn nc) ∧ Y.cell? ⟨w.heap.size, 2, none⟩ = some (.slice la ln lc) ∧ Y.cell? ⟨w.heap.size, 3, none⟩ = some (.int .i64 st) ∧ Y.cell? ⟨w.heap.size, 4, none⟩ = some (.slice pa n pc))) := fun Y hY => (HX2.out.kept hY).cells
  go_wp2_with fail
  go_region_held3 (fun Y => (Y.cell? ⟨w.heap.size, 0, none⟩ = some (.slice ta tn tc) ∧ Y.cell? ⟨w.heap.size, 1, none⟩ = some (.slice na nn nc) ∧ Y.cell? ⟨w.heap.size, 2, none⟩ = some (.slice la ln lc) ∧ Y.cell? ⟨w.heap.size, 3, none⟩ = some (.int .i64 st) ∧ Y.cell? ⟨w.heap.size, 4, none⟩ = some (.slice pa n pc))) (first | exact HKS2.out _ HUP2.out | exact HKS2.out _ HGa3.out | go_keep)
    ((first
      | (go_at_call 17; refine Calls.mono (HC2.out _ (grown_trans HX2.out.grown HUP2.out)) ?_; rintro e w3 ⟨a3, c3, rfl, ho3, hg3⟩; have HGa3 : Hid (w2.grownBy w3 none) := grown_trans HUP2.out hg3; have HO3 : Hid (w3.ownsRow w.heap.size 49 2 (.slice a3 B.length c3) B.length (itsV B)) := owns_lowJ ho3 (grown_trans HX2.out.grown HUP2.out).size; clear hg3 ho3)
      | fail))
  have HX3 : Hid (PhAt w w3 w.heap.size #[.slice ta tn tc, .slice na nn nc, .slice la ln lc, .int .i64 st, .slice pa n pc]) := HX2.out.kept HGa3.out
  obtain ⟨len3, hl3⟩ : ∃ m, m = B.length := ⟨_, rfl⟩
  have HL3 : Hid (len3 = B.length) := hl3
  rw [← hl3] at HO3
  rw [← hl3]
  clear hl3
  obtain ⟨k0, k1, k2, k3, k4⟩ := HX3.out.cells
  go_wp2_with fail
  refine Calls.mono (HC3.out _ HX3.out.grown) ?_
  rintro e w4 ⟨a4, c4, rfl, ho4, hg4⟩
  have HGa4 : Hid (w3.grownBy w4 none) := hg4
  have HO4 : Hid (w4.ownsRow w.heap.size 49 2 (.slice a4 C.length c4) C.length (itsV C)) := owns_lowJ ho4 HX3.out.grown.size
  have HX4 : Hid (PhAt w w4 w.heap.size #[.slice ta tn tc, .slice na nn nc, .slice la ln lc, .int .i64 st, .slice pa n pc]) := HX3.out.kept hg4
  clear hg4 ho4 k0 k1 k2 k3 k4
  obtain ⟨len4, hl4⟩ : ∃ m, m = C.length := ⟨_, rfl⟩
  have HL4 : Hid (len4 = C.length) := hl4
  rw [← hl4] at HO4
  rw [← hl4]
  clear hl4
  have HUP4 : Hid (w4.grownBy w4.drew none) := grown_drewN _ 1
  have HKS4 : Hid (∀ Y, w4.grownBy Y none → (Y.cell? ⟨w.heap.size, 0, none⟩ = some (.slice ta tn tc) ∧ Y.cell? ⟨w.heap.size, 1, none⟩ = some (.slice na nn nc) ∧ Y.cell? ⟨w.heap.size, 2, none⟩ = some (.slice la ln lc) ∧ Y.cell? ⟨w.heap.size, 3, none⟩ = some (.int .i64 st) ∧ Y.cell? ⟨w.heap.size, 4, none⟩ = some (.slice pa n pc))) := fun Y hY => (HX4.out.kept hY).cells
  go_wp2_with fail
  go_region_held3 (fun Y => (Y.cell? ⟨w.heap.size, 0, none⟩ = some (.slice ta tn tc) ∧ Y.cell? ⟨w.heap.size, 1, none⟩ = some (.slice na nn nc) ∧ Y.cell? ⟨w.heap.size, 2, none⟩ = some (.slice la ln lc) ∧ Y.cell? ⟨w.heap.size, 3, none⟩ = some (.int .i64 st) ∧ Y.cell? ⟨w.heap.size, 4, none⟩ = some (.slice pa n pc))) (first | exact HKS4.out _ HUP4.out | exact HKS4.out _ HGa5.out | go_keep)
    ((first
      | (go_at_call 19; refine Calls.mono (HG1.out _ (grown_trans HX4.out.grown HUP4.out)) ?_; rintro e w5 ⟨a5, c5, rfl, ho5, hg5⟩; have HGa5 : Hid (w4.grownBy w5 none) := grown_trans HUP4.out hg5; have HO5 : Hid (w5.ownsRow w.heap.size 49 2 (.slice a5 xA.length c5) xA.length (itsV xA)) := owns_lowJ ho5 (grown_trans HX4.out.grown HUP4.out).size; clear hg5 ho5)
      | fail))
  have HX5 : Hid (PhAt w w5 w.heap.size #[.slice ta tn tc, .slice na nn nc, .slice la ln lc, .int .i64 st, .slice pa n pc]) := HX4.out.kept HGa5.out
  obtain ⟨len5, hl5⟩ : ∃ m, m = xA.length := ⟨_, rfl⟩
  have HL5 : Hid (len5 = xA.length) := hl5
  rw [← hl5] at HO5
  rw [← hl5]
  clear hl5
  have HUP5 : Hid (w5.grownBy w5.drew none) := grown_drewN _ 1
  have HKS5 : Hid (∀ Y, w5.grownBy Y none → (Y.cell? ⟨w.heap.size, 0, none⟩ = some (.slice ta tn tc) ∧ Y.cell? ⟨w.heap.size, 1, none⟩ = some (.slice na nn nc) ∧ Y.cell? ⟨w.heap.size, 2, none⟩ = some (.slice la ln lc) ∧ Y.cell? ⟨w.heap.size, 3, none⟩ = some (.int .i64 st) ∧ Y.cell? ⟨w.heap.size, 4, none⟩ = some (.slice pa n pc))) := fun Y hY => (HX5.out.kept hY).cells
  go_wp2_with fail
  go_region_held3 (fun Y => (Y.cell? ⟨w.heap.size, 0, none⟩ = some (.slice ta tn tc) ∧ Y.cell? ⟨w.heap.size, 1, none⟩ = some (.slice na nn nc) ∧ Y.cell? ⟨w.heap.size, 2, none⟩ = some (.slice la ln lc) ∧ Y.cell? ⟨w.heap.size, 3, none⟩ = some (.int .i64 st) ∧ Y.cell? ⟨w.heap.size, 4, none⟩ = some (.slice pa n pc))) (first | exact HKS5.out _ HUP5.out | exact HKS5.out _ HGa6.out | go_keep)
    ((first
      | (go_at_call 19; refine Calls.mono (HG2.out _ (grown_trans HX5.out.grown HUP5.out)) ?_; rintro e w6 ⟨a6, c6, rfl, ho6, hg6⟩; have HGa6 : Hid (w5.grownBy w6 none) := grown_trans HUP5.out hg6; have HO6 : Hid (w6.ownsRow w.heap.size 49 2 (.slice a6 xB.length c6) xB.length (itsV xB)) := owns_lowJ ho6 (grown_trans HX5.out.grown HUP5.out).size; clear hg6 ho6)
      | fail))
  have HX6 : Hid (PhAt w w6 w.heap.size #[.slice ta tn tc, .slice na nn nc, .slice la ln lc, .int .i64 st, .slice pa n pc]) := HX5.out.kept HGa6.out
  obtain ⟨len6, hl6⟩ : ∃ m, m = xB.length := ⟨_, rfl⟩
  have HL6 : Hid (len6 = xB.length) := hl6
  rw [← hl6] at HO6
  rw [← hl6]
  clear hl6
  obtain ⟨k0, k1, k2, k3, k4⟩ := HX6.out.cells
  go_wp2_with fail
  refine Calls.mono (HG3.out _ HX6.out.grown) ?_
  rintro e w7 ⟨a7, c7, rfl, ho7, hg7⟩
  have HGa7 : Hid (w6.grownBy w7 none) := hg7
  have HO7 : Hid (w7.ownsRow w.heap.size 49 2 (.slice a7 xC.length c7) xC.length (itsV xC)) := owns_lowJ ho7 HX6.out.grown.size
  have HX7 : Hid (PhAt w w7 w.heap.size #[.slice ta tn tc, .slice na nn nc, .slice la ln lc, .int .i64 st, .slice pa n pc]) := HX6.out.kept hg7
  clear hg7 ho7 k0 k1 k2 k3 k4
  obtain ⟨len7, hl7⟩ : ∃ m, m = xC.length := ⟨_, rfl⟩
  have HL7 : Hid (len7 = xC.length) := hl7
  rw [← hl7] at HO7
  rw [← hl7]
  clear hl7
  go_wp2_with fail
  go_ret
  exact ⟨rfl, HX7.out.grown⟩

set_option maxRecDepth 100000 in
set_option maxHeartbeats 4000000 in
theorem sums_bad1Z (ta na la pa : Option Addr) (tc nc lc pc : Nat) (n : Nat) (st : Int) (w : World) (tn nn ln : Nat) (s : Int) (aZ : Option Addr) (A B C xA xB xC : List It) (f1 i1 l1 : Int)
    (hC1 : ∀ X, w.grownBy X none → Calls Try.prog 17 #[.agg #[.slice ta tn tc, .slice na nn nc, .slice la ln lc, .int .i64 st, .slice pa n pc], .slice aZ 0 0] X fun e y => ItsErr A 1 X e y)
    (hC2 : ∀ X, w.grownBy X none → Calls Try.prog 17 #[.agg #[.slice ta tn tc, .slice na nn nc, .slice la ln lc, .int .i64 st, .slice pa n pc], .slice aZ 0 0] X fun e y => ItsErr B f1 X e y)
    (hC3 : ∀ X, w.grownBy X none → Calls Try.prog 17 #[.agg #[.slice ta tn tc, .slice na nn nc, .slice la ln lc, .int .i64 st, .slice pa n pc], .slice aZ 0 0] X fun e y => ItsErr C 1 X e y)
    (hG1 : ∀ X, w.grownBy X none → Calls Try.prog 19 #[.agg #[.slice ta tn tc, .slice na nn nc, .slice la ln lc, .int .i64 st, .slice pa n pc], .int .i64 s, .slice aZ 0 0] X fun e y => ItsErr xA i1 X e y)
    (hG2 : ∀ X, w.grownBy X none → Calls Try.prog 19 #[.agg #[.slice ta tn tc, .slice na nn nc, .slice la ln lc, .int .i64 st, .slice pa n pc], .int .i64 s, .slice aZ 0 0] X fun e y => ItsErr xB l1 X e y)
    (hG3 : ∀ X, w.grownBy X none → Calls Try.prog 19 #[.agg #[.slice ta tn tc, .slice na nn nc, .slice la ln lc, .int .i64 st, .slice pa n pc], .int .i64 s, .slice aZ 0 0] X fun e y => ItsErr xC 1 X e y) :
    Calls Try.prog 8 #[.agg #[.slice ta tn tc, .slice na nn nc, .slice la ln lc, .int .i64 st, .slice pa n pc], .int .i64 s, .slice aZ 0 0] w fun e w' => e = .returned (.bool true) ∧ w.grownBy w' none := by
  have HC1 := show Hid _ from hC1
  have HC2 := show Hid _ from hC2
  have HC3 := show Hid _ from hC3
  have HG1 := show Hid _ from hG1
  have HG2 := show Hid _ from hG2
  have HG3 := show Hid _ from hG3
  have HX0 : Hid (PhAt w (w.alloc (.cells #[.slice ta tn tc, .slice na nn nc, .slice la ln lc, .int .i64 st, .slice pa n pc] 27)) w.heap.size #[.slice ta tn tc, .slice na nn nc, .slice la ln lc, .int .i64 st, .slice pa n pc]) := ⟨World.grownBy_alloc _ _ none, heap_alloc_last w _⟩
  clear hC1 hC2 hC3 hG1 hG2 hG3
  go_enter Try.func8, Try.ntmps8
  go_wp2_with fail
  refine Calls.mono (awake_any _) ?_
  rintro e w1 ⟨rfl, hg1⟩
  have HX1 : Hid (PhAt w w1 w.heap.size #[.slice ta tn tc, .slice na nn nc, .slice la ln lc, .int .i64 st, .slice pa n pc]) := HX0.out.kept hg1
  clear hg1 HX0
  have HUP1 : Hid (w1.grownBy w1.drew none) := grown_drewN _ 1
  have HKS1 : Hid (∀ Y, w1.grownBy Y none → (Y.cell? ⟨w.heap.size, 0, none⟩ = some (.slice ta tn tc) ∧ Y.cell? ⟨w.heap.size, 1, none⟩ = some (.slice na nn nc) ∧ Y.cell? ⟨w.heap.size, 2, none⟩ = some (.slice la ln lc) ∧ Y.cell? ⟨w.heap.size, 3, none⟩ = some (.int .i64 st) ∧ Y.cell? ⟨w.heap.size, 4, none⟩ = some (.slice pa n pc))) := fun Y hY => (HX1.out.kept hY).cells
  go_wp2_with fail
  go_region_held3 (fun Y => (Y.cell? ⟨w.heap.size, 0, none⟩ = some (.slice ta tn tc) ∧ Y.cell? ⟨w.heap.size, 1, none⟩ = some (.slice na nn nc) ∧ Y.cell? ⟨w.heap.size, 2, none⟩ = some (.slice la ln lc) ∧ Y.cell? ⟨w.heap.size, 3, none⟩ = some (.int .i64 st) ∧ Y.cell? ⟨w.heap.size, 4, none⟩ = some (.slice pa n pc))) (first | exact HKS1.out _ HUP1.out | exact HKS1.out _ HGa2.out | go_keep)
    ((first
      | (go_at_call 17; refine Calls.mono (HC1.out _ (grown_trans HX1.out.grown HUP1.out)) ?_; rintro e w2 ⟨a2, c2, rfl, ho2, hg2⟩; have HGa2 : Hid (w1.grownBy w2 none) := grown_trans HUP1.out hg2; have HO2 : Hid (w2.ownsRow w.heap.size 49 2 (.slice a2 A.length c2) A.length (itsV A)) := owns_lowJ ho2 (grown_trans HX1.out.grown HUP1.out).size; clear hg2 ho2)
      | fail))
  have HX2 : Hid (PhAt w w2 w.heap.size #[.slice ta tn tc, .slice na nn nc, .slice la ln lc, .int .i64 st, .slice pa n pc]) := HX1.out.kept HGa2.out
  obtain ⟨len2, hl2⟩ : ∃ m, m = A.length := ⟨_, rfl⟩
  have HL2 : Hid (len2 = A.length) := hl2
  rw [← hl2] at HO2
  rw [← hl2]
  clear hl2
  have HUP2 : Hid (w2.grownBy w2.drew none) := grown_drewN _ 1
  have HKS2 : Hid (∀ Y, w2.grownBy Y none → (Y.cell? ⟨w.heap.size, 0, none⟩ = some (.slice ta tn tc) ∧ Y.cell? ⟨w.heap.size, 1, none⟩ = some (.slice na nn nc) ∧ Y.cell? ⟨w.heap.size, 2, none⟩ = some (.slice la ln lc) ∧ Y.cell? ⟨w.heap.size, 3, none⟩ = some (.int .i64 st) ∧ Y.cell? ⟨w.heap.size, 4, none⟩ = some (.slice pa n pc))) := fun Y hY => (HX2.out.kept hY).cells
  go_wp2_with fail
  go_region_held3 (fun Y => (Y.cell? ⟨w.heap.size, 0, none⟩ = some (.slice ta tn tc) ∧ Y.cell? ⟨w.heap.size, 1, none⟩ = some (.slice na nn nc) ∧ Y.cell? ⟨w.heap.size, 2, none⟩ = some (.slice la ln lc) ∧ Y.cell? ⟨w.heap.size, 3, none⟩ = some (.int .i64 st) ∧ Y.cell? ⟨w.heap.size, 4, none⟩ = some (.slice pa n pc))) (first | exact HKS2.out _ HUP2.out | exact HKS2.out _ HGa3.out | go_keep)
    ((first
      | (go_at_call 17; refine Calls.mono (HC2.out _ (grown_trans HX2.out.grown HUP2.out)) ?_; rintro e w3 ⟨a3, c3, rfl, ho3, hg3⟩; have HGa3 : Hid (w2.grownBy w3 none) := grown_trans HUP2.out hg3; have HO3 : Hid (w3.ownsRow w.heap.size 49 2 (.slice a3 B.length c3) B.length (itsV B)) := owns_lowJ ho3 (grown_trans HX2.out.grown HUP2.out).size; clear hg3 ho3)
      | fail))
  have HX3 : Hid (PhAt w w3 w.heap.size #[.slice ta tn tc, .slice na nn nc, .slice la ln lc, .int .i64 st, .slice pa n pc]) := HX2.out.kept HGa3.out
  obtain ⟨len3, hl3⟩ : ∃ m, m = B.length := ⟨_, rfl⟩
  have HL3 : Hid (len3 = B.length) := hl3
  rw [← hl3] at HO3
  rw [← hl3]
  clear hl3
  obtain ⟨k0, k1, k2, k3, k4⟩ := HX3.out.cells
  go_wp2_with fail
  refine Calls.mono (HC3.out _ HX3.out.grown) ?_
  rintro e w4 ⟨a4, c4, rfl, ho4, hg4⟩
  have HGa4 : Hid (w3.grownBy w4 none) := hg4
  have HO4 : Hid (w4.ownsRow w.heap.size 49 2 (.slice a4 C.length c4) C.length (itsV C)) := owns_lowJ ho4 HX3.out.grown.size
  have HX4 : Hid (PhAt w w4 w.heap.size #[.slice ta tn tc, .slice na nn nc, .slice la ln lc, .int .i64 st, .slice pa n pc]) := HX3.out.kept hg4
  clear hg4 ho4 k0 k1 k2 k3 k4
  obtain ⟨len4, hl4⟩ : ∃ m, m = C.length := ⟨_, rfl⟩
  have HL4 : Hid (len4 = C.length) := hl4
  rw [← hl4] at HO4
  rw [← hl4]
  clear hl4
  have HUP4 : Hid (w4.grownBy w4.drew none) := grown_drewN _ 1
  have HKS4 : Hid (∀ Y, w4.grownBy Y none → (Y.cell? ⟨w.heap.size, 0, none⟩ = some (.slice ta tn tc) ∧ Y.cell? ⟨w.heap.size, 1, none⟩ = some (.slice na nn nc) ∧ Y.cell? ⟨w.heap.size, 2, none⟩ = some (.slice la ln lc) ∧ Y.cell? ⟨w.heap.size, 3, none⟩ = some (.int .i64 st) ∧ Y.cell? ⟨w.heap.size, 4, none⟩ = some (.slice pa n pc))) := fun Y hY => (HX4.out.kept hY).cells
  go_wp2_with fail
  go_region_held3 (fun Y => (Y.cell? ⟨w.heap.size, 0, none⟩ = some (.slice ta tn tc) ∧ Y.cell? ⟨w.heap.size, 1, none⟩ = some (.slice na nn nc) ∧ Y.cell? ⟨w.heap.size, 2, none⟩ = some (.slice la ln lc) ∧ Y.cell? ⟨w.heap.size, 3, none⟩ = some (.int .i64 st) ∧ Y.cell? ⟨w.heap.size, 4, none⟩ = some (.slice pa n pc))) (first | exact HKS4.out _ HUP4.out | exact HKS4.out _ HGa5.out | go_keep)
    ((first
      | (go_at_call 19; refine Calls.mono (HG1.out _ (grown_trans HX4.out.grown HUP4.out)) ?_; rintro e w5 ⟨a5, c5, rfl, ho5, hg5⟩; have HGa5 : Hid (w4.grownBy w5 none) := grown_trans HUP4.out hg5; have HO5 : Hid (w5.ownsRow w.heap.size 49 2 (.slice a5 xA.length c5) xA.length (itsV xA)) := owns_lowJ ho5 (grown_trans HX4.out.grown HUP4.out).size; clear hg5 ho5)
      | fail))
  have HX5 : Hid (PhAt w w5 w.heap.size #[.slice ta tn tc, .slice na nn nc, .slice la ln lc, .int .i64 st, .slice pa n pc]) := HX4.out.kept HGa5.out
  obtain ⟨len5, hl5⟩ : ∃ m, m = xA.length := ⟨_, rfl⟩
  have HL5 : Hid (len5 = xA.length) := hl5
  rw [← hl5] at HO5
  rw [← hl5]
  clear hl5
  have HUP5 : Hid (w5.grownBy w5.drew none) := grown_drewN _ 1
  have HKS5 : Hid (∀ Y, w5.grownBy Y none → (Y.cell? ⟨w.heap.size, 0, none⟩ = some (.slice ta tn tc) ∧ Y.cell? ⟨w.heap.size, 1, none⟩ = some (.slice na nn nc) ∧ Y.cell? ⟨w.heap.size, 2, none⟩ = some (.slice la ln lc) ∧ Y.cell? ⟨w.heap.size, 3, none⟩ = some (.int .i64 st) ∧ Y.cell? ⟨w.heap.size, 4, none⟩ = some (.slice pa n pc))) := fun Y hY => (HX5.out.kept hY).cells
  go_wp2_with fail
  go_region_held3 (fun Y => (Y.cell? ⟨w.heap.size, 0, none⟩ = some (.slice ta tn tc) ∧ Y.cell? ⟨w.heap.size, 1, none⟩ = some (.slice na nn nc) ∧ Y.cell? ⟨w.heap.size, 2, none⟩ = some (.slice la ln lc) ∧ Y.cell? ⟨w.heap.size, 3, none⟩ = some (.int .i64 st) ∧ Y.cell? ⟨w.heap.size, 4, none⟩ = some (.slice pa n pc))) (first | exact HKS5.out _ HUP5.out | exact HKS5.out _ HGa6.out | go_keep)
    ((first
      | (go_at_call 19; refine Calls.mono (HG2.out _ (grown_trans HX5.out.grown HUP5.out)) ?_; rintro e w6 ⟨a6, c6, rfl, ho6, hg6⟩; have HGa6 : Hid (w5.grownBy w6 none) := grown_trans HUP5.out hg6; have HO6 : Hid (w6.ownsRow w.heap.size 49 2 (.slice a6 xB.length c6) xB.length (itsV xB)) := owns_lowJ ho6 (grown_trans HX5.out.grown HUP5.out).size; clear hg6 ho6)
      | fail))
  have HX6 : Hid (PhAt w w6 w.heap.size #[.slice ta tn tc, .slice na nn nc, .slice la ln lc, .int .i64 st, .slice pa n pc]) := HX5.out.kept HGa6.out
  obtain ⟨len6, hl6⟩ : ∃ m, m = xB.length := ⟨_, rfl⟩
  have HL6 : Hid (len6 = xB.length) := hl6
  rw [← hl6] at HO6
  rw [← hl6]
  clear hl6
  obtain ⟨k0, k1, k2, k3, k4⟩ := HX6.out.cells
  go_wp2_with fail
  refine Calls.mono (HG3.out _ HX6.out.grown) ?_
  rintro e w7 ⟨a7, c7, rfl, ho7, hg7⟩
  have HGa7 : Hid (w6.grownBy w7 none) := hg7
  have HO7 : Hid (w7.ownsRow w.heap.size 49 2 (.slice a7 xC.length c7) xC.length (itsV xC)) := owns_lowJ ho7 HX6.out.grown.size
  have HX7 : Hid (PhAt w w7 w.heap.size #[.slice ta tn tc, .slice na nn nc, .slice la ln lc, .int .i64 st, .slice pa n pc]) := HX6.out.kept hg7
  clear hg7 ho7 k0 k1 k2 k3 k4
  obtain ⟨len7, hl7⟩ : ∃ m, m = xC.length := ⟨_, rfl⟩
  have HL7 : Hid (len7 = xC.length) := hl7
  rw [← hl7] at HO7
  rw [← hl7]
  clear hl7
  go_wp2_with fail
  go_ret
  exact ⟨rfl, HX7.out.grown⟩

set_option maxRecDepth 100000 in
set_option maxHeartbeats 4000000 in
theorem sums_bad2Z (ta na la pa : Option Addr) (tc nc lc pc : Nat) (n : Nat) (st : Int) (w : World) (tn nn ln : Nat) (s : Int) (aZ : Option Addr) (A B C xA xB xC : List It) (i1 l1 : Int)
    (hC1 : ∀ X, w.grownBy X none → Calls Try.prog 17 #[.agg #[.slice ta tn tc, .slice na nn nc, .slice la ln lc, .int .i64 st, .slice pa n pc], .slice aZ 0 0] X fun e y => ItsErr A 0 X e y)
    (hC2 : ∀ X, w.grownBy X none → Calls Try.prog 17 #[.agg #[.slice ta tn tc, .slice na nn nc, .slice la ln lc, .int .i64 st, .slice pa n pc], .slice aZ 0 0] X fun e y => ItsErr B 1 X e y)
    (hC3 : ∀ X, w.grownBy X none → Calls Try.prog 17 #[.agg #[.slice ta tn tc, .slice na nn nc, .slice la ln lc, .int .i64 st, .slice pa n pc], .slice aZ 0 0] X fun e y => ItsErr C 1 X e y)
    (hG1 : ∀ X, w.grownBy X none → Calls Try.prog 19 #[.agg #[.slice ta tn tc, .slice na nn nc, .slice la ln lc, .int .i64 st, .slice pa n pc], .int .i64 s, .slice aZ 0 0] X fun e y => ItsErr xA i1 X e y)
    (hG2 : ∀ X, w.grownBy X none → Calls Try.prog 19 #[.agg #[.slice ta tn tc, .slice na nn nc, .slice la ln lc, .int .i64 st, .slice pa n pc], .int .i64 s, .slice aZ 0 0] X fun e y => ItsErr xB l1 X e y)
    (hG3 : ∀ X, w.grownBy X none → Calls Try.prog 19 #[.agg #[.slice ta tn tc, .slice na nn nc, .slice la ln lc, .int .i64 st, .slice pa n pc], .int .i64 s, .slice aZ 0 0] X fun e y => ItsErr xC 1 X e y) :
    Calls Try.prog 8 #[.agg #[.slice ta tn tc, .slice na nn nc, .slice la ln lc, .int .i64 st, .slice pa n pc], .int .i64 s, .slice aZ 0 0] w fun e w' => e = .returned (.bool true) ∧ w.grownBy w' none := by
  have HC1 := show Hid _ from hC1
  have HC2 := show Hid _ from hC2
  have HC3 := show Hid _ from hC3
  have HG1 := show Hid _ from hG1
  have HG2 := show Hid _ from hG2
  have HG3 := show Hid _ from hG3
  have HX0 : Hid (PhAt w (w.alloc (.cells #[.slice ta tn tc, .slice na nn nc, .slice la ln lc, .int .i64 st, .slice pa n pc] 27)) w.heap.size #[.slice ta tn tc, .slice na nn nc, .slice la ln lc, .int .i64 st, .slice pa n pc]) := ⟨World.grownBy_alloc _ _ none, heap_alloc_last w _⟩
  clear hC1 hC2 hC3 hG1 hG2 hG3
  go_enter Try.func8, Try.ntmps8
  go_wp2_with fail
  refine Calls.mono (awake_any _) ?_
  rintro e w1 ⟨rfl, hg1⟩
  have HX1 : Hid (PhAt w w1 w.heap.size #[.slice ta tn tc, .slice na nn nc, .slice la ln lc, .int .i64 st, .slice pa n pc]) := HX0.out.kept hg1
  clear hg1 HX0
  have HUP1 : Hid (w1.grownBy w1.drew none) := grown_drewN _ 1
  have HKS1 : Hid (∀ Y, w1.grownBy Y none → (Y.cell? ⟨w.heap.size, 0, none⟩ = some (.slice ta tn tc) ∧ Y.cell? ⟨w.heap.size, 1, none⟩ = some (.slice na nn nc) ∧ Y.cell? ⟨w.heap.size, 2, none⟩ = some (.slice la ln lc) ∧ Y.cell? ⟨w.heap.size, 3, none⟩ = some (.int .i64 st) ∧ Y.cell? ⟨w.heap.size, 4, none⟩ = some (.slice pa n pc))) := fun Y hY => (HX1.out.kept hY).cells
  go_wp2_with fail
  go_region_held3 (fun Y => (Y.cell? ⟨w.heap.size, 0, none⟩ = some (.slice ta tn tc) ∧ Y.cell? ⟨w.heap.size, 1, none⟩ = some (.slice na nn nc) ∧ Y.cell? ⟨w.heap.size, 2, none⟩ = some (.slice la ln lc) ∧ Y.cell? ⟨w.heap.size, 3, none⟩ = some (.int .i64 st) ∧ Y.cell? ⟨w.heap.size, 4, none⟩ = some (.slice pa n pc))) (first | exact HKS1.out _ HUP1.out | exact HKS1.out _ HGa2.out | go_keep)
    ((first
      | (go_at_call 17; refine Calls.mono (HC1.out _ (grown_trans HX1.out.grown HUP1.out)) ?_; rintro e w2 ⟨a2, c2, rfl, ho2, hg2⟩; have HGa2 : Hid (w1.grownBy w2 none) := grown_trans HUP1.out hg2; have HO2 : Hid (w2.ownsRow w.heap.size 49 2 (.slice a2 A.length c2) A.length (itsV A)) := owns_lowJ ho2 (grown_trans HX1.out.grown HUP1.out).size; clear hg2 ho2)
      | fail))
  have HX2 : Hid (PhAt w w2 w.heap.size #[.slice ta tn tc, .slice na nn nc, .slice la ln lc, .int .i64 st, .slice pa n pc]) := HX1.out.kept HGa2.out
  obtain ⟨len2, hl2⟩ : ∃ m, m = A.length := ⟨_, rfl⟩
  have HL2 : Hid (len2 = A.length) := hl2
  rw [← hl2] at HO2
  rw [← hl2]
  clear hl2
  have HUP2 : Hid (w2.grownBy w2.drew none) := grown_drewN _ 1
  have HKS2 : Hid (∀ Y, w2.grownBy Y none → (Y.cell? ⟨w.heap.size, 0, none⟩ = some (.slice ta tn tc) ∧ Y.cell? ⟨w.heap.size, 1, none⟩ = some (.slice na nn nc) ∧ Y.cell? ⟨w.heap.size, 2, none⟩ = some (.slice la ln lc) ∧ Y.cell? ⟨w.heap.size, 3, none⟩ = some (.int .i64 st) ∧ Y.cell? ⟨w.heap.size, 4, none⟩ = some (.slice pa n pc))) := fun Y hY => (HX2.out.kept hY).cells
  go_wp2_with fail
  go_region_held3 (fun Y => (Y.cell? ⟨w.heap.size, 0, none⟩ = some (.slice ta tn tc) ∧ Y.cell? ⟨w.heap.size, 1, none⟩ = some (.slice na nn nc) ∧ Y.cell? ⟨w.heap.size, 2, none⟩ = some (.slice la ln lc) ∧ Y.cell? ⟨w.heap.size, 3, none⟩ = some (.int .i64 st) ∧ Y.cell? ⟨w.heap.size, 4, none⟩ = some (.slice pa n pc))) (first | exact HKS2.out _ HUP2.out | exact HKS2.out _ HGa3.out | go_keep)
    ((first
      | (go_at_call 17; refine Calls.mono (HC2.out _ (grown_trans HX2.out.grown HUP2.out)) ?_; rintro e w3 ⟨a3, c3, rfl, ho3, hg3⟩; have HGa3 : Hid (w2.grownBy w3 none) := grown_trans HUP2.out hg3; have HO3 : Hid (w3.ownsRow w.heap.size 49 2 (.slice a3 B.length c3) B.length (itsV B)) := owns_lowJ ho3 (grown_trans HX2.out.grown HUP2.out).size; clear hg3 ho3)
      | fail))
  have HX3 : Hid (PhAt w w3 w.heap.size #[.slice ta tn tc, .slice na nn nc, .slice la ln lc, .int .i64 st, .slice pa n pc]) := HX2.out.kept HGa3.out
  obtain ⟨len3, hl3⟩ : ∃ m, m = B.length := ⟨_, rfl⟩
  have HL3 : Hid (len3 = B.length) := hl3
  rw [← hl3] at HO3
  rw [← hl3]
  clear hl3
  obtain ⟨k0, k1, k2, k3, k4⟩ := HX3.out.cells
  go_wp2_with fail
  refine Calls.mono (HC3.out _ HX3.out.grown) ?_
  rintro e w4 ⟨a4, c4, rfl, ho4, hg4⟩
  have HGa4 : Hid (w3.grownBy w4 none) := hg4
  have HO4 : Hid (w4.ownsRow w.heap.size 49 2 (.slice a4 C.length c4) C.length (itsV C)) := owns_lowJ ho4 HX3.out.grown.size
  have HX4 : Hid (PhAt w w4 w.heap.size #[.slice ta tn tc, .slice na nn nc, .slice la ln lc, .int .i64 st, .slice pa n pc]) := HX3.out.kept hg4
  clear hg4 ho4 k0 k1 k2 k3 k4
  obtain ⟨len4, hl4⟩ : ∃ m, m = C.length := ⟨_, rfl⟩
  have HL4 : Hid (len4 = C.length) := hl4
  rw [← hl4] at HO4
  rw [← hl4]
  clear hl4
  have HUP4 : Hid (w4.grownBy w4.drew none) := grown_drewN _ 1
  have HKS4 : Hid (∀ Y, w4.grownBy Y none → (Y.cell? ⟨w.heap.size, 0, none⟩ = some (.slice ta tn tc) ∧ Y.cell? ⟨w.heap.size, 1, none⟩ = some (.slice na nn nc) ∧ Y.cell? ⟨w.heap.size, 2, none⟩ = some (.slice la ln lc) ∧ Y.cell? ⟨w.heap.size, 3, none⟩ = some (.int .i64 st) ∧ Y.cell? ⟨w.heap.size, 4, none⟩ = some (.slice pa n pc))) := fun Y hY => (HX4.out.kept hY).cells
  go_wp2_with fail
  go_region_held3 (fun Y => (Y.cell? ⟨w.heap.size, 0, none⟩ = some (.slice ta tn tc) ∧ Y.cell? ⟨w.heap.size, 1, none⟩ = some (.slice na nn nc) ∧ Y.cell? ⟨w.heap.size, 2, none⟩ = some (.slice la ln lc) ∧ Y.cell? ⟨w.heap.size, 3, none⟩ = some (.int .i64 st) ∧ Y.cell? ⟨w.heap.size, 4, none⟩ = some (.slice pa n pc))) (first | exact HKS4.out _ HUP4.out | exact HKS4.out _ HGa5.out | go_keep)
    ((first
      | (go_at_call 19; refine Calls.mono (HG1.out _ (grown_trans HX4.out.grown HUP4.out)) ?_; rintro e w5 ⟨a5, c5, rfl, ho5, hg5⟩; have HGa5 : Hid (w4.grownBy w5 none) := grown_trans HUP4.out hg5; have HO5 : Hid (w5.ownsRow w.heap.size 49 2 (.slice a5 xA.length c5) xA.length (itsV xA)) := owns_lowJ ho5 (grown_trans HX4.out.grown HUP4.out).size; clear hg5 ho5)
      | fail))
  have HX5 : Hid (PhAt w w5 w.heap.size #[.slice ta tn tc, .slice na nn nc, .slice la ln lc, .int .i64 st, .slice pa n pc]) := HX4.out.kept HGa5.out
  obtain ⟨len5, hl5⟩ : ∃ m, m = xA.length := ⟨_, rfl⟩
  have HL5 : Hid (len5 = xA.length) := hl5
  rw [← hl5] at HO5
  rw [← hl5]
  clear hl5
  have HUP5 : Hid (w5.grownBy w5.drew none) := grown_drewN _ 1
  have HKS5 : Hid (∀ Y, w5.grownBy Y none → (Y.cell? ⟨w.heap.size, 0, none⟩ = some (.slice ta tn tc) ∧ Y.cell? ⟨w.heap.size, 1, none⟩ = some (.slice na nn nc) ∧ Y.cell? ⟨w.heap.size, 2, none⟩ = some (.slice la ln lc) ∧ Y.cell? ⟨w.heap.size, 3, none⟩ = some (.int .i64 st) ∧ Y.cell? ⟨w.heap.size, 4, none⟩ = some (.slice pa n pc))) := fun Y hY => (HX5.out.kept hY).cells
  go_wp2_with fail
  go_region_held3 (fun Y => (Y.cell? ⟨w.heap.size, 0, none⟩ = some (.slice ta tn tc) ∧ Y.cell? ⟨w.heap.size, 1, none⟩ = some (.slice na nn nc) ∧ Y.cell? ⟨w.heap.size, 2, none⟩ = some (.slice la ln lc) ∧ Y.cell? ⟨w.heap.size, 3, none⟩ = some (.int .i64 st) ∧ Y.cell? ⟨w.heap.size, 4, none⟩ = some (.slice pa n pc))) (first | exact HKS5.out _ HUP5.out | exact HKS5.out _ HGa6.out | go_keep)
    ((first
      | (go_at_call 19; refine Calls.mono (HG2.out _ (grown_trans HX5.out.grown HUP5.out)) ?_; rintro e w6 ⟨a6, c6, rfl, ho6, hg6⟩; have HGa6 : Hid (w5.grownBy w6 none) := grown_trans HUP5.out hg6; have HO6 : Hid (w6.ownsRow w.heap.size 49 2 (.slice a6 xB.length c6) xB.length (itsV xB)) := owns_lowJ ho6 (grown_trans HX5.out.grown HUP5.out).size; clear hg6 ho6)
      | fail))
  have HX6 : Hid (PhAt w w6 w.heap.size #[.slice ta tn tc, .slice na nn nc, .slice la ln lc, .int .i64 st, .slice pa n pc]) := HX5.out.kept HGa6.out
  obtain ⟨len6, hl6⟩ : ∃ m, m = xB.length := ⟨_, rfl⟩
  have HL6 : Hid (len6 = xB.length) := hl6
  rw [← hl6] at HO6
  rw [← hl6]
  clear hl6
  obtain ⟨k0, k1, k2, k3, k4⟩ := HX6.out.cells
  go_wp2_with fail
  refine Calls.mono (HG3.out _ HX6.out.grown) ?_
  rintro e w7 ⟨a7, c7, rfl, ho7, hg7⟩
  have HGa7 : Hid (w6.grownBy w7 none) := hg7
  have HO7 : Hid (w7.ownsRow w.heap.size 49 2 (.slice a7 xC.length c7) xC.length (itsV xC)) := owns_lowJ ho7 HX6.out.grown.size
  have HX7 : Hid (PhAt w w7 w.heap.size #[.slice ta tn tc, .slice na nn nc, .slice la ln lc, .int .i64 st, .slice pa n pc]) := HX6.out.kept hg7
  clear hg7 ho7 k0 k1 k2 k3 k4
  obtain ⟨len7, hl7⟩ : ∃ m, m = xC.length := ⟨_, rfl⟩
  have HL7 : Hid (len7 = xC.length) := hl7
  rw [← hl7] at HO7
  rw [← hl7]
  clear hl7
  go_wp2_with fail
  go_ret
  exact ⟨rfl, HX7.out.grown⟩

end Go.Proofs.Ytfjbgnmmlppmeaa.J

/-
  lr0: the law Lr0Sums, where the symbol is none.
-/
namespace Go.Proofs.Ytfjbgnmmlppmeaa.J
open Go.RowKit Go.Maps Go.Shelf

attribute [local go_sem] Oper.semAt_some

set_option maxRecDepth 100000 in
set_option maxHeartbeats 4000000 in
theorem sums_okbadP (ta na la pa : Option Addr) (tc nc lc pc : Nat) (n : Nat) (st : Int) (w : World) (tn nn ln : Nat) (s : Int) (x : Addr) (cap k N : Nat) (hk : k = N / 2) (hNc : N ≤ cap) (hc0 : 0 < cap) (hNb : N ≤ 8796093022208) (A B C xA xB xC : List It) (hAB : A.length + B.length ≤ 8796093062208) (hCl : C.length ≤ 8796093062208) (hS1 : ∀ l', Asc l' → (∀ x, x ∈ l' ↔ x ∈ A ++ B) → l' = C) 
    (hC1 : ∀ X, w.grownBy X none → Calls Try.prog 17 #[.agg #[.slice ta tn tc, .slice na nn nc, .slice la ln lc, .int .i64 st, .slice pa n pc], .slice (some x) k cap] X fun e y => ItsErr A 0 X e y)
    (hC2 : ∀ X, w.grownBy X none → Calls Try.prog 17 #[.agg #[.slice ta tn tc, .slice na nn nc, .slice la ln lc, .int .i64 st, .slice pa n pc], .slice (some (x.add (k * 2))) (N - k) (cap - k)] X fun e y => ItsErr B 0 X e y)
    (hC3 : ∀ X, w.grownBy X none → Calls Try.prog 17 #[.agg #[.slice ta tn tc, .slice na nn nc, .slice la ln lc, .int .i64 st, .slice pa n pc], .slice (some x) N cap] X fun e y => ItsErr C 0 X e y)
    (hG1 : ∀ X, w.grownBy X none → Calls Try.prog 19 #[.agg #[.slice ta tn tc, .slice na nn nc, .slice la ln lc, .int .i64 st, .slice pa n pc], .int .i64 s, .slice (some x) k cap] X fun e y => ItsErr xA 1 X e y)
    (hG2 : ∀ X, w.grownBy X none → Calls Try.prog 19 #[.agg #[.slice ta tn tc, .slice na nn nc, .slice la ln lc, .int .i64 st, .slice pa n pc], .int .i64 s, .slice (some (x.add (k * 2))) (N - k) (cap - k)] X fun e y => ItsErr xB 1 X e y)
    (hG3 : ∀ X, w.grownBy X none → Calls Try.prog 19 #[.agg #[.slice ta tn tc, .slice na nn nc, .slice la ln lc, .int .i64 st, .slice pa n pc], .int .i64 s, .slice (some x) N cap] X fun e y => ItsErr xC 1 X e y) :
    Calls Try.prog 8 #[.agg #[.slice ta tn tc, .slice na nn nc, .slice la ln lc, .int .i64 st, .slice pa n pc], .int .i64 s, .slice (some x) N cap] w fun e w' => e = .returned (.bool true) ∧ w.grownBy w' none := by
  have HHAB : Hid (A.length + B.length ≤ 8796093062208) := hAB
  have HB4 : Hid (C.length ≤ 8796093062208) := hCl
  have HS1 := show Hid _ from hS1
  clear hAB hCl hS1
  have HC1 := show Hid _ from hC1
  have HC2 := show Hid _ from hC2
  have HC3 := show Hid _ from hC3
  have HG1 := show Hid _ from hG1
  have HG2 := show Hid _ from hG2
  have HG3 := show Hid _ from hG3
  have HX0 : Hid (PhAt w (w.alloc (.cells #[.slice ta tn tc, .slice na nn nc, .slice la ln lc, .int .i64 st, .slice pa n pc] 27)) w.heap.size #[.slice ta tn tc, .slice na nn nc, .slice la ln lc, .int .i64 st, .slice pa n pc]) := ⟨World.grownBy_alloc _ _ none, heap_alloc_last w _⟩
  have hq : (N : Int).tdiv 2 = (k : Int) := by rw [hk]; rfl
  have hkN : k ≤ N := by omega
  have hkc : k < cap := by omega
  have z1 : (0 : Int) ≤ (k : Int) := by omega
  have z2 : (k : Int) ≤ (N : Int) := by omega
  have z3 : (k : Int) ≤ (cap : Int) := by omega
  have z4 : (N : Int) ≤ (cap : Int) := by omega
  have z5 : ¬ cap = k := by omega
  have z6 : ¬ k = cap := by omega
  clear hk
  clear hC1 hC2 hC3 hG1 hG2 hG3
  go_enter Try.func8, Try.ntmps8
  go_wp2_with fail
  refine Calls.mono (awake_any _) ?_
  rintro e w1 ⟨rfl, hg1⟩
  have HX1 : Hid (PhAt w w1 w.heap.size #[.slice ta tn tc, .slice na nn nc, .slice la ln lc, .int .i64 st, .slice pa n pc]) := HX0.out.kept hg1
  clear hg1 HX0
  have HUP1 : Hid (w1.grownBy w1.drew none) := grown_drewN _ 1
  have HKS1 : Hid (∀ Y, w1.grownBy Y none → (Y.cell? ⟨w.heap.size, 0, none⟩ = some (.slice ta tn tc) ∧ Y.cell? ⟨w.heap.size, 1, none⟩ = some (.slice na nn nc) ∧ Y.cell? ⟨w.heap.size, 2, none⟩ = some (.slice la ln lc) ∧ Y.cell? ⟨w.heap.size, 3, none⟩ = some (.int .i64 st) ∧ Y.cell? ⟨w.heap.size, 4, none⟩ = some (.slice pa n pc))) := fun Y hY => (HX1.out.kept hY).cells
  go_wp2_with fail
  go_region_held3 (fun Y => (Y.cell? ⟨w.heap.size, 0, none⟩ = some (.slice ta tn tc) ∧ Y.cell? ⟨w.heap.size, 1, none⟩ = some (.slice na nn nc) ∧ Y.cell? ⟨w.heap.size, 2, none⟩ = some (.slice la ln lc) ∧ Y.cell? ⟨w.heap.size, 3, none⟩ = some (.int .i64 st) ∧ Y.cell? ⟨w.heap.size, 4, none⟩ = some (.slice pa n pc))) (first | exact HKS1.out _ HUP1.out | exact HKS1.out _ HGa2.out | go_keep)
    ((first
      | (go_at_call 17; refine Calls.mono (HC1.out _ (grown_trans HX1.out.grown HUP1.out)) ?_; rintro e w2 ⟨a2, c2, rfl, ho2, hg2⟩; have HGa2 : Hid (w1.grownBy w2 none) := grown_trans HUP1.out hg2; have HO2 : Hid (w2.ownsRow w.heap.size 49 2 (.slice a2 A.length c2) A.length (itsV A)) := owns_lowJ ho2 (grown_trans HX1.out.grown HUP1.out).size; clear hg2 ho2)
      | fail))
  have HX2 : Hid (PhAt w w2 w.heap.size #[.slice ta tn tc, .slice na nn nc, .slice la ln lc, .int .i64 st, .slice pa n pc]) := HX1.out.kept HGa2.out
  obtain ⟨len2, hl2⟩ : ∃ m, m = A.length := ⟨_, rfl⟩
  have HL2 : Hid (len2 = A.length) := hl2
  rw [← hl2] at HO2
  rw [← hl2]
  clear hl2
  have HUP2 : Hid (w2.grownBy w2.drew none) := grown_drewN _ 1
  have HKS2 : Hid (∀ Y, w2.grownBy Y none → (Y.cell? ⟨w.heap.size, 0, none⟩ = some (.slice ta tn tc) ∧ Y.cell? ⟨w.heap.size, 1, none⟩ = some (.slice na nn nc) ∧ Y.cell? ⟨w.heap.size, 2, none⟩ = some (.slice la ln lc) ∧ Y.cell? ⟨w.heap.size, 3, none⟩ = some (.int .i64 st) ∧ Y.cell? ⟨w.heap.size, 4, none⟩ = some (.slice pa n pc))) := fun Y hY => (HX2.out.kept hY).cells
  go_wp2_with fail
  go_region_held3 (fun Y => (Y.cell? ⟨w.heap.size, 0, none⟩ = some (.slice ta tn tc) ∧ Y.cell? ⟨w.heap.size, 1, none⟩ = some (.slice na nn nc) ∧ Y.cell? ⟨w.heap.size, 2, none⟩ = some (.slice la ln lc) ∧ Y.cell? ⟨w.heap.size, 3, none⟩ = some (.int .i64 st) ∧ Y.cell? ⟨w.heap.size, 4, none⟩ = some (.slice pa n pc))) (first | exact HKS2.out _ HUP2.out | exact HKS2.out _ HGa3.out | go_keep)
    ((first
      | (go_at_call 17; refine Calls.mono (HC2.out _ (grown_trans HX2.out.grown HUP2.out)) ?_; rintro e w3 ⟨a3, c3, rfl, ho3, hg3⟩; have HGa3 : Hid (w2.grownBy w3 none) := grown_trans HUP2.out hg3; have HO3 : Hid (w3.ownsRow w.heap.size 49 2 (.slice a3 B.length c3) B.length (itsV B)) := owns_lowJ ho3 (grown_trans HX2.out.grown HUP2.out).size; clear hg3 ho3)
      | fail))
  have HX3 : Hid (PhAt w w3 w.heap.size #[.slice ta tn tc, .slice na nn nc, .slice la ln lc, .int .i64 st, .slice pa n pc]) := HX2.out.kept HGa3.out
  obtain ⟨len3, hl3⟩ : ∃ m, m = B.length := ⟨_, rfl⟩
  have HL3 : Hid (len3 = B.length) := hl3
  rw [← hl3] at HO3
  rw [← hl3]
  clear hl3
  obtain ⟨k0, k1, k2, k3, k4⟩ := HX3.out.cells
  go_wp2_with fail
  refine Calls.mono (HC3.out _ HX3.out.grown) ?_
  rintro e w4 ⟨a4, c4, rfl, ho4, hg4⟩
  have HGa4 : Hid (w3.grownBy w4 none) := hg4
  have HO4 : Hid (w4.ownsRow w.heap.size 49 2 (.slice a4 C.length c4) C.length (itsV C)) := owns_lowJ ho4 HX3.out.grown.size
  have HX4 : Hid (PhAt w w4 w.heap.size #[.slice ta tn tc, .slice na nn nc, .slice la ln lc, .int .i64 st, .slice pa n pc]) := HX3.out.kept hg4
  clear hg4 ho4 k0 k1 k2 k3 k4
  obtain ⟨len4, hl4⟩ : ∃ m, m = C.length := ⟨_, rfl⟩
  have HL4 : Hid (len4 = C.length) := hl4
  rw [← hl4] at HO4
  rw [← hl4]
  clear hl4
  have HUP4 : Hid (w4.grownBy w4.drew none) := grown_drewN _ 1
  have HKS4 : Hid (∀ Y, w4.grownBy Y none → (Y.cell? ⟨w.heap.size, 0, none⟩ = some (.slice ta tn tc) ∧ Y.cell? ⟨w.heap.size, 1, none⟩ = some (.slice na nn nc) ∧ Y.cell? ⟨w.heap.size, 2, none⟩ = some (.slice la ln lc) ∧ Y.cell? ⟨w.heap.size, 3, none⟩ = some (.int .i64 st) ∧ Y.cell? ⟨w.heap.size, 4, none⟩ = some (.slice pa n pc))) := fun Y hY => (HX4.out.kept hY).cells
  go_wp2_with fail
  go_region_held3 (fun Y => (Y.cell? ⟨w.heap.size, 0, none⟩ = some (.slice ta tn tc) ∧ Y.cell? ⟨w.heap.size, 1, none⟩ = some (.slice na nn nc) ∧ Y.cell? ⟨w.heap.size, 2, none⟩ = some (.slice la ln lc) ∧ Y.cell? ⟨w.heap.size, 3, none⟩ = some (.int .i64 st) ∧ Y.cell? ⟨w.heap.size, 4, none⟩ = some (.slice pa n pc))) (first | exact HKS4.out _ HUP4.out | exact HKS4.out _ HGa5.out | go_keep)
    ((first
      | (go_at_call 19; refine Calls.mono (HG1.out _ (grown_trans HX4.out.grown HUP4.out)) ?_; rintro e w5 ⟨a5, c5, rfl, ho5, hg5⟩; have HGa5 : Hid (w4.grownBy w5 none) := grown_trans HUP4.out hg5; have HO5 : Hid (w5.ownsRow w.heap.size 49 2 (.slice a5 xA.length c5) xA.length (itsV xA)) := owns_lowJ ho5 (grown_trans HX4.out.grown HUP4.out).size; clear hg5 ho5)
      | fail))
  have HX5 : Hid (PhAt w w5 w.heap.size #[.slice ta tn tc, .slice na nn nc, .slice la ln lc, .int .i64 st, .slice pa n pc]) := HX4.out.kept HGa5.out
  obtain ⟨len5, hl5⟩ : ∃ m, m = xA.length := ⟨_, rfl⟩
  have HL5 : Hid (len5 = xA.length) := hl5
  rw [← hl5] at HO5
  rw [← hl5]
  clear hl5
  have HUP5 : Hid (w5.grownBy w5.drew none) := grown_drewN _ 1
  have HKS5 : Hid (∀ Y, w5.grownBy Y none → (Y.cell? ⟨w.heap.size, 0, none⟩ = some (.slice ta tn tc) ∧ Y.cell? ⟨w.heap.size, 1, none⟩ = some (.slice na nn nc) ∧ Y.cell? ⟨w.heap.size, 2, none⟩ = some (.slice la ln lc) ∧ Y.cell? ⟨w.heap.size, 3, none⟩ = some (.int .i64 st) ∧ Y.cell? ⟨w.heap.size, 4, none⟩ = some (.slice pa n pc))) := fun Y hY => (HX5.out.kept hY).cells
  go_wp2_with fail
  go_region_held3 (fun Y => (Y.cell? ⟨w.heap.size, 0, none⟩ = some (.slice ta tn tc) ∧ Y.cell? ⟨w.heap.size, 1, none⟩ = some (.slice na nn nc) ∧ Y.cell? ⟨w.heap.size, 2, none⟩ = some (.slice la ln lc) ∧ Y.cell? ⟨w.heap.size, 3, none⟩ = some (.int .i64 st) ∧ Y.cell? ⟨w.heap.size, 4, none⟩ = some (.slice pa n pc))) (first | exact HKS5.out _ HUP5.out | exact HKS5.out _ HGa6.out | go_keep)
    ((first
      | (go_at_call 19; refine Calls.mono (HG2.out _ (grown_trans HX5.out.grown HUP5.out)) ?_; rintro e w6 ⟨a6, c6, rfl, ho6, hg6⟩; have HGa6 : Hid (w5.grownBy w6 none) := grown_trans HUP5.out hg6; have HO6 : Hid (w6.ownsRow w.heap.size 49 2 (.slice a6 xB.length c6) xB.length (itsV xB)) := owns_lowJ ho6 (grown_trans HX5.out.grown HUP5.out).size; clear hg6 ho6)
      | fail))
  have HX6 : Hid (PhAt w w6 w.heap.size #[.slice ta tn tc, .slice na nn nc, .slice la ln lc, .int .i64 st, .slice pa n pc]) := HX5.out.kept HGa6.out
  obtain ⟨len6, hl6⟩ : ∃ m, m = xB.length := ⟨_, rfl⟩
  have HL6 : Hid (len6 = xB.length) := hl6
  rw [← hl6] at HO6
  rw [← hl6]
  clear hl6
  obtain ⟨k0, k1, k2, k3, k4⟩ := HX6.out.cells
  go_wp2_with fail
  refine Calls.mono (HG3.out _ HX6.out.grown) ?_
  rintro e w7 ⟨a7, c7, rfl, ho7, hg7⟩
  have HGa7 : Hid (w6.grownBy w7 none) := hg7
  have HO7 : Hid (w7.ownsRow w.heap.size 49 2 (.slice a7 xC.length c7) xC.length (itsV xC)) := owns_lowJ ho7 HX6.out.grown.size
  have HX7 : Hid (PhAt w w7 w.heap.size #[.slice ta tn tc, .slice na nn nc, .slice la ln lc, .int .i64 st, .slice pa n pc]) := HX6.out.kept hg7
  clear hg7 ho7 k0 k1 k2 k3 k4
  obtain ⟨len7, hl7⟩ : ∃ m, m = xC.length := ⟨_, rfl⟩
  have HL7 : Hid (len7 = xC.length) := hl7
  rw [← hl7] at HO7
  rw [← hl7]
  clear hl7
  obtain ⟨i0, hi0, hz0, hz1, hz2⟩ := info_parts infoItem
  have HI2 : Hid (∀ Y, w7.grownBy Y none → ItsAt Y a2 A) := fun Y hY => (ItsAt.of (by have h := HO2.out; rwa [HL2.out] at h)).kept (grown_trans (grown_trans HGa3.out (grown_trans HGa4.out (grown_trans HGa5.out (grown_trans HGa6.out (HGa7.out))))) hY)
  have HN2 : Hid (a2 = none → len2 = 0 ∧ c2 = 0) := own_nil HO2.out
  have HV2 : Hid ((itsV A).length = len2 * 2) := by show _ = _; rw [itsV_length, HL2.out]
  clear HO2
  have HI3 : Hid (∀ Y, w7.grownBy Y none → ItsAt Y a3 B) := fun Y hY => (ItsAt.of (by have h := HO3.out; rwa [HL3.out] at h)).kept (grown_trans (grown_trans HGa4.out (grown_trans HGa5.out (grown_trans HGa6.out (HGa7.out)))) hY)
  have HN3 : Hid (a3 = none → len3 = 0 ∧ c3 = 0) := own_nil HO3.out
  have HV3 : Hid ((itsV B).length = len3 * 2) := by show _ = _; rw [itsV_length, HL3.out]
  clear HO3
  have HI4 : Hid (∀ Y, w7.grownBy Y none → ItsAt Y a4 C) := fun Y hY => (ItsAt.of (by have h := HO4.out; rwa [HL4.out] at h)).kept (grown_trans (grown_trans HGa5.out (grown_trans HGa6.out (HGa7.out))) hY)
  have HN4 : Hid (a4 = none → len4 = 0 ∧ c4 = 0) := own_nil HO4.out
  have HV4 : Hid ((itsV C).length = len4 * 2) := by show _ = _; rw [itsV_length, HL4.out]
  clear HO4
  have HI5 : Hid (∀ Y, w7.grownBy Y none → ItsAt Y a5 xA) := fun Y hY => (ItsAt.of (by have h := HO5.out; rwa [HL5.out] at h)).kept (grown_trans (grown_trans HGa6.out (HGa7.out)) hY)
  have HN5 : Hid (a5 = none → len5 = 0 ∧ c5 = 0) := own_nil HO5.out
  have HV5 : Hid ((itsV xA).length = len5 * 2) := by show _ = _; rw [itsV_length, HL5.out]
  clear HO5
  have HI6 : Hid (∀ Y, w7.grownBy Y none → ItsAt Y a6 xB) := fun Y hY => (ItsAt.of (by have h := HO6.out; rwa [HL6.out] at h)).kept (grown_trans (HGa7.out) hY)
  have HN6 : Hid (a6 = none → len6 = 0 ∧ c6 = 0) := own_nil HO6.out
  have HV6 : Hid ((itsV xB).length = len6 * 2) := by show _ = _; rw [itsV_length, HL6.out]
  clear HO6
  have HI7 : Hid (∀ Y, w7.grownBy Y none → ItsAt Y a7 xC) := fun Y hY => (ItsAt.of (by have h := HO7.out; rwa [HL7.out] at h)).kept (grown_trans (grown_refl _ _) hY)
  have HN7 : Hid (a7 = none → len7 = 0 ∧ c7 = 0) := own_nil HO7.out
  have HV7 : Hid ((itsV xC).length = len7 * 2) := by show _ = _; rw [itsV_length, HL7.out]
  clear HO7
  have HGw7 : Hid (w7.grownBy w7 none) := grown_refl _ _
  have HS2 : Hid (∀ ad, a2 = some ad → ∀ j u, (itsV A)[j]? = some u → w7.cell? (ad.add j) = some u) := fun ad e j u hu => its_cells (HI2.out w7 HGw7.out) ad e j u hu
  have hb2 : len2 + len3 ≤ 8796093062208 := by have h1 := HHAB.out; rw [HL2.out, HL3.out]; exact h1
  go_wp2_with (at_builtin; first | (refine wpList_append_srcW rfl (.tmp 91) (.tmp 92) 40 rfl w7.heap.size 49 i0 (.agg #[.int .i64 0, .int .i64 0]) 2 16 Try.underlying40 hi0 hz0 hz1 hz2 rfl (by decide) (.slice none 0 0) 0 [] rfl (World.ownsRow_nil _ _ _ _) a2 len2 c2 (itsV A) rfl HN2.out HV2.out HS2.out (itsV_one _) (by unfold maxLen; omega) (by omega) (Nat.le_refl _) ?_; intro vw71 w7x ho hg; rw [Nat.zero_add, List.nil_append] at ho; obtain ⟨pw7, qw7, rfl⟩ := owns_slice ho; have HOxw7 : Hid (w7x.ownsRow w7.heap.size 49 2 (.slice pw7 len2 qw7) len2 (itsV A)) := ho; have HGxw7 : Hid (w7.grownBy w7x none) := hg; have HSxw7 : Hid (∀ ad, a3 = some ad → ∀ j u, (itsV B)[j]? = some u → w7x.cell? (ad.add j) = some u) := fun ad e j u hu => its_cells (HI3.out w7x (grown_trans HGw7.out HGxw7.out)) ad e j u hu; clear ho hg) | (refine wpList_append_srcW rfl (.tmp 94) (.tmp 95) 40 rfl w7.heap.size 49 i0 (.agg #[.int .i64 0, .int .i64 0]) 2 16 Try.underlying40 hi0 hz0 hz1 hz2 rfl (by decide) (.slice pw7 len2 qw7) len2 (itsV A) rfl HOxw7.out a3 len3 c3 (itsV B) rfl HN3.out HV3.out HSxw7.out (itsV_one _) (by unfold maxLen; omega) (by omega) HGxw7.out.size ?_; intro vw72 w7y ho hg; rw [← itsV_append] at ho; obtain ⟨rw7, tw7, rfl⟩ := owns_slice ho; have HOyw7 : Hid (w7y.ownsRow w7.heap.size 49 2 (.slice rw7 (len2 + len3) tw7) (len2 + len3) (itsV (A ++ B))) := ho; have HGyw7 : Hid (w7.grownBy w7y none) := grown_owned HGxw7.out HOxw7.out (Nat.le_refl _) hg; clear ho hg) | fail)
  have hlen2 : (A ++ B).length = len2 + len3 := by rw [List.length_append, HL2.out, HL3.out]
  have HLAw7 := show Hid _ from laid_any rw7 tw7 (A ++ B) w7y (ItsAt.of (by rw [hlen2]; exact HOyw7.out)) (by rw [hlen2]; exact hb2)
  rw [hlen2] at HLAw7
  clear hlen2
  refine Calls.mono HLAw7.out ?_
  rintro e w7z ⟨l', h1, h2, h3, uw7, ow7, rfl, ho, hg⟩
  have hlC := HS1.out l' h1 h2
  rw [hlC] at ho
  rw [hlC, ← HL4.out]
  have HGzw7 : Hid (w7.grownBy w7z none) := grown_trans HGw7.out (grown_trans HGyw7.out hg)
  have HSMw7 := show Hid _ from sameItems_any uw7 a4 ow7 c4 C C w7z (ItsAt.of ho) (HI4.out w7z HGzw7.out) (by have h1 := HB4.out; omega) (by have h1 := HB4.out; omega) true ⟨fun _ => rfl, fun _ => rfl⟩
  rw [← HL4.out] at HSMw7
  clear l' h1 h2 h3 hlC ho hg
  go_wp2_with fail
  refine Calls.mono HSMw7.out ?_
  rintro e w7n ⟨rfl, hg⟩
  have HGw7n : Hid (w7.grownBy w7n none) := grown_trans HGzw7.out hg
  clear hg HSMw7 HLAw7 HOxw7 HOyw7 HSxw7 HGxw7 HGyw7 HGzw7
  go_wp2_with fail
  go_ret
  exact ⟨rfl, grown_trans HX7.out.grown HGw7n.out⟩

set_option maxRecDepth 100000 in
set_option maxHeartbeats 4000000 in
theorem sums_okbadZ (ta na la pa : Option Addr) (tc nc lc pc : Nat) (n : Nat) (st : Int) (w : World) (tn nn ln : Nat) (s : Int) (aZ : Option Addr) (A B C xA xB xC : List It) (hAB : A.length + B.length ≤ 8796093062208) (hCl : C.length ≤ 8796093062208) (hS1 : ∀ l', Asc l' → (∀ x, x ∈ l' ↔ x ∈ A ++ B) → l' = C) 
    (hC1 : ∀ X, w.grownBy X none → Calls Try.prog 17 #[.agg #[.slice ta tn tc, .slice na nn nc, .slice la ln lc, .int .i64 st, .slice pa n pc], .slice aZ 0 0] X fun e y => ItsErr A 0 X e y)
    (hC2 : ∀ X, w.grownBy X none → Calls Try.prog 17 #[.agg #[.slice ta tn tc, .slice na nn nc, .slice la ln lc, .int .i64 st, .slice pa n pc], .slice aZ 0 0] X fun e y => ItsErr B 0 X e y)
    (hC3 : ∀ X, w.grownBy X none → Calls Try.prog 17 #[.agg #[.slice ta tn tc, .slice na nn nc, .slice la ln lc, .int .i64 st, .slice pa n pc], .slice aZ 0 0] X fun e y => ItsErr C 0 X e y)
    (hG1 : ∀ X, w.grownBy X none → Calls Try.prog 19 #[.agg #[.slice ta tn tc, .slice na nn nc, .slice la ln lc, .int .i64 st, .slice pa n pc], .int .i64 s, .slice aZ 0 0] X fun e y => ItsErr xA 1 X e y)
    (hG2 : ∀ X, w.grownBy X none → Calls Try.prog 19 #[.agg #[.slice ta tn tc, .slice na nn nc, .slice la ln lc, .int .i64 st, .slice pa n pc], .int .i64 s, .slice aZ 0 0] X fun e y => ItsErr xB 1 X e y)
    (hG3 : ∀ X, w.grownBy X none → Calls Try.prog 19 #[.agg #[.slice ta tn tc, .slice na nn nc, .slice la ln lc, .int .i64 st, .slice pa n pc], .int .i64 s, .slice aZ 0 0] X fun e y => ItsErr xC 1 X e y) :
    Calls Try.prog 8 #[.agg #[.slice ta tn tc, .slice na nn nc, .slice la ln lc, .int .i64 st, .slice pa n pc], .int .i64 s, .slice aZ 0 0] w fun e w' => e = .returned (.bool true) ∧ w.grownBy w' none := by
  have HHAB : Hid (A.length + B.length ≤ 8796093062208) := hAB
  have HB4 : Hid (C.length ≤ 8796093062208) := hCl
  have HS1 := show Hid _ from hS1
  clear hAB hCl hS1
  have HC1 := show Hid _ from hC1
  have HC2 := show Hid _ from hC2
  have HC3 := show Hid _ from hC3
  have HG1 := show Hid _ from hG1
  have HG2 := show Hid _ from hG2
  have HG3 := show Hid _ from hG3
  have HX0 : Hid (PhAt w (w.alloc (.cells #[.slice ta tn tc, .slice na nn nc, .slice la ln lc, .int .i64 st, .slice pa n pc] 27)) w.heap.size #[.slice ta tn tc, .slice na nn nc, .slice la ln lc, .int .i64 st, .slice pa n pc]) := ⟨World.grownBy_alloc _ _ none, heap_alloc_last w _⟩
  clear hC1 hC2 hC3 hG1 hG2 hG3
  go_enter Try.func8, Try.ntmps8
  go_wp2_with fail
  refine Calls.mono (awake_any _) ?_
  rintro e w1 ⟨rfl, hg1⟩
  have HX1 : Hid (PhAt w w1 w.heap.size #[.slice ta tn tc, .slice na nn nc, .slice la ln lc, .int .i64 st, .slice pa n pc]) := HX0.out.kept hg1
  clear hg1 HX0
  have HUP1 : Hid (w1.grownBy w1.drew none) := grown_drewN _ 1
  have HKS1 : Hid (∀ Y, w1.grownBy Y none → (Y.cell? ⟨w.heap.size, 0, none⟩ = some (.slice ta tn tc) ∧ Y.cell? ⟨w.heap.size, 1, none⟩ = some (.slice na nn nc) ∧ Y.cell? ⟨w.heap.size, 2, none⟩ = some (.slice la ln lc) ∧ Y.cell? ⟨w.heap.size, 3, none⟩ = some (.int .i64 st) ∧ Y.cell? ⟨w.heap.size, 4, none⟩ = some (.slice pa n pc))) := fun Y hY => (HX1.out.kept hY).cells
  go_wp2_with fail
  go_region_held3 (fun Y => (Y.cell? ⟨w.heap.size, 0, none⟩ = some (.slice ta tn tc) ∧ Y.cell? ⟨w.heap.size, 1, none⟩ = some (.slice na nn nc) ∧ Y.cell? ⟨w.heap.size, 2, none⟩ = some (.slice la ln lc) ∧ Y.cell? ⟨w.heap.size, 3, none⟩ = some (.int .i64 st) ∧ Y.cell? ⟨w.heap.size, 4, none⟩ = some (.slice pa n pc))) (first | exact HKS1.out _ HUP1.out | exact HKS1.out _ HGa2.out | go_keep)
    ((first
      | (go_at_call 17; refine Calls.mono (HC1.out _ (grown_trans HX1.out.grown HUP1.out)) ?_; rintro e w2 ⟨a2, c2, rfl, ho2, hg2⟩; have HGa2 : Hid (w1.grownBy w2 none) := grown_trans HUP1.out hg2; have HO2 : Hid (w2.ownsRow w.heap.size 49 2 (.slice a2 A.length c2) A.length (itsV A)) := owns_lowJ ho2 (grown_trans HX1.out.grown HUP1.out).size; clear hg2 ho2)
      | fail))
  have HX2 : Hid (PhAt w w2 w.heap.size #[.slice ta tn tc, .slice na nn nc, .slice la ln lc, .int .i64 st, .slice pa n pc]) := HX1.out.kept HGa2.out
  obtain ⟨len2, hl2⟩ : ∃ m, m = A.length := ⟨_, rfl⟩
  have HL2 : Hid (len2 = A.length) := hl2
  rw [← hl2] at HO2
  rw [← hl2]
  clear hl2
  have HUP2 : Hid (w2.grownBy w2.drew none) := grown_drewN _ 1
  have HKS2 : Hid (∀ Y, w2.grownBy Y none → (Y.cell? ⟨w.heap.size, 0, none⟩ = some (.slice ta tn tc) ∧ Y.cell? ⟨w.heap.size, 1, none⟩ = some (.slice na nn nc) ∧ Y.cell? ⟨w.heap.size, 2, none⟩ = some (.slice la ln lc) ∧ Y.cell? ⟨w.heap.size, 3, none⟩ = some (.int .i64 st) ∧ Y.cell? ⟨w.heap.size, 4, none⟩ = some (.slice pa n pc))) := fun Y hY => (HX2.out.kept hY).cells
  go_wp2_with fail
  go_region_held3 (fun Y => (Y.cell? ⟨w.heap.size, 0, none⟩ = some (.slice ta tn tc) ∧ Y.cell? ⟨w.heap.size, 1, none⟩ = some (.slice na nn nc) ∧ Y.cell? ⟨w.heap.size, 2, none⟩ = some (.slice la ln lc) ∧ Y.cell? ⟨w.heap.size, 3, none⟩ = some (.int .i64 st) ∧ Y.cell? ⟨w.heap.size, 4, none⟩ = some (.slice pa n pc))) (first | exact HKS2.out _ HUP2.out | exact HKS2.out _ HGa3.out | go_keep)
    ((first
      | (go_at_call 17; refine Calls.mono (HC2.out _ (grown_trans HX2.out.grown HUP2.out)) ?_; rintro e w3 ⟨a3, c3, rfl, ho3, hg3⟩; have HGa3 : Hid (w2.grownBy w3 none) := grown_trans HUP2.out hg3; have HO3 : Hid (w3.ownsRow w.heap.size 49 2 (.slice a3 B.length c3) B.length (itsV B)) := owns_lowJ ho3 (grown_trans HX2.out.grown HUP2.out).size; clear hg3 ho3)
      | fail))
  have HX3 : Hid (PhAt w w3 w.heap.size #[.slice ta tn tc, .slice na nn nc, .slice la ln lc, .int .i64 st, .slice pa n pc]) := HX2.out.kept HGa3.out
  obtain ⟨len3, hl3⟩ : ∃ m, m = B.length := ⟨_, rfl⟩
  have HL3 : Hid (len3 = B.length) := hl3
  rw [← hl3] at HO3
  rw [← hl3]
  clear hl3
  obtain ⟨k0, k1, k2, k3, k4⟩ := HX3.out.cells
  go_wp2_with fail
  refine Calls.mono (HC3.out _ HX3.out.grown) ?_
  rintro e w4 ⟨a4, c4, rfl, ho4, hg4⟩
  have HGa4 : Hid (w3.grownBy w4 none) := hg4
  have HO4 : Hid (w4.ownsRow w.heap.size 49 2 (.slice a4 C.length c4) C.length (itsV C)) := owns_lowJ ho4 HX3.out.grown.size
  have HX4 : Hid (PhAt w w4 w.heap.size #[.slice ta tn tc, .slice na nn nc, .slice la ln lc, .int .i64 st, .slice pa n pc]) := HX3.out.kept hg4
  clear hg4 ho4 k0 k1 k2 k3 k4
  obtain ⟨len4, hl4⟩ : ∃ m, m = C.length := ⟨_, rfl⟩
  have HL4 : Hid (len4 = C.length) := hl4
  rw [← hl4] at HO4
  rw [← hl4]
  clear hl4
  have HUP4 : Hid (w4.grownBy w4.drew none) := grown_drewN _ 1
  have HKS4 : Hid (∀ Y, w4.grownBy Y none → (Y.cell? ⟨w.heap.size, 0, none⟩ = some (.slice ta tn tc) ∧ Y.cell? ⟨w.heap.size, 1, none⟩ = some (.slice na nn nc) ∧ Y.cell? ⟨w.heap.size, 2, none⟩ = some (.slice la ln lc) ∧ Y.cell? ⟨w.heap.size, 3, none⟩ = some (.int .i64 st) ∧ Y.cell? ⟨w.heap.size, 4, none⟩ = some (.slice pa n pc))) := fun Y hY => (HX4.out.kept hY).cells
  go_wp2_with fail
  go_region_held3 (fun Y => (Y.cell? ⟨w.heap.size, 0, none⟩ = some (.slice ta tn tc) ∧ Y.cell? ⟨w.heap.size, 1, none⟩ = some (.slice na nn nc) ∧ Y.cell? ⟨w.heap.size, 2, none⟩ = some (.slice la ln lc) ∧ Y.cell? ⟨w.heap.size, 3, none⟩ = some (.int .i64 st) ∧ Y.cell? ⟨w.heap.size, 4, none⟩ = some (.slice pa n pc))) (first | exact HKS4.out _ HUP4.out | exact HKS4.out _ HGa5.out | go_keep)
    ((first
      | (go_at_call 19; refine Calls.mono (HG1.out _ (grown_trans HX4.out.grown HUP4.out)) ?_; rintro e w5 ⟨a5, c5, rfl, ho5, hg5⟩; have HGa5 : Hid (w4.grownBy w5 none) := grown_trans HUP4.out hg5; have HO5 : Hid (w5.ownsRow w.heap.size 49 2 (.slice a5 xA.length c5) xA.length (itsV xA)) := owns_lowJ ho5 (grown_trans HX4.out.grown HUP4.out).size; clear hg5 ho5)
      | fail))
  have HX5 : Hid (PhAt w w5 w.heap.size #[.slice ta tn tc, .slice na nn nc, .slice la ln lc, .int .i64 st, .slice pa n pc]) := HX4.out.kept HGa5.out
  obtain ⟨len5, hl5⟩ : ∃ m, m = xA.length := ⟨_, rfl⟩
  have HL5 : Hid (len5 = xA.length) := hl5
  rw [← hl5] at HO5
  rw [← hl5]
  clear hl5
  have HUP5 : Hid (w5.grownBy w5.drew none) := grown_drewN _ 1
  have HKS5 : Hid (∀ Y, w5.grownBy Y none → (Y.cell? ⟨w.heap.size, 0, none⟩ = some (.slice ta tn tc) ∧ Y.cell? ⟨w.heap.size, 1, none⟩ = some (.slice na nn nc) ∧ Y.cell? ⟨w.heap.size, 2, none⟩ = some (.slice la ln lc) ∧ Y.cell? ⟨w.heap.size, 3, none⟩ = some (.int .i64 st) ∧ Y.cell? ⟨w.heap.size, 4, none⟩ = some (.slice pa n pc))) := fun Y hY => (HX5.out.kept hY).cells
  go_wp2_with fail
  go_region_held3 (fun Y => (Y.cell? ⟨w.heap.size, 0, none⟩ = some (.slice ta tn tc) ∧ Y.cell? ⟨w.heap.size, 1, none⟩ = some (.slice na nn nc) ∧ Y.cell? ⟨w.heap.size, 2, none⟩ = some (.slice la ln lc) ∧ Y.cell? ⟨w.heap.size, 3, none⟩ = some (.int .i64 st) ∧ Y.cell? ⟨w.heap.size, 4, none⟩ = some (.slice pa n pc))) (first | exact HKS5.out _ HUP5.out | exact HKS5.out _ HGa6.out | go_keep)
    ((first
      | (go_at_call 19; refine Calls.mono (HG2.out _ (grown_trans HX5.out.grown HUP5.out)) ?_; rintro e w6 ⟨a6, c6, rfl, ho6, hg6⟩; have HGa6 : Hid (w5.grownBy w6 none) := grown_trans HUP5.out hg6; have HO6 : Hid (w6.ownsRow w.heap.size 49 2 (.slice a6 xB.length c6) xB.length (itsV xB)) := owns_lowJ ho6 (grown_trans HX5.out.grown HUP5.out).size; clear hg6 ho6)
      | fail))
  have HX6 : Hid (PhAt w w6 w.heap.size #[.slice ta tn tc, .slice na nn nc, .slice la ln lc, .int .i64 st, .slice pa n pc]) := HX5.out.kept HGa6.out
  obtain ⟨len6, hl6⟩ : ∃ m, m = xB.length := ⟨_, rfl⟩
  have HL6 : Hid (len6 = xB.length) := hl6
  rw [← hl6] at HO6
  rw [← hl6]
  clear hl6
  obtain ⟨k0, k1, k2, k3, k4⟩ := HX6.out.cells
  go_wp2_with fail
  refine Calls.mono (HG3.out _ HX6.out.grown) ?_
  rintro e w7 ⟨a7, c7, rfl, ho7, hg7⟩
  have HGa7 : Hid (w6.grownBy w7 none) := hg7
  have HO7 : Hid (w7.ownsRow w.heap.size 49 2 (.slice a7 xC.length c7) xC.length (itsV xC)) := owns_lowJ ho7 HX6.out.grown.size
  have HX7 : Hid (PhAt w w7 w.heap.size #[.slice ta tn tc, .slice na nn nc, .slice la ln lc, .int .i64 st, .slice pa n pc]) := HX6.out.kept hg7
  clear hg7 ho7 k0 k1 k2 k3 k4
  obtain ⟨len7, hl7⟩ : ∃ m, m = xC.length := ⟨_, rfl⟩
  have HL7 : Hid (len7 = xC.length) := hl7
  rw [← hl7] at HO7
  rw [← hl7]
  clear hl7
  obtain ⟨i0, hi0, hz0, hz1, hz2⟩ := info_parts infoItem
  have HI2 : Hid (∀ Y, w7.grownBy Y none → ItsAt Y a2 A) := fun Y hY => (ItsAt.of (by have h := HO2.out; rwa [HL2.out] at h)).kept (grown_trans (grown_trans HGa3.out (grown_trans HGa4.out (grown_trans HGa5.out (grown_trans HGa6.out (HGa7.out))))) hY)
  have HN2 : Hid (a2 = none → len2 = 0 ∧ c2 = 0) := own_nil HO2.out
  have HV2 : Hid ((itsV A).length = len2 * 2) := by show _ = _; rw [itsV_length, HL2.out]
  clear HO2
  have HI3 : Hid (∀ Y, w7.grownBy Y none → ItsAt Y a3 B) := fun Y hY => (ItsAt.of (by have h := HO3.out; rwa [HL3.out] at h)).kept (grown_trans (grown_trans HGa4.out (grown_trans HGa5.out (grown_trans HGa6.out (HGa7.out)))) hY)
  have HN3 : Hid (a3 = none → len3 = 0 ∧ c3 = 0) := own_nil HO3.out
  have HV3 : Hid ((itsV B).length = len3 * 2) := by show _ = _; rw [itsV_length, HL3.out]
  clear HO3
  have HI4 : Hid (∀ Y, w7.grownBy Y none → ItsAt Y a4 C) := fun Y hY => (ItsAt.of (by have h := HO4.out; rwa [HL4.out] at h)).kept (grown_trans (grown_trans HGa5.out (grown_trans HGa6.out (HGa7.out))) hY)
  have HN4 : Hid (a4 = none → len4 = 0 ∧ c4 = 0) := own_nil HO4.out
  have HV4 : Hid ((itsV C).length = len4 * 2) := by show _ = _; rw [itsV_length, HL4.out]
  clear HO4
  have HI5 : Hid (∀ Y, w7.grownBy Y none → ItsAt Y a5 xA) := fun Y hY => (ItsAt.of (by have h := HO5.out; rwa [HL5.out] at h)).kept (grown_trans (grown_trans HGa6.out (HGa7.out)) hY)
  have HN5 : Hid (a5 = none → len5 = 0 ∧ c5 = 0) := own_nil HO5.out
  have HV5 : Hid ((itsV xA).length = len5 * 2) := by show _ = _; rw [itsV_length, HL5.out]
  clear HO5
  have HI6 : Hid (∀ Y, w7.grownBy Y none → ItsAt Y a6 xB) := fun Y hY => (ItsAt.of (by have h := HO6.out; rwa [HL6.out] at h)).kept (grown_trans (HGa7.out) hY)
  have HN6 : Hid (a6 = none → len6 = 0 ∧ c6 = 0) := own_nil HO6.out
  have HV6 : Hid ((itsV xB).length = len6 * 2) := by show _ = _; rw [itsV_length, HL6.out]
  clear HO6
  have HI7 : Hid (∀ Y, w7.grownBy Y none → ItsAt Y a7 xC) := fun Y hY => (ItsAt.of (by have h := HO7.out; rwa [HL7.out] at h)).kept (grown_trans (grown_refl _ _) hY)
  have HN7 : Hid (a7 = none → len7 = 0 ∧ c7 = 0) := own_nil HO7.out
  have HV7 : Hid ((itsV xC).length = len7 * 2) := by show _ = _; rw [itsV_length, HL7.out]
  clear HO7
  have HGw7 : Hid (w7.grownBy w7 none) := grown_refl _ _
  have HS2 : Hid (∀ ad, a2 = some ad → ∀ j u, (itsV A)[j]? = some u → w7.cell? (ad.add j) = some u) := fun ad e j u hu => its_cells (HI2.out w7 HGw7.out) ad e j u hu
  have hb2 : len2 + len3 ≤ 8796093062208 := by have h1 := HHAB.out; rw [HL2.out, HL3.out]; exact h1
  go_wp2_with (at_builtin; first | (refine wpList_append_srcW rfl (.tmp 91) (.tmp 92) 40 rfl w7.heap.size 49 i0 (.agg #[.int .i64 0, .int .i64 0]) 2 16 Try.underlying40 hi0 hz0 hz1 hz2 rfl (by decide) (.slice none 0 0) 0 [] rfl (World.ownsRow_nil _ _ _ _) a2 len2 c2 (itsV A) rfl HN2.out HV2.out HS2.out (itsV_one _) (by unfold maxLen; omega) (by omega) (Nat.le_refl _) ?_; intro vw71 w7x ho hg; rw [Nat.zero_add, List.nil_append] at ho; obtain ⟨pw7, qw7, rfl⟩ := owns_slice ho; have HOxw7 : Hid (w7x.ownsRow w7.heap.size 49 2 (.slice pw7 len2 qw7) len2 (itsV A)) := ho; have HGxw7 : Hid (w7.grownBy w7x none) := hg; have HSxw7 : Hid (∀ ad, a3 = some ad → ∀ j u, (itsV B)[j]? = some u → w7x.cell? (ad.add j) = some u) := fun ad e j u hu => its_cells (HI3.out w7x (grown_trans HGw7.out HGxw7.out)) ad e j u hu; clear ho hg) | (refine wpList_append_srcW rfl (.tmp 94) (.tmp 95) 40 rfl w7.heap.size 49 i0 (.agg #[.int .i64 0, .int .i64 0]) 2 16 Try.underlying40 hi0 hz0 hz1 hz2 rfl (by decide) (.slice pw7 len2 qw7) len2 (itsV A) rfl HOxw7.out a3 len3 c3 (itsV B) rfl HN3.out HV3.out HSxw7.out (itsV_one _) (by unfold maxLen; omega) (by omega) HGxw7.out.size ?_; intro vw72 w7y ho hg; rw [← itsV_append] at ho; obtain ⟨rw7, tw7, rfl⟩ := owns_slice ho; have HOyw7 : Hid (w7y.ownsRow w7.heap.size 49 2 (.slice rw7 (len2 + len3) tw7) (len2 + len3) (itsV (A ++ B))) := ho; have HGyw7 : Hid (w7.grownBy w7y none) := grown_owned HGxw7.out HOxw7.out (Nat.le_refl _) hg; clear ho hg) | fail)
  have hlen2 : (A ++ B).length = len2 + len3 := by rw [List.length_append, HL2.out, HL3.out]
  have HLAw7 := show Hid _ from laid_any rw7 tw7 (A ++ B) w7y (ItsAt.of (by rw [hlen2]; exact HOyw7.out)) (by rw [hlen2]; exact hb2)
  rw [hlen2] at HLAw7
  clear hlen2
  refine Calls.mono HLAw7.out ?_
  rintro e w7z ⟨l', h1, h2, h3, uw7, ow7, rfl, ho, hg⟩
  have hlC := HS1.out l' h1 h2
  rw [hlC] at ho
  rw [hlC, ← HL4.out]
  have HGzw7 : Hid (w7.grownBy w7z none) := grown_trans HGw7.out (grown_trans HGyw7.out hg)
  have HSMw7 := show Hid _ from sameItems_any uw7 a4 ow7 c4 C C w7z (ItsAt.of ho) (HI4.out w7z HGzw7.out) (by have h1 := HB4.out; omega) (by have h1 := HB4.out; omega) true ⟨fun _ => rfl, fun _ => rfl⟩
  rw [← HL4.out] at HSMw7
  clear l' h1 h2 h3 hlC ho hg
  go_wp2_with fail
  refine Calls.mono HSMw7.out ?_
  rintro e w7n ⟨rfl, hg⟩
  have HGw7n : Hid (w7.grownBy w7n none) := grown_trans HGzw7.out hg
  clear hg HSMw7 HLAw7 HOxw7 HOyw7 HSxw7 HGxw7 HGyw7 HGzw7
  go_wp2_with fail
  go_ret
  exact ⟨rfl, grown_trans HX7.out.grown HGw7n.out⟩

end Go.Proofs.Ytfjbgnmmlppmeaa.J
