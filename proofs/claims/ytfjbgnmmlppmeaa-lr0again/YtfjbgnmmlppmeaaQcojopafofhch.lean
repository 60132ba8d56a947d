import Derived.Test.YtfjbgnmmlppmeaaRows
import Derived.Test.YtfjbgnmmlppmeaaQalokglbohekc
import Derived.Test.YtfjbgnmmlppmeaaQdpeiipffgnaf
import Derived.Test.YtfjbgnmmlppmeaaQemlbcdinppdh

/-
  lr0: what the laws' theorems share.
-/
namespace Go.Proofs.Ytfjbgnmmlppmeaa.J
open Go.ChangeShapes Go.WideShapes Go.ChangeAt Go.RowKit Go.Deep

theorem own : ownKnob Try.prog.godebug = none := by kernel_rfl
theorem laidOut : laidOutB Try.prog = true := by kernel_rfl
theorem bytesItem : Try.prog.bytesOf 49 = 16 := by kernel_rfl

section
variable {H : Type} {enc : TypeId × Value → H} {W : World} {fuel : Nat} {cs : List Value} {x : DataW H × List MemPlace}

set_option maxRecDepth 100000 in
theorem open_its_in (h : DataW.trod enc Try.prog W 0 (fun _ => true) true fuel 40 cs = some x) (hw : ∀ n ∈ x.1.weights Try.prog 40, n ≤ reachBytes) :
    ∃ (a : Option Addr) (l : List It) (c : Nat), cs = [.slice a l.length c] ∧ ItsAt W a l ∧ l.length ≤ 8796093022208 ∧ l.length ≤ c ∧ (a = none → l.length = 0 ∧ c = 0) ∧ ∀ t ∈ l, I64 t := by
  rcases open_slice Try.underlying40 h with ⟨hcs, _⟩ | ⟨ad, len, cap, m, n, D, Pl, hcs, _, hl, hm, hmm, hx, heach⟩
  · exact ⟨none, [], 0, hcs, .inl rfl, by decide, Nat.le_refl _, fun _ => ⟨rfl, rfl⟩, by simp⟩
  · simp only [if_true] at hmm
    subst hx
    rw [cellsItem] at heach
    have hlen : len ≤ 8796093022208 := by
      have := hw (((List.range len).map D).length * 16 + ((List.range (m - len)).map fun j => D (len + j)).length * 16) (by simp [DataW.weights, Try.underlying40, bytesItem, Nat.add_mul])
      simp only [List.length_map, List.length_range, reachBytes] at this
      omega
    have each : ∀ i, i < len → ∃ t : It, ∃ b off, ad = ⟨b, off, none⟩ ∧ W.cell? ⟨b, off + i * 2, none⟩ = some (.int .i64 t.1) ∧ W.cell? ⟨b, off + i * 2 + 1, none⟩ = some (.int .i64 t.2) ∧ I64 t := by
      intro i hi
      obtain ⟨cs', h1, h2⟩ := heach i (by omega)
      obtain ⟨_, hcl, hcell⟩ := World.cells?_some h1
      obtain ⟨xs, k, hk, hxy, _, hxl, hfs⟩ := DataW.trod_struct Try.underlying49 h2
      match xs, hxl, cs', hcl with
      | [y0, y1], _, [v0, v1], _ =>
        have g0 := hfs 0 _ rfl
        have g1 := hfs 1 _ rfl
        simp [cellsInt] at g0 g1
        obtain ⟨s0, e0, _, w0⟩ := DataW.trod_int Try.underlying3 g0
        obtain ⟨z1, e1, _, w1⟩ := DataW.trod_int Try.underlying3 g1
        simp only [List.cons.injEq, and_true] at e0 e1
        subst e0 e1
        have c0 := hcell 0 (by omega)
        have c1 := hcell 1 (by omega)
        rw [Deep.add_add] at c0 c1
        obtain ⟨b, off, spot⟩ := ad
        have hs : spot = none := by
          obtain ⟨cs0, h10, _⟩ := heach 0 (by omega)
          obtain ⟨_, hcl0, hcell0⟩ := World.cells?_some h10
          have q0 := hcell0 0 (by omega)
          rw [List.getElem?_eq_getElem (by omega)] at q0
          simpa [Addr.add] using World.cell?_spot q0
        subst hs
        rw [add_plain] at c0 c1
        exact ⟨(s0, z1), b, off, rfl, by simpa using c0, by simpa [Nat.add_assoc] using c1, w0, w1⟩
    obtain ⟨S, hS⟩ := choose_lt (α := It) each
    have hg : ∀ i, i < len → ((List.range len).map S).getD i (0, 0) = S i := fun i hi => by simp [List.getD, hi]
    refine ⟨some ad, (List.range len).map S, cap, by simpa using hcs, ?_, by simpa using hlen, by simpa using hl, fun h => (by cases h), fun t ht => ?_⟩
    · by_cases h0 : len = 0
      · subst h0; exact .inl (by simp)
      · obtain ⟨b, off, rfl, _⟩ := hS 0 (by omega)
        refine .inr ⟨b, off, rfl, fun i hi => ?_⟩
        have hi' : i < len := by simpa using hi
        obtain ⟨b', off', e, r1, r2, _⟩ := hS i hi'
        simp only [Addr.mk.injEq, and_true] at e
        obtain ⟨rfl, rfl⟩ := e
        rw [hg i hi']
        exact ⟨r1, r2⟩
    · obtain ⟨i, hi, rfl⟩ := List.mem_map.1 ht
      obtain ⟨_, _, _, _, _, hwf⟩ := hS i (by simpa using hi)
      exact hwf

end

set_option maxRecDepth 100000 in
theorem open_int {H : Type} {enc : TypeId × Value → H} {W : World} {base : Nat} {v : Value} {d : DataW H} {p : List MemPlace} (hv : Value.okWide Try.prog W .any base 3 v) (h : DataW.Trod enc Try.prog W 0 (fun _ => true) true 3 v d p) : ∃ z, v = .int .i64 z ∧ (Lit.int .i64 z).wf = true := by
  obtain ⟨z, rfl⟩ := okWide_int Try.underlying3 hv
  obtain ⟨fuel, hf⟩ := h
  have hf' : DataW.trod enc Try.prog W 0 (fun _ => true) true fuel 3 [.int .i64 z] = some (d, p) := hf
  obtain ⟨z', e, h2⟩ := DataW.trod_int Try.underlying3 hf'
  simp only [List.cons.injEq, Value.int.injEq, and_true, true_and] at e
  subst e
  exact ⟨z, rfl, h2.2⟩

set_option maxRecDepth 100000 in
theorem open_its {H : Type} {enc : TypeId × Value → H} {W : World} {base : Nat} {v : Value} {d : DataW H} {p : List MemPlace} (hv : Value.okWide Try.prog W .any base 40 v) (h : DataW.Trod enc Try.prog W 0 (fun _ => true) true 40 v d p) (hw : ∀ n ∈ d.weights Try.prog 40, n ≤ reachBytes) : ∃ a l c, v = .slice a (List.length l) c ∧ ItsAt W a l ∧ l.length ≤ 8796093022208 ∧ l.length ≤ c ∧ (a = none → l.length = 0 ∧ c = 0) ∧ ∀ t ∈ l, I64 t := by
  obtain ⟨a, len, cap, rfl⟩ := okWide_slice Try.underlying40 hv
  obtain ⟨fuel, hf⟩ := h
  have hf' : DataW.trod enc Try.prog W 0 (fun _ => true) true fuel 40 [.slice a len cap] = some (d, p) := hf
  obtain ⟨a', l, c, e, hI, hl⟩ := open_its_in hf' hw
  simp only [List.cons.injEq, Value.slice.injEq, and_true] at e
  obtain ⟨rfl, rfl, rfl⟩ := e
  exact ⟨a, l, cap, rfl, hI, hl⟩

end Go.Proofs.Ytfjbgnmmlppmeaa.J

/-
  lr0: the law Lr0Again.
-/
namespace Go.Proofs.Ytfjbgnmmlppmeaa.J
open Go.RowKit Go.Maps Go.Shelf

attribute [local go_sem] Oper.semAt_some

theorem isClo_idem {tn n : Nat} {L : Nat → Int} {R : Nat → List Int} {I l : List It} (h : IsClo tn n L R I l) : IsClo tn n L R l l :=
  ⟨h.asc, fun _ => ⟨fun hx => Clo.base hx, fun hc => hc (fun y => y ∈ l) (fun _ hy => hy) fun y _ hy ht hk hk2 => (h.mem _).2 (((h.mem y).1 hy).step ht hk hk2)⟩⟩
theorem isClo_base {tn n : Nat} {L : Nat → Int} {R : Nat → List Int} {I l : List It} (h : IsClo tn n L R I l) {x : It} (hx : x ∈ I) : x ∈ l := (h.mem x).2 (Clo.base hx)
theorem own_nil {X : World} {B e s n c : Nat} {a : Option Addr} {xs : List Value} (h : X.ownsRow B e s (.slice a n c) n xs) : a = none → n = 0 ∧ c = 0 := fun e => by
  rcases h.2 with ⟨h1, h2⟩ | ⟨g, cap, cur, h1, _⟩
  · simp only [Value.slice.injEq] at h1
    exact ⟨h2, h1.2.2⟩
  · simp only [Value.slice.injEq] at h1
    rw [e] at h1
    cases h1.1
theorem ItsAt.cellAt {X : World} {a : Option Addr} {l : List It} (h : ItsAt X a l) {i : Nat} (hi : i < l.length) : ∃ b off, a = some ⟨b, off, none⟩ ∧ X.cell? ⟨b, off + i * 2, none⟩ = some (.int .i64 (l.getD i (0, 0)).1) ∧ X.cell? ⟨b, off + i * 2 + 1, none⟩ = some (.int .i64 (l.getD i (0, 0)).2) := by
  rcases h with h | ⟨b, off, e, h⟩
  · rw [h] at hi; cases hi
  · exact ⟨b, off, e, h i hi⟩
theorem getD_memI {l : List It} {j : Nat} (h : j < l.length) : l.getD j (0, 0) ∈ l := by
  rw [List.getD_eq_getElem?_getD, List.getElem?_eq_getElem h]; exact List.getElem_mem h
theorem mem_take_succ {l : List It} {j : Nat} (h : j < l.length) (x : It) : x ∈ l.take (j + 1) ↔ x ∈ l.take j ∨ l.getD j (0, 0) = x := by
  rw [take_at h, List.mem_append, List.mem_singleton]
  exact ⟨fun h1 => h1.elim .inl fun h2 => .inr h2.symm, fun h1 => h1.elim .inl fun h2 => .inr h2.symm⟩
theorem asc_at {l : List It} (h : Asc l) {j : Nat} (hj : j + 1 < l.length) : ltI (l.getD j (0, 0)) (l.getD (j + 1) (0, 0)) := by
  have h1 := List.pairwise_iff_getElem.1 h j (j + 1) (by omega) hj (Nat.lt_succ_self _)
  rw [List.getD_eq_getElem?_getD, List.getD_eq_getElem?_getD, List.getElem?_eq_getElem (by omega), List.getElem?_eq_getElem hj]
  exact h1

section
variable (ta na la pa : Option Addr) (tc nc lc pc : Nat) (n : Nat) (L : Nat → Int) (R : Nat → List Int) (st : Int) (w : World) (tn nn ln : Nat) (a : Option Addr) (cap : Nat) (I : List It) (s : Int)

set_option maxRecDepth 100000 in
set_option maxHeartbeats 2000000 in
theorem again_bad
    (hCL : ∀ X, w.grownBy X none → Calls Try.prog 17 #[.agg #[.slice ta tn tc, .slice na nn nc, .slice la ln lc, .int .i64 st, .slice pa n pc], .slice a I.length cap] X fun e y => ItsErr [] 1 X e y)
    (hGO : ∀ X, w.grownBy X none → Calls Try.prog 19 #[.agg #[.slice ta tn tc, .slice na nn nc, .slice la ln lc, .int .i64 st, .slice pa n pc], .int .i64 s, .slice a I.length cap] X fun e y => ItsErr [] 1 X e y) :
    Calls Try.prog 7 #[.agg #[.slice ta tn tc, .slice na nn nc, .slice la ln lc, .int .i64 st, .slice pa n pc], .int .i64 s, .slice a I.length cap] w fun e w' => e = .returned (.bool true) ∧ w.grownBy w' none := by
  have HCL := show Hid _ from hCL
  have HGO := show Hid _ from hGO
  have HX0 : Hid (PhAt w (w.alloc (.cells #[.slice ta tn tc, .slice na nn nc, .slice la ln lc, .int .i64 st, .slice pa n pc] 27)) w.heap.size #[.slice ta tn tc, .slice na nn nc, .slice la ln lc, .int .i64 st, .slice pa n pc]) := ⟨World.grownBy_alloc _ _ none, heap_alloc_last w _⟩
  obtain ⟨N, hN⟩ : ∃ n, n = I.length := ⟨_, rfl⟩
  rw [← hN] at HCL HGO
  rw [← hN]
  clear hCL hGO hN
  go_enter Try.func7, Try.ntmps7
  go_wp2_with fail
  refine Calls.mono (awake_any _) ?_
  rintro e w1 ⟨rfl, hg1⟩
  have HX1 : Hid (PhAt w w1 w.heap.size #[.slice ta tn tc, .slice na nn nc, .slice la ln lc, .int .i64 st, .slice pa n pc]) := HX0.out.kept hg1
  clear hg1 HX0
  obtain ⟨k0, k1, k2, k3, k4⟩ := HX1.out.cells
  go_wp2_with fail
  refine Calls.mono (HCL.out _ HX1.out.grown) ?_
  rintro e w2 ⟨a2, c2, rfl, ho2, hg2⟩
  have HX2 : Hid (PhAt w w2 w.heap.size #[.slice ta tn tc, .slice na nn nc, .slice la ln lc, .int .i64 st, .slice pa n pc]) := HX1.out.kept hg2
  clear hg2 ho2 HX1 k0 k1 k2 k3 k4
  obtain ⟨k0, k1, k2, k3, k4⟩ := HX2.out.cells
  go_wp2_with fail
  refine Calls.mono (HGO.out _ HX2.out.grown) ?_
  rintro e w3 ⟨a3, c3, rfl, ho3, hg3⟩
  have HG3 : Hid (w.grownBy w3 none) := grown_trans HX2.out.grown hg3
  clear hg3 ho3 HX2 k0 k1 k2 k3 k4
  go_wp2_with fail
  go_ret
  exact ⟨rfl, HG3.out⟩

set_option maxRecDepth 100000 in
set_option maxHeartbeats 4000000 in
theorem again_ok (hI : ItsAt w a I) (hIb : I.length ≤ 8796093022208) (KK : List It → List It) (f : Int) (hKK : ∀ l, (KK l).length ≤ l.length)
    (hCL : ∀ X, w.grownBy X none → Calls Try.prog 17 #[.agg #[.slice ta tn tc, .slice na nn nc, .slice la ln lc, .int .i64 st, .slice pa n pc], .slice a I.length cap] X fun e y => ∃ l, IsClo tn n L R I l ∧ l.length ≤ I.length + 13000 ∧ ItsErr l 0 X e y)
    (hCL2 : ∀ X a' c' l, w.grownBy X none → ItsAt X a' l → (a' = none → l.length = 0 ∧ c' = 0) → IsClo tn n L R I l → l.length ≤ I.length + 13000 → Calls Try.prog 17 #[.agg #[.slice ta tn tc, .slice na nn nc, .slice la ln lc, .int .i64 st, .slice pa n pc], .slice a' l.length c'] X fun e y => ItsErr l 0 X e y)
    (hGO : ∀ X l, w.grownBy X none → IsClo tn n L R I l → Calls Try.prog 19 #[.agg #[.slice ta tn tc, .slice na nn nc, .slice la ln lc, .int .i64 st, .slice pa n pc], .int .i64 s, .slice a I.length cap] X fun e y => ItsErr (KK l) f X e y)
    (hGO2 : ∀ X a' c' l, w.grownBy X none → ItsAt X a' l → (a' = none → l.length = 0 ∧ c' = 0) → IsClo tn n L R I l → l.length ≤ I.length + 13000 → Calls Try.prog 19 #[.agg #[.slice ta tn tc, .slice na nn nc, .slice la ln lc, .int .i64 st, .slice pa n pc], .int .i64 s, .slice a' l.length c'] X fun e y => ItsErr (KK l) f X e y) :
    Calls Try.prog 7 #[.agg #[.slice ta tn tc, .slice na nn nc, .slice la ln lc, .int .i64 st, .slice pa n pc], .int .i64 s, .slice a I.length cap] w fun e w' => e = .returned (.bool true) ∧ w.grownBy w' none := by
  have HCL := show Hid _ from hCL
  have HCL2 := show Hid _ from hCL2
  have HGO := show Hid _ from hGO
  have HGO2 := show Hid _ from hGO2
  have HKK := show Hid _ from hKK
  have HI : Hid (ItsAt w a I) := hI
  have HX0 : Hid (PhAt w (w.alloc (.cells #[.slice ta tn tc, .slice na nn nc, .slice la ln lc, .int .i64 st, .slice pa n pc] 27)) w.heap.size #[.slice ta tn tc, .slice na nn nc, .slice la ln lc, .int .i64 st, .slice pa n pc]) := ⟨World.grownBy_alloc _ _ none, heap_alloc_last w _⟩
  obtain ⟨N, hN⟩ : ∃ n, n = I.length := ⟨_, rfl⟩
  have HN : Hid (N = I.length) := hN
  have hgu := guard_item
  rw [← hN] at hIb HCL HGO HCL2 HGO2
  rw [← hN]
  clear hCL hGO hCL2 hGO2 hKK hN hI
  go_enter Try.func7, Try.ntmps7
  go_wp2_with fail
  refine Calls.mono (awake_any _) ?_
  rintro e w1 ⟨rfl, hg1⟩
  have HX1 : Hid (PhAt w w1 w.heap.size #[.slice ta tn tc, .slice na nn nc, .slice la ln lc, .int .i64 st, .slice pa n pc]) := HX0.out.kept hg1
  clear hg1 HX0
  obtain ⟨k0, k1, k2, k3, k4⟩ := HX1.out.cells
  go_wp2_with fail
  refine Calls.mono (HCL.out _ HX1.out.grown) ?_
  rintro e w2 ⟨l, hIC, hll, a2, c2, rfl, ho2, hg2⟩
  have HX2 : Hid (PhAt w w2 w.heap.size #[.slice ta tn tc, .slice na nn nc, .slice la ln lc, .int .i64 st, .slice pa n pc]) := HX1.out.kept hg2
  have HIC : Hid (IsClo tn n L R I l ∧ l.length ≤ N + 13000) := ⟨hIC, hll⟩
  have HL2 : Hid (∀ Y, w2.grownBy Y none → ItsAt Y a2 l) := fun Y hY => (ItsAt.of ho2).kept hY
  have HNL : Hid (a2 = none → l.length = 0 ∧ c2 = 0) := own_nil ho2
  obtain ⟨M, hM⟩ : ∃ m, m = l.length := ⟨_, rfl⟩
  have HM : Hid (M = l.length) := hM
  have hMb : M ≤ 8796093035208 := by rw [hM]; omega
  have HKL : Hid ((KK l).length ≤ M) := by rw [hM]; exact HKK.out l
  rw [← hM]
  clear hg2 ho2 HX1 k0 k1 k2 k3 k4 hIC hll hM
  obtain ⟨k0, k1, k2, k3, k4⟩ := HX2.out.cells
  go_wp2_with fail
  refine Calls.mono (HGO.out _ l HX2.out.grown HIC.out.1) ?_
  rintro e w3 ⟨a3, c3, rfl, ho3, hg3⟩
  have HX3 : Hid (PhAt w w3 w.heap.size #[.slice ta tn tc, .slice na nn nc, .slice la ln lc, .int .i64 st, .slice pa n pc]) := HX2.out.kept hg3
  have HG23 : Hid (w2.grownBy w3 none) := hg3
  have HL3 : Hid (∀ Y, w3.grownBy Y none → ItsAt Y a3 (KK l)) := fun Y hY => (ItsAt.of ho3).kept hY
  obtain ⟨K, hK⟩ : ∃ m, m = (KK l).length := ⟨_, rfl⟩
  have HK : Hid (K = (KK l).length) := hK
  rw [← hK]
  clear hg3 ho3 HX2 k0 k1 k2 k3 k4 hK
  obtain ⟨k0, k1, k2, k3, k4⟩ := HX3.out.cells
  have HC4 := show Hid _ from HCL2.out w3 a2 c2 l HX3.out.grown (HL2.out w3 HG23.out) HNL.out HIC.out.1 HIC.out.2
  rw [← HM.out] at HC4
  go_wp2_with fail
  refine Calls.mono HC4.out ?_
  rintro e w4 ⟨a4, c4, rfl, ho4, hg4⟩
  have HX4 : Hid (PhAt w w4 w.heap.size #[.slice ta tn tc, .slice na nn nc, .slice la ln lc, .int .i64 st, .slice pa n pc]) := HX3.out.kept hg4
  have HG34 : Hid (w3.grownBy w4 none) := hg4
  have HL4 : Hid (∀ Y, w4.grownBy Y none → ItsAt Y a4 l) := fun Y hY => (ItsAt.of ho4).kept hY
  rw [← HM.out]
  clear hg4 ho4 HX3 HC4 k0 k1 k2 k3 k4
  obtain ⟨k0, k1, k2, k3, k4⟩ := HX4.out.cells
  have HC5 := show Hid _ from HGO2.out w4 a2 c2 l HX4.out.grown (HL2.out w4 (grown_trans HG23.out HG34.out)) HNL.out HIC.out.1 HIC.out.2
  rw [← HM.out] at HC5
  go_wp2_with fail
  refine Calls.mono HC5.out ?_
  rintro e w5 ⟨a5, c5, rfl, ho5, hg5⟩
  have HG5 : Hid (w.grownBy w5 none) := grown_trans HX4.out.grown hg5
  have HG25 : Hid (w2.grownBy w5 none) := grown_trans HG23.out (grown_trans HG34.out hg5)
  have HG35 : Hid (w3.grownBy w5 none) := grown_trans HG34.out hg5
  have HG45 : Hid (w4.grownBy w5 none) := hg5
  have HS1 : Hid (Calls Try.prog 21 #[.slice a2 l.length c2, .slice a4 l.length c4] w5 fun e y => e = .returned (.bool true) ∧ w5.grownBy y none) := sameItems_any a2 a4 c2 c4 l l w5 (HL2.out w5 HG25.out) (HL4.out w5 HG45.out) (by rw [← HM.out]; omega) (by rw [← HM.out]; omega) true ⟨fun _ => rfl, fun _ => rfl⟩
  have HS2 : Hid (∀ Y, w5.grownBy Y none → Calls Try.prog 21 #[.slice a3 (KK l).length c3, .slice a5 (KK l).length c5] Y fun e y => e = .returned (.bool true) ∧ Y.grownBy y none) := fun Y hY => sameItems_any a3 a5 c3 c5 (KK l) (KK l) Y (HL3.out Y (grown_trans HG35.out hY)) ((ItsAt.of ho5).kept hY) (by have := HKL.out; omega) (by have := HKL.out; omega) true ⟨fun _ => rfl, fun _ => rfl⟩
  rw [← HM.out] at HS1
  rw [← HK.out] at HS2
  rw [← HK.out]
  clear hg5 ho5 HX4 HC5 HG34 HG35 HG45 k0 k1 k2 k3 k4 HCL HCL2 HGO HGO2 HKK HL3 HL4 HKL HNL HG23
  go_wp2_with fail
  refine Calls.mono HS1.out ?_
  rintro e w6 ⟨rfl, hg6⟩
  have HG6 : Hid (w5.grownBy w6 none) := hg6
  clear hg6 HS1
  go_wp2_with fail
  refine Calls.mono (HS2.out w6 HG6.out) ?_
  rintro e w7 ⟨rfl, hg7⟩
  have HG7 : Hid (w.grownBy w7 none) := grown_trans HG5.out (grown_trans HG6.out hg7)
  have HLA : Hid (∀ Y, w7.grownBy Y none → ItsAt Y a2 l ∧ ItsAt Y a I) := fun Y hY => ⟨HL2.out Y (grown_trans HG25.out (grown_trans HG6.out (grown_trans hg7 hY))), HI.out.kept (grown_trans HG7.out hY)⟩
  clear hg7 HS2 HG6 HG5 HG25 HL2 HI
  go_wp2_with fail
  go_loopg [18] N (fun gk v18 wr => ∃ i : Nat, i ≤ N ∧ gk = N - i ∧ v18 = .int .i64 i ∧ w7.grownBy wr none)
  case atStart => exact ⟨0, Nat.zero_le _, rfl, rfl, grown_refl _ _⟩
  case round =>
    obtain ⟨i, hi, hgi, rfl, hg⟩ := hrel
    have HGI : Hid (gk = N - i) := hgi
    have HG : Hid (w7.grownBy wr none) := hg
    clear hgi hg
    by_cases hlt : i < N
    · have hi0 : (0 : Int) ≤ (i : Int) := by omega
      have hi1 : (i : Int) < (N : Int) := by omega
      have hid : decide (i < N) = true := decide_eq_true hlt
      have hil : i < I.length := by rw [← HN.out]; exact hlt
      have HML : Hid (I.getD i (0, 0) ∈ l) := isClo_base HIC.out.1 (getD_memI hil)
      generalize wr = Z at *
      go_wp2_with fail
      go_loopg [19, 20] M (fun gk v19 v20 wr => ∃ (o : Nat) (b : Bool), o ≤ M ∧ gk = M - o ∧ v20 = .int .i64 o ∧ v19 = .bool b ∧ w7.grownBy wr none ∧ (b = true ↔ I.getD i (0, 0) ∈ l.take o))
      case atStart => exact ⟨0, false, Nat.zero_le _, rfl, rfl, rfl, HG.out, by simp⟩
      case round =>
        obtain ⟨o, b, ho, hgo, rfl, rfl, hg2, hb⟩ := hrel
        have HGO : Hid (gk = M - o) := hgo
        have HG2 : Hid (w7.grownBy wr none) := hg2
        have HB : Hid (b = true ↔ I.getD i (0, 0) ∈ l.take o) := hb
        clear hgo hg2 hb
        by_cases hlo : o < M
        · have ho0 : (0 : Int) ≤ (o : Int) := by omega
          have ho1 : (o : Int) < (M : Int) := by omega
          have hod : decide (o < M) = true := decide_eq_true hlo
          have hol : o < l.length := by rw [← HM.out]; exact hlo
          obtain ⟨hA1, hA2⟩ := HLA.out wr HG2.out
          obtain ⟨lb, lo, hla, c0, c1⟩ := hA1.cellAt hol
          obtain ⟨ib, io, hia, d0, d1⟩ := hA2.cellAt hil
          subst hla hia
          have HTS : Hid (I.getD i (0, 0) ∈ l.take (o + 1) ↔ I.getD i (0, 0) ∈ l.take o ∨ l.getD o (0, 0) = I.getD i (0, 0)) := mem_take_succ hol _
          cases b with
          | true =>
            have HNX : Hid (true = true ↔ I.getD i (0, 0) ∈ l.take (o + 1)) := ⟨fun _ => HTS.out.2 (.inl (HB.out.1 rfl)), fun _ => rfl⟩
            have HNX2 : Hid (I.getD i (0, 0) ∈ l.take (o + 1)) := HNX.out.1 rfl
            clear HB HTS HNX c0 c1 d0 d1
            go_wp2_with fail
            go_quiet (fail)
            go_wp2_with fail
            go_roundg (M - (o + 1))
            case measure => have := HGO.out; omega
            case rel => exact ⟨o + 1, true, by omega, rfl, by go_num, rfl, grown_trans HG2.out (grown_drewN _ _), ⟨fun _ => HNX2.out, fun _ => rfl⟩⟩
          | false =>
            obtain ⟨x, hx⟩ : ∃ x, x = l.getD o (0, 0) := ⟨_, rfl⟩
            obtain ⟨y, hy⟩ : ∃ y, y = I.getD i (0, 0) := ⟨_, rfl⟩
            have HXY : Hid (x = l.getD o (0, 0) ∧ y = I.getD i (0, 0)) := ⟨hx, hy⟩
            rw [← hx] at c0 c1
            rw [← hy] at d0 d1
            obtain ⟨bb, hbb⟩ : ∃ b, b = (x.1 == y.1 && x.2 == y.2) := ⟨_, rfl⟩
            have HNX : Hid (bb = true ↔ I.getD i (0, 0) ∈ l.take (o + 1)) := by
              show _ ↔ _
              rw [HTS.out, ← HXY.out.1, ← HXY.out.2, hbb, Bool.and_eq_true, beq_iff_eq, beq_iff_eq]
              constructor
              · intro h; exact .inr (Prod.ext h.1 h.2)
              · rintro (h | h)
                · rw [HXY.out.2] at h; exact absurd (HB.out.2 h) (by decide)
                · exact ⟨congrArg Prod.fst h, congrArg Prod.snd h⟩
            obtain ⟨xp, xd⟩ := x
            obtain ⟨yp, yd⟩ := y
            simp only at c0 c1 d0 d1 hbb
            have hE : ∀ X : World, (binOp .eql 49 (.agg #[.int .i64 xp, .int .i64 xd]) (.agg #[.int .i64 yp, .int .i64 yd])).run Try.prog X = .ok (.bool bb) X := fun X => by rw [hbb]; exact eq_item xp xd yp yd X
            clear HB HTS hbb hx hy
            go_wp2_with fail
            go_quiet (fail)
            go_wp2_with fail
            go_roundg (M - (o + 1))
            case measure => have := HGO.out; omega
            case rel => exact ⟨o + 1, bb, by omega, rfl, by go_num, rfl, grown_trans HG2.out (grown_drewN _ _), HNX.out⟩
        · have hoM : M = o := by omega
          subst hoM
          have hod : decide (M < M) = false := decide_eq_false (by omega)
          have hbt : b = true := HB.out.2 (by rw [HM.out, List.take_length]; exact HML.out)
          subst hbt
          clear HB
          go_wp2_with fail
          go_roundg (N - (i + 1))
          case measure => have := HGI.out; omega
          case rel => exact ⟨i + 1, by omega, rfl, by go_num, HG2.out⟩
    · have hiN : N = i := by omega
      subst hiN
      have hid : decide (N < N) = false := decide_eq_false (by omega)
      go_wp2_with fail
      clear HGI
      go_loopg [21] (M - 1) (fun gk v21 wr => ∃ o : Nat, 1 ≤ o ∧ (o ≤ M ∨ o = 1) ∧ gk = M - o ∧ v21 = .int .i64 o ∧ w7.grownBy wr none)
      case atStart => exact ⟨1, Nat.le_refl _, .inr rfl, rfl, rfl, HG.out⟩
      case round =>
        obtain ⟨o, ho1, hoM, hgo, rfl, hg2⟩ := hrel
        have HGO : Hid (gk = M - o) := hgo
        have HG2 : Hid (w7.grownBy wr none) := hg2
        clear hgo hg2
        by_cases hlo : o < M
        · obtain ⟨q, hq⟩ : ∃ q, q = o - 1 := ⟨_, rfl⟩
          have hod : decide (o < M) = true := decide_eq_true hlo
          have hol : o < l.length := by rw [← HM.out]; exact hlo
          obtain ⟨hA1, _⟩ := HLA.out wr HG2.out
          obtain ⟨lb, lo, hla, c0, c1⟩ := hA1.cellAt hol
          obtain ⟨lb2, lo2, hla2, d0, d1⟩ := hA1.cellAt (i := q) (by omega)
          have hlt := asc_at HIC.out.1.asc (j := q) (by omega)
          rw [show q + 1 = o by omega] at hlt
          subst hla
          simp only [Option.some.injEq, Addr.mk.injEq, and_true] at hla2
          obtain ⟨rfl, rfl⟩ := hla2
          have hw1 : IntKind.i64.wrap ((o : Int) - 1) = (q : Int) := by rw [IntKind.wrap_i64]; omega
          have ho0 : (0 : Int) ≤ (o : Int) := by omega
          have ho1' : (o : Int) < (M : Int) := by omega
          have hq0 : (0 : Int) ≤ (q : Int) := by omega
          have hq1 : (q : Int) < (M : Int) := by omega
          have hqM : q < M := by omega
          obtain ⟨x, hx⟩ : ∃ x, x = l.getD o (0, 0) := ⟨_, rfl⟩
          obtain ⟨y, hy⟩ : ∃ y, y = l.getD q (0, 0) := ⟨_, rfl⟩
          rw [← hx] at c0 c1 hlt
          rw [← hy] at d0 d1 hlt
          obtain ⟨xp, xd⟩ := x
          obtain ⟨yp, yd⟩ := y
          unfold ltI at hlt
          simp only at c0 c1 d0 d1 hlt
          have e1 : decide (xp < yp) = false := decide_eq_false (by omega)
          clear hx hy hq hol hA1
          by_cases hpe : yp < xp
          · have e2 : (xp == yp) = false := beq_eq_false_iff_ne.2 (by omega)
            clear hlt
            go_wp2_with fail
            go_quiet (fail)
            go_wp2_with fail
            go_roundg (M - (o + 1))
            case measure => have := HGO.out; omega
            case rel => exact ⟨o + 1, by omega, .inl (by omega), rfl, by go_num, grown_trans HG2.out (grown_drewN _ _)⟩
          · obtain rfl : yp = xp := by omega
            have e2 : decide (xd ≤ yd) = false := decide_eq_false (by omega)
            clear hlt
            go_wp2_with fail
            go_quiet (fail)
            go_wp2_with fail
            go_roundg (M - (o + 1))
            case measure => have := HGO.out; omega
            case rel => exact ⟨o + 1, by omega, .inl (by omega), rfl, by go_num, grown_trans HG2.out (grown_drewN _ _)⟩
        · have hod : decide (o < M) = false := decide_eq_false hlo
          go_wp2_with fail
          go_ret
          exact ⟨rfl, grown_trans HG7.out HG2.out⟩
end

end Go.Proofs.Ytfjbgnmmlppmeaa.J

/-
  lr0: the law Lr0Again, for every input.
-/
namespace Go.Proofs.Ytfjbgnmmlppmeaa.J
open Go.RowKit Go.Maps Go.Shelf

theorem not_symB {S : Nat} {s : Int} (h : ¬ (0 ≤ s ∧ s < (S : Int))) : symB S s = false := by
  unfold symB
  rw [Bool.and_eq_false_iff, decide_eq_false_iff_not, decide_eq_false_iff_not]
  omega
theorem ItsErr.same {l m : List It} {ec : Int} {X : World} {e : Ending} {y : World} (h : ItsErr l ec X e y) (hm : l = m) : ItsErr m ec X e y := hm ▸ h

section
variable (ta na la pa : Option Addr) (tc nc lc pc : Nat) (ts : List (ByteArray × Int)) (ns : List ByteArray) (lv : List Int) (n : Nat) (L : Nat → Int) (R : Nat → List Int) (ra : Nat → Option Addr) (rc : Nat → Nat) (V : Nat → Int) (st : Int) (w : World) (tn nn ln : Nat) (hlen : ts.length = tn ∧ ns.length = nn ∧ lv.length = ln) (hG : GAt w ta na la pa tc nc lc pc ts ns lv n L R ra rc V) (a : Option Addr) (cap : Nat) (I : List It) (hI : ItsAt w a I) (s : Int)
include hlen hG hI
theorem again_core (hIb : I.length ≤ 8796093022208) (hnil : a = none → I.length = 0 ∧ cap = 0) : Calls Try.prog 7 #[.agg #[.slice ta tn tc, .slice na nn nc, .slice la ln lc, .int .i64 st, .slice pa n pc], .int .i64 s, .slice a I.length cap] w fun e w' => e = .returned (.bool true) ∧ w.grownBy w' none := by
  by_cases hc : closedOK ts ns lv st n L R V ∧ ∀ x ∈ I, itB n R x = true
  · obtain ⟨hc, hit⟩ := hc
    have hCL : ∀ X, w.grownBy X none → Calls Try.prog 17 #[.agg #[.slice ta tn tc, .slice na nn nc, .slice la ln lc, .int .i64 st, .slice pa n pc], .slice a I.length cap] X fun e y => ∃ l, IsClo tn n L R I l ∧ l.length ≤ I.length + 13000 ∧ ItsErr l 0 X e y := fun X hX => closureOk ta na la pa tc nc lc pc ts ns lv n L R ra rc V st X tn nn ln hlen (hG.kept hX) a cap I (hI.kept hX) (by omega) hnil hc hit
    have hCL2 : ∀ X a' c' l, w.grownBy X none → ItsAt X a' l → (a' = none → l.length = 0 ∧ c' = 0) → IsClo tn n L R I l → l.length ≤ I.length + 13000 → Calls Try.prog 17 #[.agg #[.slice ta tn tc, .slice na nn nc, .slice la ln lc, .int .i64 st, .slice pa n pc], .slice a' l.length c'] X fun e y => ItsErr l 0 X e y := fun X a' c' l hX hIl hn' hIC hll => by
      refine (closureOk ta na la pa tc nc lc pc ts ns lv n L R ra rc V st X tn nn ln hlen (hG.kept hX) a' c' l hIl (by omega) hn' hc (fun x hx => ((hIC.mem x).1 hx).item hit)).mono ?_
      rintro e y ⟨l', hIC', _, he⟩
      exact he.same (hIC'.unique (isClo_idem hIC))
    by_cases hs : 0 ≤ s ∧ s < ((tn + nn : Nat) : Int)
    · obtain ⟨q, rfl⟩ : ∃ q : Nat, s = (q : Int) := ⟨s.toNat, by omega⟩
      refine again_ok ta na la pa tc nc lc pc n L R st w tn nn ln a cap I (q : Int) hI hIb (fun l => kerT R l (q : Int)) 0 (fun l => kerT_len R l _) hCL hCL2 (fun X l hX hIC => ?_) (fun X a' c' l hX hIl hn' hIC hll => ?_)
      · refine (gotoOk ta na la pa tc nc lc pc ts ns lv n L R ra rc V st X tn nn ln hlen (hG.kept hX) a cap I (hI.kept hX) (by omega) hnil q (by omega) hc hit).mono ?_
        rintro e y ⟨l', hIC', _, he⟩
        exact he.same (by rw [hIC'.unique hIC])
      · refine (gotoOk ta na la pa tc nc lc pc ts ns lv n L R ra rc V st X tn nn ln hlen (hG.kept hX) a' c' l hIl (by omega) hn' q (by omega) hc (fun x hx => ((hIC.mem x).1 hx).item hit)).mono ?_
        rintro e y ⟨l', hIC', _, he⟩
        exact he.same (by rw [hIC'.unique (isClo_idem hIC)])
    · refine again_ok ta na la pa tc nc lc pc n L R st w tn nn ln a cap I s hI hIb (fun _ => []) 1 (fun l => Nat.zero_le _) hCL hCL2 (fun X l hX _ => ?_) (fun X a' c' l hX hIl hn' hIC hll => ?_)
      · exact gotoBad ta na la pa tc nc lc pc ts ns lv n L R ra rc V st X tn nn ln hlen (hG.kept hX) a cap I (hI.kept hX) (by omega) s (.inr (.inr (not_symB hs)))
      · exact gotoBad ta na la pa tc nc lc pc ts ns lv n L R ra rc V st X tn nn ln hlen (hG.kept hX) a' c' l hIl (by omega) s (.inr (.inr (not_symB hs)))
  · have hb : ¬ closedOK ts ns lv st n L R V ∨ ¬ ∀ x ∈ I, itB n R x = true := by
      by_cases h : closedOK ts ns lv st n L R V
      · exact .inr fun h2 => hc ⟨h, h2⟩
      · exact .inl h
    refine again_bad ta na la pa tc nc lc pc n st w tn nn ln a cap I s (fun X hX => ?_) (fun X hX => ?_)
    · exact closureBad ta na la pa tc nc lc pc ts ns lv n L R ra rc V st X tn nn ln hlen (hG.kept hX) a cap I (hI.kept hX) (by omega) hb
    · exact gotoBad ta na la pa tc nc lc pc ts ns lv n L R ra rc V st X tn nn ln hlen (hG.kept hX) a cap I (hI.kept hX) (by omega) s (hb.imp id .inl)
end

end Go.Proofs.Ytfjbgnmmlppmeaa.J
