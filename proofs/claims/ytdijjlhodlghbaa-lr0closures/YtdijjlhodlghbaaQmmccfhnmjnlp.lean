import Derived.Test.YtdijjlhodlghbaaRows
import Derived.Test.YtdijjlhodlghbaaQdkpnbijabpng
import Derived.Test.YtdijjlhodlghbaaQehmadobnnnbm
import Derived.Test.YtdijjlhodlghbaaQgebfmhdknfjl
import Derived.Test.YtdijjlhodlghbaaQkgadmodcegdl
import Derived.Test.YtdijjlhodlghbaaQejkpodleihag

/-
  lr0: what the laws' theorems share.
-/
namespace Go.Proofs.Ytdijjlhodlghbaa.J
open Go.ChangeShapes Go.WideShapes Go.ChangeAt Go.RowKit Go.Deep

theorem own : ownKnob Try.prog.godebug = none := by kernel_rfl
theorem laidOut : laidOutB Try.prog = true := by kernel_rfl
theorem bytesItem : Try.prog.bytesOf 49 = 16 := by kernel_rfl

section
variable {H : Type} {enc : TypeId × Value → H} {W : World} {fuel : Nat} {cs : List Value} {x : DataW H × List MemPlace}

set_option maxRecDepth 100000 in
theorem open_its_in (h : DataW.trod enc Try.prog W 0 (fun _ => true) true fuel 40 cs = some x) (hw : ∀ n ∈ x.1.weights Try.prog 40, n ≤ reachBytes) :
    ∃ (a : Option Addr) (l : List It) (c : Nat), cs = [.slice a l.length c] ∧ ItsAt W a l ∧ l.length ≤ 8796093022208 ∧ l.length ≤ c ∧ (a = none → l.length = 0 ∧ c = 0) ∧ ∀ t ∈ l, I64 t := by
  rcases open_slice Try.underlying40 h with ⟨hcs, _⟩ | ⟨ad, len, cap, m, n, D, Pl, hcs, _, hl, hm, hmm, hx, heach⟩
  · exact ⟨none, [], 0, hcs, .inl rfl, by decide, Nat.le_refl _, fun _ => ⟨rfl, rfl⟩, by simp⟩
  · simp only [if_true] at hmm
    subst hx
    rw [cellsItem] at heach
    have hlen : len ≤ 8796093022208 := by
      have := hw (((List.range len).map D).length * 16 + ((List.range (m - len)).map fun j => D (len + j)).length * 16) (by simp [DataW.weights, Try.underlying40, bytesItem, Nat.add_mul])
      simp only [List.length_map, List.length_range, reachBytes] at this
      omega
    have each : ∀ i, i < len → ∃ t : It, ∃ b off, ad = ⟨b, off, none⟩ ∧ W.cell? ⟨b, off + i * 2, none⟩ = some (.int .i64 t.1) ∧ W.cell? ⟨b, off + i * 2 + 1, none⟩ = some (.int .i64 t.2) ∧ I64 t := by
      intro i hi
      obtain ⟨cs', h1, h2⟩ := heach i (by omega)
      obtain ⟨_, hcl, hcell⟩ := World.cells?_some h1
      obtain ⟨xs, k, hk, hxy, _, hxl, hfs⟩ := DataW.trod_struct Try.underlying49 h2
      match xs, hxl, cs', hcl with
      | [y0, y1], _, [v0, v1], _ =>
        have g0 := hfs 0 _ rfl
        have g1 := hfs 1 _ rfl
        simp [cellsInt] at g0 g1
        obtain ⟨s0, e0, _, w0⟩ := DataW.trod_int Try.underlying3 g0
        obtain ⟨z1, e1, _, w1⟩ := DataW.trod_int Try.underlying3 g1
        simp only [List.cons.injEq, and_true] at e0 e1
        subst e0 e1
        have c0 := hcell 0 (by omega)
        have c1 := hcell 1 (by omega)
        rw [Deep.add_add] at c0 c1
        obtain ⟨b, off, spot⟩ := ad
        have hs : spot = none := by
          obtain ⟨cs0, h10, _⟩ := heach 0 (by omega)
          obtain ⟨_, hcl0, hcell0⟩ := World.cells?_some h10
          have q0 := hcell0 0 (by omega)
          rw [List.getElem?_eq_getElem (by omega)] at q0
          simpa [Addr.add] using World.cell?_spot q0
        subst hs
        rw [add_plain] at c0 c1
        exact ⟨(s0, z1), b, off, rfl, by simpa using c0, by simpa [Nat.add_assoc] using c1, w0, w1⟩
    obtain ⟨S, hS⟩ := choose_lt (α := It) each
    have hg : ∀ i, i < len → ((List.range len).map S).getD i (0, 0) = S i := fun i hi => by simp [List.getD, hi]
    refine ⟨some ad, (List.range len).map S, cap, by simpa using hcs, ?_, by simpa using hlen, by simpa using hl, fun h => (by cases h), fun t ht => ?_⟩
    · by_cases h0 : len = 0
      · subst h0; exact .inl (by simp)
      · obtain ⟨b, off, rfl, _⟩ := hS 0 (by omega)
        refine .inr ⟨b, off, rfl, fun i hi => ?_⟩
        have hi' : i < len := by simpa using hi
        obtain ⟨b', off', e, r1, r2, _⟩ := hS i hi'
        simp only [Addr.mk.injEq, and_true] at e
        obtain ⟨rfl, rfl⟩ := e
        rw [hg i hi']
        exact ⟨r1, r2⟩
    · obtain ⟨i, hi, rfl⟩ := List.mem_map.1 ht
      obtain ⟨_, _, _, _, _, hwf⟩ := hS i (by simpa using hi)
      exact hwf

end

set_option maxRecDepth 100000 in
theorem open_int {H : Type} {enc : TypeId × Value → H} {W : World} {base : Nat} {v : Value} {d : DataW H} {p : List MemPlace} (hv : Value.okWide Try.prog W .any base 3 v) (h : DataW.Trod enc Try.prog W 0 (fun _ => true) true 3 v d p) : ∃ z, v = .int .i64 z ∧ (Lit.int .i64 z).wf = true := by
  obtain ⟨z, rfl⟩ := okWide_int Try.underlying3 hv
  obtain ⟨fuel, hf⟩ := h
  have hf' : DataW.trod enc Try.prog W 0 (fun _ => true) true fuel 3 [.int .i64 z] = some (d, p) := hf
  obtain ⟨z', e, h2⟩ := DataW.trod_int Try.underlying3 hf'
  simp only [List.cons.injEq, Value.int.injEq, and_true, true_and] at e
  subst e
  exact ⟨z, rfl, h2.2⟩

set_option maxRecDepth 100000 in
theorem open_its {H : Type} {enc : TypeId × Value → H} {W : World} {base : Nat} {v : Value} {d : DataW H} {p : List MemPlace} (hv : Value.okWide Try.prog W .any base 40 v) (h : DataW.Trod enc Try.prog W 0 (fun _ => true) true 40 v d p) (hw : ∀ n ∈ d.weights Try.prog 40, n ≤ reachBytes) : ∃ a l c, v = .slice a (List.length l) c ∧ ItsAt W a l ∧ l.length ≤ 8796093022208 ∧ l.length ≤ c ∧ (a = none → l.length = 0 ∧ c = 0) ∧ ∀ t ∈ l, I64 t := by
  obtain ⟨a, len, cap, rfl⟩ := okWide_slice Try.underlying40 hv
  obtain ⟨fuel, hf⟩ := h
  have hf' : DataW.trod enc Try.prog W 0 (fun _ => true) true fuel 40 [.slice a len cap] = some (d, p) := hf
  obtain ⟨a', l, c, e, hI, hl⟩ := open_its_in hf' hw
  simp only [List.cons.injEq, Value.slice.injEq, and_true] at e
  obtain ⟨rfl, rfl, rfl⟩ := e
  exact ⟨a, l, cap, rfl, hI, hl⟩

end Go.Proofs.Ytdijjlhodlghbaa.J

/-
  lr0: the law Lr0Again.
-/
namespace Go.Proofs.Ytdijjlhodlghbaa.J
open Go.RowKit Go.Maps Go.Shelf

attribute [local go_sem] Oper.semAt_some

section
variable (ta na la pa : Option Addr) (tc nc lc pc : Nat) (n : Nat) (L : Nat → Int) (R : Nat → List Int) (st : Int) (w : World) (tn nn ln : Nat) (a : Option Addr) (cap : Nat) (I : List It) (s : Int)

end

end Go.Proofs.Ytdijjlhodlghbaa.J

/-
  lr0: the law Lr0Again, for every input.
-/
namespace Go.Proofs.Ytdijjlhodlghbaa.J
open Go.RowKit Go.Maps Go.Shelf

theorem not_symB {S : Nat} {s : Int} (h : ¬ (0 ≤ s ∧ s < (S : Int))) : symB S s = false := by
  unfold symB
  rw [Bool.and_eq_false_iff, decide_eq_false_iff_not, decide_eq_false_iff_not]
  omega
theorem ItsErr.same {l m : List It} {ec : Int} {X : World} {e : Ending} {y : World} (h : ItsErr l ec X e y) (hm : l = m) : ItsErr m ec X e y := hm ▸ h

section
variable (ta na la pa : Option Addr) (tc nc lc pc : Nat) (ts : List (ByteArray × Int)) (ns : List ByteArray) (lv : List Int) (n : Nat) (L : Nat → Int) (R : Nat → List Int) (ra : Nat → Option Addr) (rc : Nat → Nat) (V : Nat → Int) (st : Int) (w : World) (tn nn ln : Nat) (hlen : ts.length = tn ∧ ns.length = nn ∧ lv.length = ln) (hG : GAt w ta na la pa tc nc lc pc ts ns lv n L R ra rc V) (a : Option Addr) (cap : Nat) (I : List It) (hI : ItsAt w a I) (s : Int)
include hlen hG hI
end

end Go.Proofs.Ytdijjlhodlghbaa.J

/-
  lr0: the law Lr0Closures, walked.
-/
namespace Go.Proofs.Ytdijjlhodlghbaa.J
open Go.RowKit Go.Maps Go.Shelf

attribute [local go_sem] Oper.semAt_some

/-- A row of one's own, whatever it holds. -/
def LikeRow (X : World) (B e s : Nat) (v : Value) (n : Nat) : Prop := ∃ xs, X.ownsRow B e s v n xs
theorem LikeRow.set {X : World} {B e s n g o : Nat} {v u : Value} (h : LikeRow X B e s v n) : LikeRow (X.setCell ⟨g, o, none⟩ u) B e s v n := by
  obtain ⟨xs, h1, h2⟩ := h
  rcases h2 with ⟨rfl, rfl⟩ | ⟨g2, cap, cur, rfl, hB, hh, h3, h4, h5, h6⟩
  · exact ⟨xs, h1, .inl ⟨rfl, rfl⟩⟩
  · by_cases e2 : g2 = g
    · subst e2
      refine ⟨((cur.setIfInBounds o u).toList.take (n * s)), ?_, .inr ⟨g2, cap, cur.setIfInBounds o u, rfl, hB, heap_setCell_same _ _ _ _ _ _ hh, h3, h4, by rw [Array.size_setIfInBounds]; exact h5, rfl⟩⟩
      have h7 : n * s ≤ cap * s := Nat.mul_le_mul_right _ h3
      rw [List.length_take, Array.length_toList, Array.size_setIfInBounds, h5]
      omega
    · have hg : X.grownBy (X.setCell ⟨g, o, none⟩ u) (some g) := grown_setCell _ _ _
      refine ⟨xs, h1, .inr ⟨g2, cap, cur, rfl, hB, (hg.block g2 (Array.getElem?_eq_some_iff.1 hh).1 (by simpa using e2)).trans hh, h3, h4, h5, h6⟩⟩
theorem LikeRow.kept {X Y : World} {B e s n : Nat} {v : Value} (h : LikeRow X B e s v n) (hg : X.grownBy Y none) : LikeRow Y B e s v n := by
  obtain ⟨xs, h1⟩ := h
  exact ⟨xs, keep0 h1 hg⟩
theorem LikeRow.at {X : World} {B e n i : Nat} {v : Value} (h : LikeRow X B e 2 v n) (hi : i < n) : ∃ g c u0 u1, v = .slice (some ⟨g, 0, none⟩) n c ∧ B ≤ g ∧ X.cell? ⟨g, i * 2, none⟩ = some u0 ∧ X.cell? ⟨g, i * 2 + 1, none⟩ = some u1 ∧ ∀ o, X.frozen? ⟨g, o, none⟩ = false := by
  obtain ⟨xs, h1, h2⟩ := h
  rcases h2 with ⟨rfl, rfl⟩ | ⟨g, cap, cur, rfl, hB, hh, h3, h4, h5, h6⟩
  · omega
  · refine ⟨g, cap, cur[i * 2]'(by omega), cur[i * 2 + 1]'(by omega), rfl, hB, ?_, ?_, fun o => frozen_of_row _ _ _ _ _ hh⟩
    · rw [cell_of_row _ _ _ _ _ _ hh, Array.getElem?_eq_getElem]
    · rw [cell_of_row _ _ _ _ _ _ hh, Array.getElem?_eq_getElem]
theorem set2_grown {w X : World} (g o1 o2 : Nat) (u1 u2 : Value) (h : w.grownBy X none) (hg : w.heap.size ≤ g) : w.grownBy ((X.setCell ⟨g, o1, none⟩ u1).setCell ⟨g, o2, none⟩ u2) none :=
  grown_new h (grown_trans (grown_setCell _ _ _) (grown_setCell _ _ _)) hg

section
variable (ta na la pa : Option Addr) (tc nc lc pc : Nat) (n : Nat) (st : Int) (w : World) (tn nn ln : Nat) (a : Option Addr) (cap : Nat) (I : List It) (s : Int)

set_option maxRecDepth 100000 in
set_option maxHeartbeats 4000000 in
theorem closu_any (hI : ItsAt w a I) (hIb : I.length ≤ 8796093022208) (hnil : a = none → I.length = 0 ∧ cap = 0) (A K : List It) (e1 f1 : Int) (hA : A.length ≤ 8796093035208) (hK : K.length ≤ 8796093035208)
    (hC : ∀ X a' c', w.grownBy X none → ItsAt X a' I → (a' = none → I.length = 0 ∧ c' = 0) → Calls Try.prog 17 #[.agg #[.slice ta tn tc, .slice na nn nc, .slice la ln lc, .int .i64 st, .slice pa n pc], .slice a' I.length c'] X fun e y => ItsErr A e1 X e y)
    (hD : ∀ X, w.grownBy X none → Calls Try.prog 18 #[.agg #[.slice ta tn tc, .slice na nn nc, .slice la ln lc, .int .i64 st, .slice pa n pc], .slice a I.length cap] X fun e y => ItsErr A e1 X e y)
    (hG : ∀ X a' c', w.grownBy X none → ItsAt X a' I → (a' = none → I.length = 0 ∧ c' = 0) → Calls Try.prog 19 #[.agg #[.slice ta tn tc, .slice na nn nc, .slice la ln lc, .int .i64 st, .slice pa n pc], .int .i64 s, .slice a' I.length c'] X fun e y => ItsErr K f1 X e y)
    (hH : ∀ X, w.grownBy X none → Calls Try.prog 20 #[.agg #[.slice ta tn tc, .slice na nn nc, .slice la ln lc, .int .i64 st, .slice pa n pc], .int .i64 s, .slice a I.length cap] X fun e y => ItsErr K f1 X e y) :
    Calls Try.prog 4 #[.agg #[.slice ta tn tc, .slice na nn nc, .slice la ln lc, .int .i64 st, .slice pa n pc], .int .i64 s, .slice a I.length cap] w fun e w' => e = .returned (.bool true) ∧ w.grownBy w' none := by
  have HC := show Hid _ from hC
  have HD := show Hid _ from hD
  have HG := show Hid _ from hG
  have HH := show Hid _ from hH
  have HI : Hid (ItsAt w a I) := hI
  have HLE : Hid (∀ X, w.grownBy X none → Calls Try.prog 16 #[.slice a I.length cap] X fun e y => ItsTold (I ++ [(77, 77)]) X e y) := fun X hX => lent_any a cap I X (hI.kept hX) hnil hIb
  have HX0 : Hid (PhAt w (w.alloc (.cells #[.slice ta tn tc, .slice na nn nc, .slice la ln lc, .int .i64 st, .slice pa n pc] 27)) w.heap.size #[.slice ta tn tc, .slice na nn nc, .slice la ln lc, .int .i64 st, .slice pa n pc]) := ⟨World.grownBy_alloc _ _ none, heap_alloc_last w _⟩
  obtain ⟨N, hN⟩ : ∃ n, n = I.length := ⟨_, rfl⟩
  have HN : Hid (N = I.length) := hN
  have HL7 : Hid ((I ++ [((77 : Int), (77 : Int))]).length = N + 1) := by show _ = _; rw [List.length_append, hN]; rfl
  rw [← hN] at hIb HC HD HG HH HLE
  rw [← hN]
  clear hC hD hG hH hN hI hnil
  go_enter Try.func4, Try.ntmps4
  go_wp2_with fail
  refine Calls.mono (awake_any _) ?_
  rintro e w1 ⟨rfl, hg1⟩
  have HX1 : Hid (PhAt w w1 w.heap.size #[.slice ta tn tc, .slice na nn nc, .slice la ln lc, .int .i64 st, .slice pa n pc]) := HX0.out.kept hg1
  clear hg1 HX0
  go_wp2_with fail
  refine Calls.mono (HLE.out _ HX1.out.grown) ?_
  rintro e w2 ⟨a2, c2, rfl, ho2, hg2⟩
  have HX2 : Hid (PhAt w w2 w.heap.size #[.slice ta tn tc, .slice na nn nc, .slice la ln lc, .int .i64 st, .slice pa n pc]) := HX1.out.kept hg2
  obtain ⟨g2, c2', he2, _⟩ := owns_at ho2 (by rw [HL7.out]; omega)
  simp only [Value.slice.injEq] at he2
  obtain ⟨rfl, _, rfl⟩ := he2
  have HAL : Hid (∀ Y, w2.grownBy Y none → ItsAt Y (some ⟨g2, 0, none⟩) (I ++ [(77, 77)])) := fun Y hY => (ItsAt.of ho2).kept hY
  have HIN : Hid (∀ Y, w2.grownBy Y none → ItsAt Y (some ⟨g2, 0, none⟩) I) := fun Y hY => by
    rcases HAL.out Y hY with h | ⟨b, off, e, h⟩
    · simp at h
    · refine .inr ⟨b, off, e, fun i hi => ?_⟩
      have h2 := h i (by rw [List.length_append]; omega)
      rw [List.getD_eq_getElem?_getD, List.getElem?_append_left hi, ← List.getD_eq_getElem?_getD] at h2
      exact h2
  have hc2 : N + 1 ≤ c2 := by
    rcases ho2.2 with ⟨h1, _⟩ | ⟨g, cc, cur, h1, _, _, h3, _⟩
    · cases h1
    · simp only [Value.slice.injEq] at h1
      rw [HL7.out] at h3
      omega
  have hNi : (N : Int) ≤ (c2 : Int) := by omega
  have hN0 : (0 : Int) ≤ (N : Int) := by omega
  rw [HL7.out]
  clear ho2 hg2 HX1
  go_wp2_with fail
  go_loopg [10] 2 (fun gk v10 wr => ∃ t : Nat, t ≤ 2 ∧ gk = 2 - t ∧ v10 = .int .i64 t ∧ w2.grownBy wr none)
  case atStart => exact ⟨0, by omega, rfl, rfl, grown_refl _ _⟩
  case round =>
    obtain ⟨t, ht, hgt, rfl, hg⟩ := hrel
    have HGT : Hid (gk = 2 - t) := hgt
    have HGR : Hid (w2.grownBy wr none) := hg
    clear hgt hg
    generalize wr = Z at *
    by_cases hlt : t < 2
    · have htd : decide (t < 2) = true := decide_eq_true hlt
      have htd2 : decide ((t : Int) < 2) = true := decide_eq_true (by omega)
      have HXZ : Hid (PhAt w Z w.heap.size #[.slice ta tn tc, .slice na nn nc, .slice la ln lc, .int .i64 st, .slice pa n pc]) := HX2.out.kept HGR.out
      obtain ⟨k0, k1, k2, k3, k4⟩ := HXZ.out.cells
      go_wp2_with fail
      refine Calls.mono (HC.out Z _ _ HXZ.out.grown (HIN.out Z HGR.out) (fun h => by cases h)) ?_
      rintro e w3 ⟨a3, c3, rfl, ho3, hg3⟩
      have HX3 : Hid (PhAt w w3 w.heap.size #[.slice ta tn tc, .slice na nn nc, .slice la ln lc, .int .i64 st, .slice pa n pc]) := HXZ.out.kept hg3
      have HG3 : Hid (w2.grownBy w3 none) := grown_trans HGR.out hg3
      have HI3 : Hid (∀ Y, w3.grownBy Y none → ItsAt Y a3 A) := fun Y hY => (ItsAt.of ho3).kept hY
      have HO3 : Hid (LikeRow w3 w2.heap.size 49 2 (.slice a3 A.length c3) A.length) := ⟨_, owns_base ho3 HGR.out.size⟩
      clear hg3 ho3 HXZ k0 k1 k2 k3 k4
      obtain ⟨k0, k1, k2, k3, k4⟩ := HX3.out.cells
      go_wp2_with fail
      refine Calls.mono (HD.out w3 HX3.out.grown) ?_
      rintro e w4 ⟨a4, c4, rfl, ho4, hg4⟩
      have HX4 : Hid (PhAt w w4 w.heap.size #[.slice ta tn tc, .slice na nn nc, .slice la ln lc, .int .i64 st, .slice pa n pc]) := HX3.out.kept hg4
      have HG4 : Hid (w3.grownBy w4 none) := hg4
      have HI4 : Hid (∀ Y, w4.grownBy Y none → ItsAt Y a4 A) := fun Y hY => (ItsAt.of ho4).kept hY
      clear hg4 ho4 HX3 k0 k1 k2 k3 k4
      obtain ⟨k0, k1, k2, k3, k4⟩ := HX4.out.cells
      go_wp2_with fail
      refine Calls.mono (HG.out w4 _ _ HX4.out.grown (HIN.out w4 (grown_trans HG3.out HG4.out)) (fun h => by cases h)) ?_
      rintro e w5 ⟨a5, c5, rfl, ho5, hg5⟩
      have HX5 : Hid (PhAt w w5 w.heap.size #[.slice ta tn tc, .slice na nn nc, .slice la ln lc, .int .i64 st, .slice pa n pc]) := HX4.out.kept hg5
      have HG5 : Hid (w4.grownBy w5 none) := hg5
      have HI5 : Hid (∀ Y, w5.grownBy Y none → ItsAt Y a5 K) := fun Y hY => (ItsAt.of ho5).kept hY
      have HO5 : Hid (LikeRow w5 w2.heap.size 49 2 (.slice a5 K.length c5) K.length) := ⟨_, owns_base ho5 (grown_trans HG3.out HG4.out).size⟩
      clear hg5 ho5 HX4 k0 k1 k2 k3 k4
      obtain ⟨k0, k1, k2, k3, k4⟩ := HX5.out.cells
      go_wp2_with fail
      refine Calls.mono (HH.out w5 HX5.out.grown) ?_
      rintro e w6 ⟨a6, c6, rfl, ho6, hg6⟩
      have HG6 : Hid (w5.grownBy w6 none) := hg6
      have HI6 : Hid (∀ Y, w6.grownBy Y none → ItsAt Y a6 K) := fun Y hY => (ItsAt.of ho6).kept hY
      have HSA : Hid (Calls Try.prog 21 #[.slice a3 A.length c3, .slice a4 A.length c4] w6 fun e y => e = .returned (.bool true) ∧ w6.grownBy y none) := sameItems_any a3 a4 c3 c4 A A w6 (HI3.out w6 (grown_trans HG4.out (grown_trans HG5.out HG6.out))) (HI4.out w6 (grown_trans HG5.out HG6.out)) (by omega) (by omega) true ⟨fun _ => rfl, fun _ => rfl⟩
      have HSK : Hid (∀ Y, w6.grownBy Y none → Calls Try.prog 21 #[.slice a5 K.length c5, .slice a6 K.length c6] Y fun e y => e = .returned (.bool true) ∧ Y.grownBy y none) := fun Y hY => sameItems_any a5 a6 c5 c6 K K Y (HI5.out Y (grown_trans HG6.out hY)) (HI6.out Y hY) (by omega) (by omega) true ⟨fun _ => rfl, fun _ => rfl⟩
      clear hg6 ho6 HX5 k0 k1 k2 k3 k4 HI3 HI4 HI5 HI6
      obtain ⟨la', hla⟩ : ∃ m, m = A.length := ⟨_, rfl⟩
      obtain ⟨lk', hlk⟩ : ∃ m, m = K.length := ⟨_, rfl⟩
      rw [← hla] at HSA HO3
      rw [← hlk] at HSK HO5
      rw [← hla, ← hlk]
      have hlab : la' ≤ 8796093035208 := by omega
      have hlkb : lk' ≤ 8796093035208 := by omega
      clear hla hlk
      go_wp2_with fail
      refine Calls.mono HSA.out ?_
      rintro e w7 ⟨rfl, hg7⟩
      have HG7 : Hid (w6.grownBy w7 none) := hg7
      clear hg7 HSA
      go_wp2_with fail
      refine Calls.mono (HSK.out w7 HG7.out) ?_
      rintro e w8 ⟨rfl, hg8⟩
      have HG8 : Hid (w2.grownBy w8 none) := grown_trans HG3.out (grown_trans HG4.out (grown_trans HG5.out (grown_trans HG6.out (grown_trans HG7.out hg8))))
      have HO38 : Hid (LikeRow w8 w2.heap.size 49 2 (.slice a3 la' c3) la') := HO3.out.kept (grown_trans HG4.out (grown_trans HG5.out (grown_trans HG6.out (grown_trans HG7.out hg8))))
      have HO58 : Hid (LikeRow w8 w2.heap.size 49 2 (.slice a5 lk' c5) lk') := HO5.out.kept (grown_trans HG6.out (grown_trans HG7.out hg8))
      clear hg8 HSK HG3 HG4 HG5 HG6 HG7 HO3 HO5
      go_wp2_with fail
      go_loopg [21] la' (fun gk v21 wr => ∃ i : Nat, i ≤ la' ∧ gk = la' - i ∧ v21 = .int .i64 i ∧ w2.grownBy wr none ∧ LikeRow wr w2.heap.size 49 2 (.slice a3 la' c3) la' ∧ LikeRow wr w2.heap.size 49 2 (.slice a5 lk' c5) lk')
      case atStart => exact ⟨0, Nat.zero_le _, rfl, rfl, HG8.out, HO38.out, HO58.out⟩
      case round =>
        obtain ⟨i, hi, hgi, rfl, hg, h3, h5⟩ := hrel
        have HGI : Hid (gk = la' - i) := hgi
        have HGI2 : Hid (w2.grownBy wr none) := hg
        have H3 : Hid (LikeRow wr w2.heap.size 49 2 (.slice a3 la' c3) la') := h3
        have H5 : Hid (LikeRow wr w2.heap.size 49 2 (.slice a5 lk' c5) lk') := h5
        clear hgi hg h3 h5 HG8 HO38 HO58
        by_cases hil : i < la'
        · have hi0 : (0 : Int) ≤ (i : Int) := by omega
          have hi1 : (i : Int) < (la' : Int) := by omega
          have hid : decide (i < la') = true := decide_eq_true hil
          obtain ⟨g, c', u0, u1, hv, hB, r0, r1, hf⟩ := H3.out.at hil
          simp only [Value.slice.injEq] at hv
          obtain ⟨rfl, _, rfl⟩ := hv
          have f0 := hf (i * 2)
          have f1' := hf (i * 2 + 1)
          have HB : Hid (w2.heap.size ≤ g) := hB
          clear hf hB
          go_wp2_with fail
          go_roundg (la' - (i + 1))
          case measure => have := HGI.out; omega
          case rel => exact ⟨i + 1, by omega, rfl, by go_num, set2_grown _ _ _ _ _ HGI2.out HB.out, H3.out.set.set, H5.out.set.set⟩
        · have hin : la' = i := by omega
          subst hin
          have hid : decide (la' < la') = false := decide_eq_false (by omega)
          generalize wr = Y1 at *
          go_wp2_with fail
          go_loopg [22] lk' (fun gk v22 wr => ∃ i : Nat, i ≤ lk' ∧ gk = lk' - i ∧ v22 = .int .i64 i ∧ w2.grownBy wr none ∧ LikeRow wr w2.heap.size 49 2 (.slice a5 lk' c5) lk')
          case atStart => exact ⟨0, Nat.zero_le _, rfl, rfl, HGI2.out, H5.out⟩
          case round =>
            obtain ⟨i, hi, hgi, rfl, hg, h5⟩ := hrel
            have HGI : Hid (gk = lk' - i) := hgi
            have HGI3 : Hid (w2.grownBy wr none) := hg
            have H6 : Hid (LikeRow wr w2.heap.size 49 2 (.slice a5 lk' c5) lk') := h5
            clear hgi hg h5 H3 H5 HGI2
            by_cases hil : i < lk'
            · have hi0 : (0 : Int) ≤ (i : Int) := by omega
              have hi1 : (i : Int) < (lk' : Int) := by omega
              have hid : decide (i < lk') = true := decide_eq_true hil
              obtain ⟨g, c', u0, u1, hv, hB, r0, r1, hf⟩ := H6.out.at hil
              simp only [Value.slice.injEq] at hv
              obtain ⟨rfl, _, rfl⟩ := hv
              have f0 := hf (i * 2)
              have f1' := hf (i * 2 + 1)
              have HB : Hid (w2.heap.size ≤ g) := hB
              clear hf hB
              go_wp2_with fail
              go_roundg (lk' - (i + 1))
              case measure => have := HGI.out; omega
              case rel => exact ⟨i + 1, by omega, rfl, by go_num, set2_grown _ _ _ _ _ HGI3.out HB.out, H6.out.set.set⟩
            · have hin : lk' = i := by omega
              subst hin
              have hid : decide (lk' < lk') = false := decide_eq_false (by omega)
              go_wp2_with fail
              go_roundg (2 - (t + 1))
              case measure => have := HGT.out; omega
              case rel => exact ⟨t + 1, by omega, rfl, by go_num, HGI3.out⟩
    · have ht2 : t = 2 := by omega
      subst ht2
      have HCL := show Hid _ from HLE.out Z (grown_trans HX2.out.grown HGR.out)
      go_wp2_with fail
      refine Calls.mono HCL.out ?_
      rintro e w9 ⟨a9, c9, rfl, ho9, hg9⟩
      have HG9 : Hid (w2.grownBy w9 none) := grown_trans HGR.out hg9
      have HSF : Hid (Calls Try.prog 21 #[.slice (some ⟨g2, 0, none⟩) (I ++ [((77 : Int), (77 : Int))]).length c2, .slice a9 (I ++ [((77 : Int), (77 : Int))]).length c9] w9 fun e y => e = .returned (.bool true) ∧ w9.grownBy y none) := sameItems_any (some ⟨g2, 0, none⟩) a9 c2 c9 _ _ w9 (HAL.out w9 HG9.out) (ItsAt.of ho9) (by rw [HL7.out]; omega) (by rw [HL7.out]; omega) true ⟨fun _ => rfl, fun _ => rfl⟩
      rw [HL7.out] at HSF
      rw [HL7.out]
      clear ho9 hg9 HCL
      go_wp2_with fail
      refine Calls.mono HSF.out ?_
      rintro e w10 ⟨rfl, hg10⟩
      have HG10 : Hid (w.grownBy w10 none) := grown_trans HX2.out.grown (grown_trans HG9.out hg10)
      clear hg10 HSF
      go_wp2_with fail
      go_ret
      exact ⟨rfl, HG10.out⟩
end

end Go.Proofs.Ytdijjlhodlghbaa.J

/-
  lr0: the law Lr0Closures, for every input.
-/
namespace Go.Proofs.Ytdijjlhodlghbaa.J
open Go.RowKit Go.Maps Go.Shelf

theorem calls_exC {P : Program} {f : FuncId} {args : Array Value} {w : World} {R : Ending → World → Prop} (h : Calls P f args w R) : ∃ e y, R e y := by
  obtain ⟨e, y, _, h1, _⟩ := h []
  exact ⟨e, y, h1⟩

theorem closu_core (ta na la pa : Option Addr) (tc nc lc pc : Nat) (ts : List (ByteArray × Int)) (ns : List ByteArray) (lv : List Int) (n : Nat) (L : Nat → Int) (R : Nat → List Int) (ra : Nat → Option Addr) (rc : Nat → Nat) (V : Nat → Int) (st : Int) (w : World) (tn nn ln : Nat) (hlen : ts.length = tn ∧ ns.length = nn ∧ lv.length = ln) (hG : GAt w ta na la pa tc nc lc pc ts ns lv n L R ra rc V) (hts : ∀ t ∈ ts, t.1.size ≤ 140737488355328) (hns : ∀ s ∈ ns, s.size ≤ 140737488355328) (a : Option Addr) (cap : Nat) (I : List It) (hI : ItsAt w a I) (s : Int) (hIb : I.length ≤ 8796093022208) (hnil : a = none → I.length = 0 ∧ cap = 0) : Calls Try.prog 4 #[.agg #[.slice ta tn tc, .slice na nn nc, .slice la ln lc, .int .i64 st, .slice pa n pc], .int .i64 s, .slice a I.length cap] w fun e w' => e = .returned (.bool true) ∧ w.grownBy w' none := by
  by_cases hc : closedOK ts ns lv st n L R V ∧ ∀ x ∈ I, itB n R x = true
  · obtain ⟨hc, hit⟩ := hc
    have h1 := fun X (hX : w.grownBy X none) a' c' (hI' : ItsAt X a' I) (hn' : a' = none → I.length = 0 ∧ c' = 0) => closureOk ta na la pa tc nc lc pc ts ns lv n L R ra rc V st X tn nn ln hlen (hG.kept hX) a' c' I hI' (by omega) hn' hc hit
    have h2 := fun X (hX : w.grownBy X none) => rclosureOk ta na la pa tc nc lc pc ts ns lv n L R ra rc V st X tn nn ln hlen (hG.kept hX) a cap I (hI.kept hX) hts hns hIb hc hit
    obtain ⟨_, _, l, hl, hll, _⟩ := calls_exC (h1 w (grown_refl _ _) a cap hI hnil)
    have c1 : ∀ X a' c', w.grownBy X none → ItsAt X a' I → (a' = none → I.length = 0 ∧ c' = 0) → Calls Try.prog 17 #[.agg #[.slice ta tn tc, .slice na nn nc, .slice la ln lc, .int .i64 st, .slice pa n pc], .slice a' I.length c'] X fun e y => ItsErr l 0 X e y := fun X a' c' hX hI' hn' => by
      refine (h1 X hX a' c' hI' hn').mono ?_
      rintro e y ⟨l', h3, _, he⟩
      exact he.same (h3.unique hl)
    have c2 : ∀ X, w.grownBy X none → Calls Try.prog 18 #[.agg #[.slice ta tn tc, .slice na nn nc, .slice la ln lc, .int .i64 st, .slice pa n pc], .slice a I.length cap] X fun e y => ItsErr l 0 X e y := fun X hX => by
      refine (h2 X hX).mono ?_
      rintro e y ⟨l', h3, _, he⟩
      exact he.same (h3.unique hl)
    by_cases hs : 0 ≤ s ∧ s < ((tn + nn : Nat) : Int)
    · obtain ⟨q, rfl⟩ : ∃ q : Nat, s = (q : Int) := ⟨s.toNat, by omega⟩
      have e1 := kerT_len R l (q : Int)
      refine closu_any ta na la pa tc nc lc pc n st w tn nn ln a cap I (q : Int) hI hIb hnil l (kerT R l (q : Int)) 0 0 (by omega) (by omega) c1 c2 (fun X a' c' hX hI' hn' => ?_) (fun X hX => ?_)
      · refine (gotoOk ta na la pa tc nc lc pc ts ns lv n L R ra rc V st X tn nn ln hlen (hG.kept hX) a' c' I hI' (by omega) hn' q (by omega) hc hit).mono ?_
        rintro e y ⟨l', h3, _, he⟩
        exact he.same (by rw [h3.unique hl])
      · refine (rgotoOk ta na la pa tc nc lc pc ts ns lv n L R ra rc V st X tn nn ln hlen (hG.kept hX) a cap I (hI.kept hX) hts hns hIb q (by omega) hc hit).mono ?_
        rintro e y ⟨l', h3, _, he⟩
        exact he.same (by rw [h3.unique hl])
    · have hns' := not_symB hs
      exact closu_any ta na la pa tc nc lc pc n st w tn nn ln a cap I s hI hIb hnil l [] 0 1 (by omega) (by simp) c1 c2 (fun X a' c' hX hI' _ => gotoBad ta na la pa tc nc lc pc ts ns lv n L R ra rc V st X tn nn ln hlen (hG.kept hX) a' c' I hI' (by omega) s (.inr (.inr hns'))) (fun X hX => rgotoBad ta na la pa tc nc lc pc ts ns lv n L R ra rc V st X tn nn ln hlen (hG.kept hX) a cap I (hI.kept hX) hts hns hIb s (.inr (.inr hns')))
  · have hb : ¬ closedOK ts ns lv st n L R V ∨ ¬ ∀ x ∈ I, itB n R x = true := by
      by_cases h : closedOK ts ns lv st n L R V
      · exact .inr fun h2 => hc ⟨h, h2⟩
      · exact .inl h
    exact closu_any ta na la pa tc nc lc pc n st w tn nn ln a cap I s hI hIb hnil [] [] 1 1 (by simp) (by simp) (fun X a' c' hX hI' _ => closureBad ta na la pa tc nc lc pc ts ns lv n L R ra rc V st X tn nn ln hlen (hG.kept hX) a' c' I hI' (by omega) hb) (fun X hX => rclosureBad ta na la pa tc nc lc pc ts ns lv n L R ra rc V st X tn nn ln hlen (hG.kept hX) a cap I (hI.kept hX) hts hns hIb hb) (fun X a' c' hX hI' _ => gotoBad ta na la pa tc nc lc pc ts ns lv n L R ra rc V st X tn nn ln hlen (hG.kept hX) a' c' I hI' (by omega) s (hb.imp id .inl)) (fun X hX => rgotoBad ta na la pa tc nc lc pc ts ns lv n L R ra rc V st X tn nn ln hlen (hG.kept hX) a cap I (hI.kept hX) hts hns hIb s (hb.imp id .inl))

end Go.Proofs.Ytdijjlhodlghbaa.J
