import Derived.Test.YtgpmmhkdpjlimaaQiinmanenacdi
import Derived.Test.YtgpmmhkdpjlimaaQelhikmngdnbc
import Derived.Test.YtgpmmhkdpjlimaaQpjanbimcklkf

/-
  lr0: the law Lr0Closures, walked.
-/
namespace Go.Proofs.Ytgpmmhkdpjlimaa.J
open Go.RowKit Go.Maps Go.Shelf

attribute [local go_sem] Oper.semAt_some

/-- A row of one's own, whatever it holds. -/
def LikeRow (X : World) (B e s : Nat) (v : Value) (n : Nat) : Prop := ∃ xs, X.ownsRow B e s v n xs
theorem LikeRow.set {X : World} {B e s n g o : Nat} {v u : Value} (h : LikeRow X B e s v n) : LikeRow (X.setCell ⟨g, o, none⟩ u) B e s v n := by
  obtain ⟨xs, h1, h2⟩ := h
  rcases h2 with ⟨rfl, rfl⟩ | ⟨g2, cap, cur, rfl, hB, hh, h3, h4, h5, h6⟩
  · exact ⟨xs, h1, .inl ⟨rfl, rfl⟩⟩
  · by_cases e2 : g2 = g
    · subst e2
      refine ⟨((cur.setIfInBounds o u).toList.take (n * s)), ?_, .inr ⟨g2, cap, cur.setIfInBounds o u, rfl, hB, heap_setCell_same _ _ _ _ _ _ hh, h3, h4, by rw [Array.size_setIfInBounds]; exact h5, rfl⟩⟩
      have h7 : n * s ≤ cap * s := Nat.mul_le_mul_right _ h3
      rw [List.length_take, Array.length_toList, Array.size_setIfInBounds, h5]
      omega
    · have hg : X.grownBy (X.setCell ⟨g, o, none⟩ u) (some g) := grown_setCell _ _ _
      refine ⟨xs, h1, .inr ⟨g2, cap, cur, rfl, hB, (hg.block g2 (Array.getElem?_eq_some_iff.1 hh).1 (by simpa using e2)).trans hh, h3, h4, h5, h6⟩⟩
theorem LikeRow.kept {X Y : World} {B e s n : Nat} {v : Value} (h : LikeRow X B e s v n) (hg : X.grownBy Y none) : LikeRow Y B e s v n := by
  obtain ⟨xs, h1⟩ := h
  exact ⟨xs, keep0 h1 hg⟩
theorem LikeRow.at {X : World} {B e n i : Nat} {v : Value} (h : LikeRow X B e 2 v n) (hi : i < n) : ∃ g c u0 u1, v = .slice (some ⟨g, 0, none⟩) n c ∧ B ≤ g ∧ X.cell? ⟨g, i * 2, none⟩ = some u0 ∧ X.cell? ⟨g, i * 2 + 1, none⟩ = some u1 ∧ ∀ o, X.frozen? ⟨g, o, none⟩ = false := by
  obtain ⟨xs, h1, h2⟩ := h
  rcases h2 with ⟨rfl, rfl⟩ | ⟨g, cap, cur, rfl, hB, hh, h3, h4, h5, h6⟩
  · omega
  · refine ⟨g, cap, cur[i * 2]'(by omega), cur[i * 2 + 1]'(by omega), rfl, hB, ?_, ?_, fun o => frozen_of_row _ _ _ _ _ hh⟩
    · rw [cell_of_row _ _ _ _ _ _ hh, Array.getElem?_eq_getElem]
    · rw [cell_of_row _ _ _ _ _ _ hh, Array.getElem?_eq_getElem]
theorem set2_grown {w X : World} (g o1 o2 : Nat) (u1 u2 : Value) (h : w.grownBy X none) (hg : w.heap.size ≤ g) : w.grownBy ((X.setCell ⟨g, o1, none⟩ u1).setCell ⟨g, o2, none⟩ u2) none :=
  grown_new h (grown_trans (grown_setCell _ _ _) (grown_setCell _ _ _)) hg

section
variable (ta na la pa : Option Addr) (tc nc lc pc : Nat) (n : Nat) (st : Int) (w : World) (tn nn ln : Nat) (a : Option Addr) (cap : Nat) (I : List It) (s : Int)

set_option maxRecDepth 100000 in
set_option maxHeartbeats 4000000 in
theorem closu_any (hI : ItsAt w a I) (hIb : I.length ≤ 8796093022208) (hnil : a = none → I.length = 0 ∧ cap = 0) (A K : List It) (e1 f1 : Int) (hA : A.length ≤ 8796093035208) (hK : K.length ≤ 8796093035208)
    (hC : ∀ X a' c', w.grownBy X none → ItsAt X a' I → (a' = none → I.length = 0 ∧ c' = 0) → Calls Try.prog 17 #[.agg #[.slice ta tn tc, .slice na nn nc, .slice la ln lc, .int .i64 st, .slice pa n pc], .slice a' I.length c'] X fun e y => ItsErr A e1 X e y)
    (hD : ∀ X, w.grownBy X none → Calls Try.prog 18 #[.agg #[.slice ta tn tc, .slice na nn nc, .slice la ln lc, .int .i64 st, .slice pa n pc], .slice a I.length cap] X fun e y => ItsErr A e1 X e y)
    (hG : ∀ X a' c', w.grownBy X none → ItsAt X a' I → (a' = none → I.length = 0 ∧ c' = 0) → Calls Try.prog 19 #[.agg #[.slice ta tn tc, .slice na nn nc, .slice la ln lc, .int .i64 st, .slice pa n pc], .int .i64 s, .slice a' I.length c'] X fun e y => ItsErr K f1 X e y)
    (hH : ∀ X, w.grownBy X none → Calls Try.prog 20 #[.agg #[.slice ta tn tc, .slice na nn nc, .slice la ln lc, .int .i64 st, .slice pa n pc], .int .i64 s, .slice a I.length cap] X fun e y => ItsErr K f1 X e y) :
    Calls Try.prog 4 #[.agg #[.slice ta tn tc, .slice na nn nc, .slice la ln lc, .int .i64 st, .slice pa n pc], .int .i64 s, .slice a I.length cap] w fun e w' => e = .returned (.bool true) ∧ w.grownBy w' none := by
  have HC := show Hid _ from hC
  have HD := show Hid _ from hD
  have HG := show Hid _ from hG
  have HH := show Hid _ from hH
  have HI : Hid (ItsAt w a I) := hI
  have HLE : Hid (∀ X, w.grownBy X none → Calls Try.prog 16 #[.slice a I.length cap] X fun e y => ItsTold (I ++ [(77, 77)]) X e y) := fun X hX => lent_any a cap I X (hI.kept hX) hnil hIb
  have HX0 : Hid (PhAt w (w.alloc (.cells #[.slice ta tn tc, .slice na nn nc, .slice la ln lc, .int .i64 st, .slice pa n pc] 27)) w.heap.size #[.slice ta tn tc, .slice na nn nc, .slice la ln lc, .int .i64 st, .slice pa n pc]) := ⟨World.grownBy_alloc _ _ none, heap_alloc_last w _⟩
  obtain ⟨N, hN⟩ : ∃ n, n = I.length := ⟨_, rfl⟩
  have HN : Hid (N = I.length) := hN
  have HL7 : Hid ((I ++ [((77 : Int), (77 : Int))]).length = N + 1) := by show _ = _; rw [List.length_append, hN]; rfl
  rw [← hN] at hIb HC HD HG HH HLE
  rw [← hN]
  clear hC hD hG hH hN hI hnil
  go_enter Try.func4, Try.ntmps4
  go_wp2_with fail
  refine Calls.mono (awake_any _) ?_
  rintro e w1 ⟨rfl, hg1⟩
  have HX1 : Hid (PhAt w w1 w.heap.size #[.slice ta tn tc, .slice na nn nc, .slice la ln lc, .int .i64 st, .slice pa n pc]) := HX0.out.kept hg1
  clear hg1 HX0
  go_wp2_with fail
  refine Calls.mono (HLE.out _ HX1.out.grown) ?_
  rintro e w2 ⟨a2, c2, rfl, ho2, hg2⟩
  have HX2 : Hid (PhAt w w2 w.heap.size #[.slice ta tn tc, .slice na nn nc, .slice la ln lc, .int .i64 st, .slice pa n pc]) := HX1.out.kept hg2
  obtain ⟨g2, c2', he2, _⟩ := owns_at ho2 (by rw [HL7.out]; omega)
  simp only [Value.slice.injEq] at he2
  obtain ⟨rfl, _, rfl⟩ := he2
  have HAL : Hid (∀ Y, w2.grownBy Y none → ItsAt Y (some ⟨g2, 0, none⟩) (I ++ [(77, 77)])) := fun Y hY => (ItsAt.of ho2).kept hY
  have HIN : Hid (∀ Y, w2.grownBy Y none → ItsAt Y (some ⟨g2, 0, none⟩) I) := fun Y hY => by
    rcases HAL.out Y hY with h | ⟨b, off, e, h⟩
    · simp at h
    · refine .inr ⟨b, off, e, fun i hi => ?_⟩
      have h2 := h i (by rw [List.length_append]; omega)
      rw [List.getD_eq_getElem?_getD, List.getElem?_append_left hi, ← List.getD_eq_getElem?_getD] at h2
      exact h2
  have hc2 : N + 1 ≤ c2 := by
    rcases ho2.2 with ⟨h1, _⟩ | ⟨g, cc, cur, h1, _, _, h3, _⟩
    · cases h1
    · simp only [Value.slice.injEq] at h1
      rw [HL7.out] at h3
      omega
  have hNi : (N : Int) ≤ (c2 : Int) := by omega
  have hN0 : (0 : Int) ≤ (N : Int) := by omega
  rw [HL7.out]
  clear ho2 hg2 HX1
  go_wp2_with fail
  go_loopg [10] 2 (fun gk v10 wr => ∃ t : Nat, t ≤ 2 ∧ gk = 2 - t ∧ v10 = .int .i64 t ∧ w2.grownBy wr none)
  case atStart => exact ⟨0, by omega, rfl, rfl, grown_refl _ _⟩
  case round =>
    obtain ⟨t, ht, hgt, rfl, hg⟩ := hrel
    have HGT : Hid (gk = 2 - t) := hgt
    have HGR : Hid (w2.grownBy wr none) := hg
    clear hgt hg
    generalize wr = Z at *
    by_cases hlt : t < 2
    · have htd : decide (t < 2) = true := decide_eq_true hlt
      have htd2 : decide ((t : Int) < 2) = true := decide_eq_true (by omega)
      have HXZ : Hid (PhAt w Z w.heap.size #[.slice ta tn tc, .slice na nn nc, .slice la ln lc, .int .i64 st, .slice pa n pc]) := HX2.out.kept HGR.out
      obtain ⟨k0, k1, k2, k3, k4⟩ := HXZ.out.cells
      go_wp2_with fail
      refine Calls.mono (HC.out Z _ _ HXZ.out.grown (HIN.out Z HGR.out) (fun h => by cases h)) ?_
      rintro e w3 ⟨a3, c3, rfl, ho3, hg3⟩
      have HX3 : Hid (PhAt w w3 w.heap.size #[.slice ta tn tc, .slice na nn nc, .slice la ln lc, .int .i64 st, .slice pa n pc]) := HXZ.out.kept hg3
      have HG3 : Hid (w2.grownBy w3 none) := grown_trans HGR.out hg3
      have HI3 : Hid (∀ Y, w3.grownBy Y none → ItsAt Y a3 A) := fun Y hY => (ItsAt.of ho3).kept hY
      have HO3 : Hid (LikeRow w3 w2.heap.size 49 2 (.slice a3 A.length c3) A.length) := ⟨_, owns_base ho3 HGR.out.size⟩
      clear hg3 ho3 HXZ k0 k1 k2 k3 k4
      obtain ⟨k0, k1, k2, k3, k4⟩ := HX3.out.cells
      go_wp2_with fail
      refine Calls.mono (HD.out w3 HX3.out.grown) ?_
      rintro e w4 ⟨a4, c4, rfl, ho4, hg4⟩
      have HX4 : Hid (PhAt w w4 w.heap.size #[.slice ta tn tc, .slice na nn nc, .slice la ln lc, .int .i64 st, .slice pa n pc]) := HX3.out.kept hg4
      have HG4 : Hid (w3.grownBy w4 none) := hg4
      have HI4 : Hid (∀ Y, w4.grownBy Y none → ItsAt Y a4 A) := fun Y hY => (ItsAt.of ho4).kept hY
      clear hg4 ho4 HX3 k0 k1 k2 k3 k4
      obtain ⟨k0, k1, k2, k3, k4⟩ := HX4.out.cells
      go_wp2_with fail
      refine Calls.mono (HG.out w4 _ _ HX4.out.grown (HIN.out w4 (grown_trans HG3.out HG4.out)) (fun h => by cases h)) ?_
      rintro e w5 ⟨a5, c5, rfl, ho5, hg5⟩
      have HX5 : Hid (PhAt w w5 w.heap.size #[.slice ta tn tc, .slice na nn nc, .slice la ln lc, .int .i64 st, .slice pa n pc]) := HX4.out.kept hg5
      have HG5 : Hid (w4.grownBy w5 none) := hg5
      have HI5 : Hid (∀ Y, w5.grownBy Y none → ItsAt Y a5 K) := fun Y hY => (ItsAt.of ho5).kept hY
      have HO5 : Hid (LikeRow w5 w2.heap.size 49 2 (.slice a5 K.length c5) K.length) := ⟨_, owns_base ho5 (grown_trans HG3.out HG4.out).size⟩
      clear hg5 ho5 HX4 k0 k1 k2 k3 k4
      obtain ⟨k0, k1, k2, k3, k4⟩ := HX5.out.cells
      go_wp2_with fail
      refine Calls.mono (HH.out w5 HX5.out.grown) ?_
      rintro e w6 ⟨a6, c6, rfl, ho6, hg6⟩
      have HG6 : Hid (w5.grownBy w6 none) := hg6
      have HI6 : Hid (∀ Y, w6.grownBy Y none → ItsAt Y a6 K) := fun Y hY => (ItsAt.of ho6).kept hY
      have HSA : Hid (Calls Try.prog 21 #[.slice a3 A.length c3, .slice a4 A.length c4] w6 fun e y => e = .returned (.bool true) ∧ w6.grownBy y none) := sameItems_any a3 a4 c3 c4 A A w6 (HI3.out w6 (grown_trans HG4.out (grown_trans HG5.out HG6.out))) (HI4.out w6 (grown_trans HG5.out HG6.out)) (by omega) (by omega) true ⟨fun _ => rfl, fun _ => rfl⟩
      have HSK : Hid (∀ Y, w6.grownBy Y none → Calls Try.prog 21 #[.slice a5 K.length c5, .slice a6 K.length c6] Y fun e y => e = .returned (.bool true) ∧ Y.grownBy y none) := fun Y hY => sameItems_any a5 a6 c5 c6 K K Y (HI5.out Y (grown_trans HG6.out hY)) (HI6.out Y hY) (by omega) (by omega) true ⟨fun _ => rfl, fun _ => rfl⟩
      clear hg6 ho6 HX5 k0 k1 k2 k3 k4 HI3 HI4 HI5 HI6
      obtain ⟨la', hla⟩ : ∃ m, m = A.length := ⟨_, rfl⟩
      obtain ⟨lk', hlk⟩ : ∃ m, m = K.length := ⟨_, rfl⟩
      rw [← hla] at HSA HO3
      rw [← hlk] at HSK HO5
      rw [← hla, ← hlk]
      have hlab : la' ≤ 8796093035208 := by omega
      have hlkb : lk' ≤ 8796093035208 := by omega
      clear hla hlk
      go_wp2_with fail
      refine Calls.mono HSA.out ?_
      rintro e w7 ⟨rfl, hg7⟩
      have HG7 : Hid (w6.grownBy w7 none) := hg7
      clear hg7 HSA
      go_wp2_with fail
      refine Calls.mono (HSK.out w7 HG7.out) ?_
      rintro e w8 ⟨rfl, hg8⟩
      have HG8 : Hid (w2.grownBy w8 none) := grown_trans HG3.out (grown_trans HG4.out (grown_trans HG5.out (grown_trans HG6.out (grown_trans HG7.out hg8))))
      have HO38 : Hid (LikeRow w8 w2.heap.size 49 2 (.slice a3 la' c3) la') := HO3.out.kept (grown_trans HG4.out (grown_trans HG5.out (grown_trans HG6.out (grown_trans HG7.out hg8))))
      have HO58 : Hid (LikeRow w8 w2.heap.size 49 2 (.slice a5 lk' c5) lk') := HO5.out.kept (grown_trans HG6.out (grown_trans HG7.out hg8))
      clear hg8 HSK HG3 HG4 HG5 HG6 HG7 HO3 HO5
      go_wp2_with fail
      go_loopg [21] la' (fun gk v21 wr => ∃ i : Nat, i ≤ la' ∧ gk = la' - i ∧ v21 = .int .i64 i ∧ w2.grownBy wr none ∧ LikeRow wr w2.heap.size 49 2 (.slice a3 la' c3) la' ∧ LikeRow wr w2.heap.size 49 2 (.slice a5 lk' c5) lk')
      case atStart => exact ⟨0, Nat.zero_le _, rfl, rfl, HG8.out, HO38.out, HO58.out⟩
      case round =>
        obtain ⟨i, hi, hgi, rfl, hg, h3, h5⟩ := hrel
        have HGI : Hid (gk = la' - i) := hgi
        have HGI2 : Hid (w2.grownBy wr none) := hg
        have H3 : Hid (LikeRow wr w2.heap.size 49 2 (.slice a3 la' c3) la') := h3
        have H5 : Hid (LikeRow wr w2.heap.size 49 2 (.slice a5 lk' c5) lk') := h5
        clear hgi hg h3 h5 HG8 HO38 HO58
        by_cases hil : i < la'
        · have hi0 : (0 : Int) ≤ (i : Int) := by omega
          have hi1 : (i : Int) < (la' : Int) := by omega
          have hid : decide (i < la') = true := decide_eq_true hil
          obtain ⟨g, c', u0, u1, hv, hB, r0, r1, hf⟩ := H3.out.at hil
          simp only [Value.slice.injEq] at hv
          obtain ⟨rfl, _, rfl⟩ := hv
          have f0 := hf (i * 2)
          have f1' := hf (i * 2 + 1)
          have HB : Hid (w2.heap.size ≤ g) := hB
          clear hf hB
          go_wp2_with fail
          go_roundg (la' - (i + 1))
          case measure => have := HGI.out; omega
          case rel => exact ⟨i + 1, by omega, rfl, by go_num, set2_grown _ _ _ _ _ HGI2.out HB.out, H3.out.set.set, H5.out.set.set⟩
        · have hin : la' = i := by omega
          subst hin
          have hid : decide (la' < la') = false := decide_eq_false (by omega)
          generalize wr = Y1 at *
          go_wp2_with fail
          go_loopg [22] lk' (fun gk v22 wr => ∃ i : Nat, i ≤ lk' ∧ gk = lk' - i ∧ v22 = .int .i64 i ∧ w2.grownBy wr none ∧ LikeRow wr w2.heap.size 49 2 (.slice a5 lk' c5) lk')
          case atStart => exact ⟨0, Nat.zero_le _, rfl, rfl, HGI2.out, H5.out⟩
          case round =>
            obtain ⟨i, hi, hgi, rfl, hg, h5⟩ := hrel
            have HGI : Hid (gk = lk' - i) := hgi
            have HGI3 : Hid (w2.grownBy wr none) := hg
            have H6 : Hid (LikeRow wr w2.heap.size 49 2 (.slice a5 lk' c5) lk') := h5
            clear hgi hg h5 H3 H5 HGI2
            by_cases hil : i < lk'
            · have hi0 : (0 : Int) ≤ (i : Int) := by omega
              have hi1 : (i : Int) < (lk' : Int) := by omega
              have hid : decide (i < lk') = true := decide_eq_true hil
              obtain ⟨g, c', u0, u1, hv, hB, r0, r1, hf⟩ := H6.out.at hil
              simp only [Value.slice.injEq] at hv
              obtain ⟨rfl, _, rfl⟩ := hv
              have f0 := hf (i * 2)
              have f1' := hf (i * 2 + 1)
              have HB : Hid (w2.heap.size ≤ g) := hB
              clear hf hB
              go_wp2_with fail
              go_roundg (lk' - (i + 1))
              case measure => have := HGI.out; omega
              case rel => exact ⟨i + 1, by omega, rfl, by go_num, set2_grown _ _ _ _ _ HGI3.out HB.out, H6.out.set.set⟩
            · have hin : lk' = i := by omega
              subst hin
              have hid : decide (lk' < lk') = false := decide_eq_false (by omega)
              go_wp2_with fail
              go_roundg (2 - (t + 1))
              case measure => have := HGT.out; omega
              case rel => exact ⟨t + 1, by omega, rfl, by go_num, HGI3.out⟩
    · have ht2 : t = 2 := by omega
      subst ht2
      have HCL := show Hid _ from HLE.out Z (grown_trans HX2.out.grown HGR.out)
      go_wp2_with fail
      refine Calls.mono HCL.out ?_
      rintro e w9 ⟨a9, c9, rfl, ho9, hg9⟩
      have HG9 : Hid (w2.grownBy w9 none) := grown_trans HGR.out hg9
      have HSF : Hid (Calls Try.prog 21 #[.slice (some ⟨g2, 0, none⟩) (I ++ [((77 : Int), (77 : Int))]).length c2, .slice a9 (I ++ [((77 : Int), (77 : Int))]).length c9] w9 fun e y => e = .returned (.bool true) ∧ w9.grownBy y none) := sameItems_any (some ⟨g2, 0, none⟩) a9 c2 c9 _ _ w9 (HAL.out w9 HG9.out) (ItsAt.of ho9) (by rw [HL7.out]; omega) (by rw [HL7.out]; omega) true ⟨fun _ => rfl, fun _ => rfl⟩
      rw [HL7.out] at HSF
      rw [HL7.out]
      clear ho9 hg9 HCL
      go_wp2_with fail
      refine Calls.mono HSF.out ?_
      rintro e w10 ⟨rfl, hg10⟩
      have HG10 : Hid (w.grownBy w10 none) := grown_trans HX2.out.grown (grown_trans HG9.out hg10)
      clear hg10 HSF
      go_wp2_with fail
      go_ret
      exact ⟨rfl, HG10.out⟩
end

end Go.Proofs.Ytgpmmhkdpjlimaa.J

/-
  lr0: the document's isItem, After, has; its closures, pure.
-/
namespace Go.Proofs.Ytgpmmhkdpjlimaa.J
open Go.RowKit Go.Maps Go.Shelf

attribute [local go_sem] Oper.semAt_some

section
variable (ta na la pa : Option Addr) (tc nc lc pc : Nat) (ts : List (ByteArray × Int)) (ns : List ByteArray) (lv : List Int) (n : Nat) (L : Nat → Int) (R : Nat → List Int) (ra : Nat → Option Addr) (rc : Nat → Nat) (V : Nat → Int) (st : Int) (w : World) (tn nn ln : Nat)

set_option maxRecDepth 100000 in
set_option maxHeartbeats 1000000 in
theorem risItem_any (hP : ProdsAt w pa n L R ra rc V) (x : It) : Calls Try.prog 56 #[.agg #[.slice ta tn tc, .slice na nn nc, .slice la ln lc, .int .i64 st, .slice pa n pc], .agg #[.int .i64 x.1, .int .i64 x.2]] w fun e y => e = .returned (.bool (itB n R x)) ∧ w.grownBy y none := by
  obtain ⟨p, d⟩ := x
  simp only
  have HG0 : Hid (w.grownBy ((w.alloc (.cells #[.slice ta tn tc, .slice na nn nc, .slice la ln lc, .int .i64 st, .slice pa n pc] 27)).alloc (.cells #[.int .i64 p, .int .i64 d] 49)) none) := grown_trans (World.grownBy_alloc _ _ none) (World.grownBy_alloc _ _ none)
  by_cases h0 : 0 ≤ p
  · have d0 : decide (0 ≤ p) = true := decide_eq_true h0
    obtain ⟨k, rfl⟩ : ∃ k : Nat, p = (k : Int) := ⟨p.toNat, by omega⟩
    by_cases h1 : k < n
    · have d1 : decide (k < n) = true := decide_eq_true h1
      obtain ⟨bp, op, rfl, hp⟩ : ∃ bp op, pa = some ⟨bp, op, none⟩ ∧ w.cell? ⟨bp, op + k * 3 + 1, none⟩ = some (.slice (ra k) (R k).length (rc k)) := by
        rcases hP with h | ⟨bp, op, e, h⟩
        · omega
        · exact ⟨bp, op, e, (h k h1).2.1⟩
      have hk0 : (0 : Int) ≤ (k : Int) := by omega
      have hk1 : (k : Int) < (n : Int) := by omega
      obtain ⟨rl, hrl⟩ : ∃ r, r = (R k).length := ⟨_, rfl⟩
      rw [← hrl] at hp
      have p1 : ((w.alloc (.cells #[.slice ta tn tc, .slice na nn nc, .slice la ln lc, .int .i64 st, .slice (some ⟨bp, op, none⟩) n pc] 27)).alloc (.cells #[.int .i64 (k : Int), .int .i64 d] 49)).cell? ⟨bp, op + k * 3 + 1, none⟩ = some (.slice (ra k) rl (rc k)) := HG0.out.cell hp (by simp)
      by_cases h2 : 0 ≤ d
      · have d2 : decide (0 ≤ d) = true := decide_eq_true h2
        obtain ⟨j, rfl⟩ : ∃ j : Nat, d = (j : Int) := ⟨d.toNat, by omega⟩
        have HR : Hid (itB n R ((k : Int), (j : Int)) = decide (j ≤ rl)) := by
          show _ = _
          unfold itB
          simp only [Int.toNat_natCast, ← hrl]
          rw [d0, d2, decide_eq_true hk1]
          simp
        clear hrl hP hp
        by_cases h3 : j ≤ rl
        · have d3 : decide (j ≤ rl) = true := decide_eq_true h3
          go_enter Try.func56, Try.ntmps56
          go_wp2_with fail
          go_quiet (fail)
          go_wp2_with fail
          go_ret
          exact ⟨by rw [HR.out, d3]; rfl, grown_trans HG0.out (grown_drewN _ _)⟩
        · have d3 : decide (j ≤ rl) = false := decide_eq_false h3
          go_enter Try.func56, Try.ntmps56
          go_wp2_with fail
          go_quiet (fail)
          go_wp2_with fail
          go_ret
          exact ⟨by rw [HR.out, d3]; rfl, grown_trans HG0.out (grown_drewN _ _)⟩
      · have d2 : decide (0 ≤ d) = false := decide_eq_false h2
        have HR : Hid (itB n R ((k : Int), d) = false) := by show _ = _; unfold itB; simp only; rw [d2]; simp
        clear hrl hP hp p1
        go_enter Try.func56, Try.ntmps56
        go_wp2_with fail
        go_quiet (fail)
        go_wp2_with fail
        go_ret
        exact ⟨by rw [HR.out]; rfl, grown_trans HG0.out (grown_drewN _ _)⟩
    · have d1 : decide (k < n) = false := decide_eq_false h1
      have HR : Hid (itB n R ((k : Int), d) = false) := by show _ = _; unfold itB; simp only; rw [decide_eq_false (by omega : ¬ (k : Int) < (n : Int))]; simp
      clear hP
      go_enter Try.func56, Try.ntmps56
      go_wp2_with fail
      go_quiet (fail)
      go_wp2_with fail
      go_ret
      exact ⟨by rw [HR.out]; rfl, grown_trans HG0.out (grown_drewN _ _)⟩
  · have d0 : decide (0 ≤ p) = false := decide_eq_false h0
    have HR : Hid (itB n R (p, d) = false) := by show _ = _; unfold itB; simp only; rw [d0]; simp
    clear hP
    go_enter Try.func56, Try.ntmps56
    go_wp2_with fail
    go_quiet (fail)
    go_wp2_with fail
    go_ret
    exact ⟨by rw [HR.out]; rfl, grown_trans HG0.out (grown_drewN _ _)⟩

set_option maxRecDepth 100000 in
set_option maxHeartbeats 1000000 in
theorem rafter_any (hP : ProdsAt w pa n L R ra rc V) (x : It) (hx : itB n R x = true) : Calls Try.prog 41 #[.agg #[.slice ta tn tc, .slice na nn nc, .slice la ln lc, .int .i64 st, .slice pa n pc], .agg #[.int .i64 x.1, .int .i64 x.2]] w fun e y => e = .returned (.int .i64 (aheadV R x)) ∧ w.grownBy y none := by
  obtain ⟨p, d⟩ := x
  simp only
  have HG0 : Hid (w.grownBy ((w.alloc (.cells #[.slice ta tn tc, .slice na nn nc, .slice la ln lc, .int .i64 st, .slice pa n pc] 27)).alloc (.cells #[.int .i64 p, .int .i64 d] 49)) none) := grown_trans (World.grownBy_alloc _ _ none) (World.grownBy_alloc _ _ none)
  unfold itB at hx
  simp only [Bool.and_eq_true, decide_eq_true_eq] at hx
  obtain ⟨⟨⟨h0, h1⟩, h2⟩, h3⟩ := hx
  obtain ⟨k, rfl⟩ : ∃ k : Nat, p = (k : Int) := ⟨p.toNat, by omega⟩
  obtain ⟨j, rfl⟩ : ∃ j : Nat, d = (j : Int) := ⟨d.toNat, by omega⟩
  rw [Int.toNat_natCast] at h3
  have hkn : k < n := by omega
  obtain ⟨bp, op, rfl, hp, hI, hrb⟩ : ∃ bp op, pa = some ⟨bp, op, none⟩ ∧ w.cell? ⟨bp, op + k * 3 + 1, none⟩ = some (.slice (ra k) (R k).length (rc k)) ∧ IntsAt w (ra k) (R k) ∧ (R k).length ≤ 17592186044416 := by
    rcases hP with h | ⟨bp, op, e, h⟩
    · omega
    · exact ⟨bp, op, e, (h k hkn).2.1, (h k hkn).2.2.2.1, (h k hkn).2.2.2.2.2⟩
  have hk0 : (0 : Int) ≤ (k : Int) := by omega
  have hk1 : (k : Int) < (n : Int) := by omega
  obtain ⟨rl, hrl⟩ : ∃ r, r = (R k).length := ⟨_, rfl⟩
  rw [← hrl] at hp hrb h3
  have p1 : ((w.alloc (.cells #[.slice ta tn tc, .slice na nn nc, .slice la ln lc, .int .i64 st, .slice (some ⟨bp, op, none⟩) n pc] 27)).alloc (.cells #[.int .i64 (k : Int), .int .i64 (j : Int)] 49)).cell? ⟨bp, op + k * 3 + 1, none⟩ = some (.slice (ra k) rl (rc k)) := HG0.out.cell hp (by simp)
  by_cases he : j = rl
  · have hd : ((j : Int) == (rl : Int)) = true := beq_iff_eq.2 (by omega)
    have hd2 : (j == rl) = true := beq_iff_eq.2 he
    have HR : Hid (aheadV R ((k : Int), (j : Int)) = -1) := by
      show _ = _
      unfold aheadV
      rw [if_pos (by simp only [Int.toNat_natCast]; rw [← hrl]; omega)]
    clear hP hp hI hrl he h3
    go_enter Try.func41, Try.ntmps41
    go_wp2_with fail
    go_ret
    exact ⟨by rw [HR.out]; rfl, HG0.out⟩
  · have hjl : j < rl := by omega
    have hd : ((j : Int) == (rl : Int)) = false := beq_eq_false_iff_ne.2 (by omega)
    have hd2 : (j == rl) = false := beq_eq_false_iff_ne.2 he
    have hj0 : (0 : Int) ≤ (j : Int) := by omega
    have hj1 : (j : Int) < (rl : Int) := by omega
    obtain ⟨rb, ro, hrk, hc⟩ : ∃ rb ro, ra k = some ⟨rb, ro, none⟩ ∧ w.cell? ⟨rb, ro + j, none⟩ = some (.int .i64 ((R k).getD j 0)) := by
      rcases hI with h | ⟨b, off, e, h⟩
      · rw [hrl, h] at hjl; cases hjl
      · exact ⟨b, off, e, h j (by rw [← hrl]; exact hjl)⟩
    rw [hrk] at p1
    have c1 : ((w.alloc (.cells #[.slice ta tn tc, .slice na nn nc, .slice la ln lc, .int .i64 st, .slice (some ⟨bp, op, none⟩) n pc] 27)).alloc (.cells #[.int .i64 (k : Int), .int .i64 (j : Int)] 49)).cell? ⟨rb, ro + j, none⟩ = some (.int .i64 ((R k).getD j 0)) := HG0.out.cell hc (by simp)
    have HR : Hid (aheadV R ((k : Int), (j : Int)) = (R k).getD j 0) := by
      show _ = _
      unfold aheadV
      rw [if_neg (by simp only [Int.toNat_natCast]; rw [← hrl]; omega)]
      simp only [Int.toNat_natCast]
    obtain ⟨z, hz⟩ : ∃ z, z = (R k).getD j 0 := ⟨_, rfl⟩
    rw [← hz] at c1 HR
    clear hP hp hI hrl he hc hz hrk h3
    go_enter Try.func41, Try.ntmps41
    go_wp2_with fail
    go_ret
    exact ⟨by rw [HR.out]; rfl, HG0.out⟩
end

set_option maxRecDepth 100000 in
theorem rhas_any (a : Option Addr) (c : Nat) (l : List It) (x : It) (w : World) (hl : ItsAt w a l) (hb : l.length ≤ 1099511627776000) (r : Bool) (hr : r = true ↔ x ∈ l) :
    Calls Try.prog 42 #[.slice a l.length c, .agg #[.int .i64 x.1, .int .i64 x.2]] w fun e y => e = .returned (.bool r) ∧ w.grownBy y none := by
  obtain ⟨xp, xd⟩ := x
  simp only
  obtain ⟨n1, hn1⟩ : ∃ n, n = l.length := ⟨_, rfl⟩
  have HR : Hid (r = true ↔ (xp, xd) ∈ l) := hr
  have HN : Hid (n1 = l.length) := hn1
  have HI : Hid (∀ X, w.grownBy X none → ItsAt X a l) := fun X hX => hl.kept hX
  have HX0 : Hid (w.grownBy (w.alloc (.cells #[.int .i64 xp, .int .i64 xd] 49)) none) := World.grownBy_alloc _ _ none
  have HB0 : Hid ((w.alloc (.cells #[.int .i64 xp, .int .i64 xd] 49)).heap[w.heap.size]? = some (.cells #[.int .i64 xp, .int .i64 xd] 49 (0, 0))) := heap_alloc_last w _
  rw [← hn1] at hb
  rw [← hn1]
  have hgu := guard_item
  clear hr hn1 hl
  go_enter Try.func42, Try.ntmps42
  go_wp2_with fail
  go_loopg [5] n1 (fun gk v5 wr => ∃ j : Nat, j ≤ n1 ∧ gk = n1 - j ∧ v5 = .int .i64 j ∧ w.grownBy wr none ∧ wr.heap[w.heap.size]? = some (.cells #[.int .i64 xp, .int .i64 xd] 49 (0, 0)) ∧ ∀ i, i < j → l.getD i (0, 0) ≠ (xp, xd))
  case atStart => exact ⟨0, Nat.zero_le _, rfl, rfl, HX0.out, HB0.out, fun i hi => absurd hi (Nat.not_lt_zero _)⟩
  case round =>
    obtain ⟨j, hj, hgj, rfl, hg, hbx, hs⟩ := hrel
    have HGJ : Hid (gk = n1 - j) := hgj
    have HG : Hid (w.grownBy wr none) := hg
    have HBX : Hid (wr.heap[w.heap.size]? = some (.cells #[.int .i64 xp, .int .i64 xd] 49 (0, 0))) := hbx
    have HS : Hid (∀ i, i < j → l.getD i (0, 0) ≠ (xp, xd)) := hs
    clear hgj hg hs hbx HX0 HB0
    have z0 : wr.cell? ⟨w.heap.size, 0, none⟩ = some (.int .i64 xp) := by rw [cell_of_row _ _ _ _ _ _ HBX.out]; rfl
    have z1 : wr.cell? ⟨w.heap.size, 1, none⟩ = some (.int .i64 xd) := by rw [cell_of_row _ _ _ _ _ _ HBX.out]; rfl
    by_cases hlt : j < n1
    · have hj0 : (0 : Int) ≤ (j : Int) := by omega
      have hj1 : (j : Int) < (n1 : Int) := by omega
      have hjd : decide (j < n1) = true := decide_eq_true hlt
      have hjl : j < l.length := by rw [← HN.out]; exact hlt
      obtain ⟨b1, o1, rfl, c0, c1'⟩ := (HI.out wr HG.out).at hjl
      have HME : Hid (l.getD j (0, 0) ∈ l) := by show _ ∈ _; rw [List.getD_eq_getElem?_getD, List.getElem?_eq_getElem hjl]; exact List.getElem_mem hjl
      obtain ⟨y, hy⟩ : ∃ y, y = l.getD j (0, 0) := ⟨_, rfl⟩
      have HY : Hid (y = l.getD j (0, 0)) := hy
      rw [← hy] at c0 c1'
      clear hy hjl
      obtain ⟨yp, yd⟩ := y
      simp only at c0 c1'
      obtain ⟨bb, hbb⟩ : ∃ b, b = (yp == xp && yd == xd) := ⟨_, rfl⟩
      have HBB : Hid (bb = true ↔ l.getD j (0, 0) = (xp, xd)) := by
        rw [← HY.out, hbb, Bool.and_eq_true, beq_iff_eq, beq_iff_eq]
        exact ⟨fun h => Prod.ext h.1 h.2, fun h => ⟨congrArg Prod.fst h, congrArg Prod.snd h⟩⟩
      have hE : ∀ X : World, (binOp .eql 49 (.agg #[.int .i64 yp, .int .i64 yd]) (.agg #[.int .i64 xp, .int .i64 xd])).run Try.prog X = .ok (.bool bb) X := fun X => by rw [hbb]; exact eq_item yp yd xp xd X
      clear hbb
      cases bb with
      | true =>
        have HRT : Hid (r = true) := HR.out.2 (by rw [← HBB.out.1 rfl]; exact HME.out)
        clear HBB
        go_wp2_with fail
        go_quiet (fail)
        go_wp2_with fail
        go_ret
        exact ⟨by rw [HRT.out]; rfl, grown_trans HG.out (grown_drewN _ _)⟩
      | false =>
        have HNE : Hid (l.getD j (0, 0) ≠ (xp, xd)) := fun h => absurd (HBB.out.2 h) (by decide)
        clear HBB
        go_wp2_with fail
        go_quiet (fail)
        go_wp2_with fail
        go_roundg (n1 - (j + 1))
        case measure => have := HGJ.out; omega
        case rel => exact ⟨j + 1, by omega, rfl, by go_num, grown_trans HG.out (grown_drewN _ _), HBX.out, fun i hi => by
          by_cases e : i = j
          · rw [e]; exact HNE.out
          · exact HS.out i (by omega)⟩
    · have hjn : n1 = j := by omega
      subst hjn
      have hjd : decide (n1 < n1) = false := decide_eq_false (by omega)
      have HRF : Hid (r = false) := by
        show _ = _
        cases hrr : r with
        | false => rfl
        | true =>
          obtain ⟨i, hi, e⟩ := List.getElem_of_mem (HR.out.1 hrr)
          exact absurd (by rw [List.getD_eq_getElem?_getD, List.getElem?_eq_getElem hi, e]; rfl) (HS.out i (by rw [HN.out]; exact hi))
      go_wp2_with fail
      go_ret
      exact ⟨by rw [HRF.out]; rfl, HG.out⟩

section
variable {tn n : Nat} {L : Nat → Int} {R : Nat → List Int} {I : List It}
theorem CwP.start' {A : List It} (h : ∀ x, x ∈ A ↔ x ∈ I) : CwP tn n L R I A (fun _ => false) 0 := ⟨fun x hx => Clo.base ((h x).1 hx), fun x hx => (h x).2 hx, fun _ h => (by simp at h), fun _ h => absurd h (Nat.not_lt_zero _)⟩
theorem CwP.bring' {A M : List It} {b b' : Nat → Bool} {i s : Nat} (h : CwP tn n L R I A b i) (hi : i < A.length) (hs : aheadV R (A.getD i (0, 0)) = (s : Int)) (ht : tn ≤ s) (hb : ∀ j, b' j = true ↔ j = s ∨ b j = true) (hM : ∀ x ∈ M, ∃ k : Nat, k < n ∧ L k = (s : Int) ∧ x = ((k : Int), (0 : Int))) (hall : ∀ k : Nat, k < n → L k = (s : Int) → ((k : Int), (0 : Int)) ∈ A ++ M) : CwP tn n L R I (A ++ M) b' (i + 1) := by
  have hA : A.getD i (0, 0) ∈ A := by rw [List.getD_eq_getElem?_getD, List.getElem?_eq_getElem hi]; exact List.getElem_mem hi
  refine ⟨fun x hx => ?_, fun x hx => List.mem_append_left _ (h.all x hx), fun s' hs' k hk hl => ?_, fun j hj hl hta => ?_⟩
  · rcases List.mem_append.1 hx with hx | hx
    · exact h.mem x hx
    · obtain ⟨k, hk, hl, rfl⟩ := hM x hx
      exact (h.mem _ hA).step (by rw [hs]; omega) hk (by rw [hs]; exact hl)
  · rcases (hb s').1 hs' with e | e
    · subst e; exact hall k hk hl
    · exact List.mem_append_left _ (h.brt s' e k hk hl)
  · have hjA : j < A.length := by omega
    have e : (A ++ M).getD j (0, 0) = A.getD j (0, 0) := by
      rw [List.getD_eq_getElem?_getD, List.getElem?_append_left hjA, ← List.getD_eq_getElem?_getD]
    rw [e] at hta ⊢
    rw [hb]
    by_cases e2 : j = i
    · subst e2; left; rw [hs]; simp
    · right; exact h.done j (by omega) hjA hta
end

end Go.Proofs.Ytgpmmhkdpjlimaa.J
