import Derived.Test.YtfllgmbnljfboaaQiomhlbglpeak
import Derived.Test.YtfllgmbnljfboaaQlfccjpjgphlf
import Derived.Test.YtfllgmbnljfboaaQacmenffecndm

/-
  lr0: states in memory; the document's place.
-/
namespace Go.Proofs.Ytfllgmbnljfboaa.J
open Go.RowKit Go.Maps Go.Shelf

attribute [local go_sem] Oper.semAt_some

/-- The kernels of states in memory: ka and kc say where they lie and what room they have. -/
def KersAt (X : World) (a : Option Addr) (ks : List (List It)) (ka : Nat → Option Addr) (kc : Nat → Nat) : Prop := ks = [] ∨ ∃ b off, a = some ⟨b, off, none⟩ ∧ ∀ i, i < ks.length → X.cell? ⟨b, off + i * 2, none⟩ = some (.slice (ka i) (ks.getD i []).length (kc i)) ∧ ItsAt X (ka i) (ks.getD i [])
theorem KersAt.kept {X Y : World} {a : Option Addr} {ks : List (List It)} {ka : Nat → Option Addr} {kc : Nat → Nat} (h : KersAt X a ks ka kc) (hg : X.grownBy Y none) : KersAt Y a ks ka kc := by
  rcases h with h | ⟨b, off, e, h⟩
  · exact .inl h
  · exact .inr ⟨b, off, e, fun i hi => ⟨hg.cell (h i hi).1 (by simp), (h i hi).2.kept hg⟩⟩
theorem KersAt.at {X : World} {a : Option Addr} {ks : List (List It)} {ka : Nat → Option Addr} {kc : Nat → Nat} (h : KersAt X a ks ka kc) {i : Nat} (hi : i < ks.length) : ∃ b off, a = some ⟨b, off, none⟩ ∧ X.cell? ⟨b, off + i * 2, none⟩ = some (.slice (ka i) (ks.getD i []).length (kc i)) ∧ ItsAt X (ka i) (ks.getD i []) := by
  rcases h with h | ⟨b, off, e, h⟩
  · rw [h] at hi; cases hi
  · exact ⟨b, off, e, h i hi⟩

/-- The place of a kernel, -1: there is none. -/
def placeV (ks : List (List It)) (k : List It) : Int := if k ∈ ks then (ks.idxOf k : Int) else -1
theorem placeV_at {ks : List (List It)} {k : List It} {i : Nat} (hi : i < ks.length) (h : ks.getD i [] = k) (hno : ∀ j, j < i → ks.getD j [] ≠ k) : placeV ks k = (i : Int) := by
  have e : ks.getD i [] = ks[i] := by rw [List.getD_eq_getElem?_getD, List.getElem?_eq_getElem hi]; rfl
  have hm : k ∈ ks := by rw [← h, e]; exact List.getElem_mem hi
  unfold placeV
  rw [if_pos hm]
  have h1 := List.idxOf_lt_length_iff.2 hm
  have h2 : ks.getD (ks.idxOf k) [] = k := by rw [List.getD_eq_getElem?_getD, List.getElem?_eq_getElem h1]; simp
  have h3 : ks.idxOf k ≤ i := by
    apply Classical.byContradiction
    intro hlt
    have h4 := List.not_of_lt_findIdx (p := (· == k)) (xs := ks) (i := i) (by unfold List.idxOf at hlt; omega)
    rw [← e, h] at h4
    simp at h4
  have h5 : ¬ ks.idxOf k < i := fun h6 => hno _ h6 h2
  congr 1
  omega
theorem placeV_no {ks : List (List It)} {k : List It} (hno : ∀ j, j < ks.length → ks.getD j [] ≠ k) : placeV ks k = -1 := by
  unfold placeV
  rw [if_neg]
  intro hm
  have h1 := List.idxOf_lt_length_iff.2 hm
  exact hno _ h1 (by rw [List.getD_eq_getElem?_getD, List.getElem?_eq_getElem h1]; simp)

set_option maxRecDepth 100000 in
theorem rplace_any (a a2 : Option Addr) (c c2 : Nat) (ks : List (List It)) (ka : Nat → Option Addr) (kc : Nat → Nat) (k : List It) (w : World) (h1 : KersAt w a ks ka kc) (h2 : ItsAt w a2 k) (hks : ks.length ≤ 256) (hb : ∀ i, i < ks.length → (ks.getD i []).length ≤ 1099511627776000) (hb2 : k.length ≤ 1099511627776000) :
    Calls Try.prog 37 #[.slice a ks.length c, .slice a2 k.length c2] w fun e y => e = .returned (.int .i64 (placeV ks k)) ∧ w.grownBy y none := by
  obtain ⟨N, hN⟩ : ∃ n, n = ks.length := ⟨_, rfl⟩
  have HN : Hid (N = ks.length) := hN
  have HK : Hid (∀ X, w.grownBy X none → KersAt X a ks ka kc) := fun X hX => h1.kept hX
  have HSM : Hid (∀ i X (b : Bool), i < ks.length → w.grownBy X none → (b = true ↔ ks.getD i [] = k) → Calls Try.prog 54 #[.slice (ka i) (ks.getD i []).length (kc i), .slice a2 k.length c2] X fun e y => e = .returned (.bool b) ∧ X.grownBy y none) := fun i X b hi hX hbb => by
    obtain ⟨_, _, _, _, h3⟩ := (h1.kept hX).at hi
    exact sameItems_any (ka i) a2 (kc i) c2 _ k X h3 (h2.kept hX) (hb i hi) hb2 b hbb
  obtain ⟨m, hm⟩ : ∃ n, n = k.length := ⟨_, rfl⟩
  rw [← hm] at HSM
  rw [← hN] at hks
  rw [← hN, ← hm]
  clear h1 h2 hb hb2 hN hm
  go_enter Try.func37, Try.ntmps37
  go_wp2_with fail
  go_loopg [5] N (fun gk v5 wr => ∃ i : Nat, i ≤ N ∧ gk = N - i ∧ v5 = .int .i64 i ∧ w.grownBy wr none ∧ ∀ j, j < i → ks.getD j [] ≠ k)
  case atStart => exact ⟨0, Nat.zero_le _, rfl, rfl, grown_refl _ _, fun i hi => absurd hi (Nat.not_lt_zero _)⟩
  case round =>
    obtain ⟨i, hi, hgi, rfl, hg, hno⟩ := hrel
    have HGI : Hid (gk = N - i) := hgi
    have HG : Hid (w.grownBy wr none) := hg
    have HNO : Hid (∀ j, j < i → ks.getD j [] ≠ k) := hno
    clear hgi hg hno
    by_cases hlt : i < N
    · have hi0 : (0 : Int) ≤ (i : Int) := by omega
      have hi1 : (i : Int) < (N : Int) := by omega
      have hid : decide (i < N) = true := decide_eq_true hlt
      have hil : i < ks.length := by rw [← HN.out]; exact hlt
      obtain ⟨b, off, rfl, c0, _⟩ := (HK.out wr HG.out).at hil
      obtain ⟨bb, hbb⟩ := boolOf (ks.getD i [] = k)
      have HBB : Hid (bb = true ↔ ks.getD i [] = k) := hbb
      have HC := show Hid _ from HSM.out i wr bb hil HG.out hbb
      obtain ⟨q, hq⟩ : ∃ q, q = (ks.getD i []).length := ⟨_, rfl⟩
      rw [← hq] at c0 HC
      have HIL : Hid (i < ks.length) := hil
      clear hbb hq hil
      go_wp2_with fail
      refine Calls.mono HC.out ?_
      rintro e w2 ⟨rfl, hg2⟩
      have HG2 : Hid (w.grownBy w2 none) := grown_trans HG.out hg2
      clear HC hg2 c0
      cases bb with
      | true =>
        have HPV : Hid (placeV ks k = (i : Int)) := placeV_at HIL.out (HBB.out.1 rfl) HNO.out
        clear HBB
        go_wp2_with fail
        go_ret
        exact ⟨by rw [HPV.out]; rfl, HG2.out⟩
      | false =>
        have HNE : Hid (ks.getD i [] ≠ k) := fun h3 => absurd (HBB.out.2 h3) (by decide)
        clear HBB
        go_wp2_with fail
        go_roundg (N - (i + 1))
        case measure => have := HGI.out; omega
        case rel => exact ⟨i + 1, by omega, rfl, by go_num, HG2.out, fun j hj => by
          by_cases e : j = i
          · rw [e]; exact HNE.out
          · exact HNO.out j (by omega)⟩
    · have hin : N = i := by omega
      subst hin
      have hid : decide (N < N) = false := decide_eq_false (by omega)
      have HP : Hid (placeV ks k = -1) := placeV_no (fun j hj => HNO.out j (by rw [HN.out]; exact hj))
      go_wp2_with fail
      go_ret
      exact ⟨by rw [HP.out]; rfl, HG.out⟩

end Go.Proofs.Ytfllgmbnljfboaa.J

/-
  lr0: slices.Equal of items.
-/
namespace Go.Proofs.Ytfllgmbnljfboaa.J
open Go.RowKit Go.Maps Go.Shelf

attribute [local go_sem] Oper.semAt_some

set_option maxRecDepth 100000 in
theorem equalItems_any (a1 a2 : Option Addr) (c1 c2 : Nat) (l m : List It) (w : World) (h1 : ItsAt w a1 l) (h2 : ItsAt w a2 m) (hb : l.length ≤ 1099511627776000) (hb2 : m.length ≤ 1099511627776000) (r : Bool) (hr : r = true ↔ l = m) :
    Calls Try.prog 62 #[.slice a1 l.length c1, .slice a2 m.length c2] w fun e y => e = .returned (.bool r) ∧ w.grownBy y none := by
  obtain ⟨n1, hn1⟩ : ∃ n, n = l.length := ⟨_, rfl⟩
  obtain ⟨n2, hn2⟩ : ∃ n, n = m.length := ⟨_, rfl⟩
  have HR : Hid (r = true ↔ l = m) := hr
  have HN : Hid (n1 = l.length ∧ n2 = m.length) := ⟨hn1, hn2⟩
  have HI : Hid (∀ X, w.grownBy X none → ItsAt X a1 l ∧ ItsAt X a2 m) := fun X hX => ⟨h1.kept hX, h2.kept hX⟩
  rw [← hn1] at hb
  rw [← hn2] at hb2
  rw [← hn1, ← hn2]
  have hgu := guard_item
  clear hr hn1 hn2 h1 h2
  by_cases hne : n1 = n2
  · subst hne
    have hd : ((n1 : Int) != (n1 : Int)) = false := bne_self_eq_false _
    go_enter Try.func62, Try.ntmps62
    go_wp2_with fail
    go_loopg [13] n1 (fun gk v13 wr => ∃ j : Nat, j ≤ n1 ∧ gk = n1 - j ∧ v13 = .int .i64 j ∧ w.grownBy wr none ∧ ∀ i, i < j → l.getD i (0, 0) = m.getD i (0, 0))
    case atStart => exact ⟨0, Nat.zero_le _, rfl, rfl, grown_refl _ _, fun i hi => absurd hi (Nat.not_lt_zero _)⟩
    case round =>
      obtain ⟨j, hj, hgj, rfl, hg, hs⟩ := hrel
      have HGJ : Hid (gk = n1 - j) := hgj
      have HG : Hid (w.grownBy wr none) := hg
      have HS : Hid (∀ i, i < j → l.getD i (0, 0) = m.getD i (0, 0)) := hs
      clear hgj hg hs
      by_cases hlt : j < n1
      · have hj0 : (0 : Int) ≤ (j : Int) := by omega
        have hj1 : (j : Int) < (n1 : Int) := by omega
        have hjd : decide (j < n1) = true := decide_eq_true hlt
        obtain ⟨b1, o1, rfl, c0, c1'⟩ := (HI.out wr HG.out).1.at (i := j) (by rw [← HN.out.1]; exact hlt)
        obtain ⟨b2, o2, rfl, d0, d1⟩ := (HI.out wr HG.out).2.at (i := j) (by rw [← HN.out.2]; exact hlt)
        obtain ⟨x, hx⟩ : ∃ x, x = l.getD j (0, 0) := ⟨_, rfl⟩
        obtain ⟨y, hy⟩ : ∃ y, y = m.getD j (0, 0) := ⟨_, rfl⟩
        have HXY : Hid (x = l.getD j (0, 0) ∧ y = m.getD j (0, 0)) := ⟨hx, hy⟩
        rw [← hx] at c0 c1'
        rw [← hy] at d0 d1
        clear hx hy
        obtain ⟨xp, xd⟩ := x
        obtain ⟨yp, yd⟩ := y
        simp only at c0 c1' d0 d1
        obtain ⟨bb, hbb⟩ : ∃ b, b = (xp == yp && xd == yd) := ⟨_, rfl⟩
        have HBB : Hid (bb = true ↔ l.getD j (0, 0) = m.getD j (0, 0)) := by
          rw [← HXY.out.1, ← HXY.out.2, hbb, Bool.and_eq_true, beq_iff_eq, beq_iff_eq]
          exact ⟨fun h => Prod.ext h.1 h.2, fun h => ⟨congrArg Prod.fst h, congrArg Prod.snd h⟩⟩
        have hE : ∀ X : World, (binOp .neq 55 (.agg #[.int .i64 xp, .int .i64 xd]) (.agg #[.int .i64 yp, .int .i64 yd])).run Try.prog X = .ok (.bool (!bb)) X := fun X => by rw [hbb]; exact neq_item xp xd yp yd X
        clear hbb
        cases bb with
        | true =>
          have HEQ : Hid (l.getD j (0, 0) = m.getD j (0, 0)) := HBB.out.1 rfl
          clear HBB
          go_wp2_with fail
          go_quiet (fail)
          go_wp2_with fail
          go_roundg (n1 - (j + 1))
          case measure => have := HGJ.out; omega
          case rel => exact ⟨j + 1, by omega, rfl, by go_num, grown_trans HG.out (grown_drewN _ _), fun i hi => by
            by_cases e : i = j
            · rw [e]; exact HEQ.out
            · exact HS.out i (by omega)⟩
        | false =>
          have HRF : Hid (r = false) := by
            show _ = _
            cases hrr : r with
            | false => rfl
            | true =>
              have := HR.out.1 hrr
              rw [this] at HBB
              exact absurd (HBB.out.2 rfl) (by decide)
          go_wp2_with fail
          go_quiet (fail)
          go_wp2_with fail
          go_ret
          exact ⟨by rw [HRF.out]; rfl, grown_trans HG.out (grown_drewN _ _)⟩
      · have hjn : n1 = j := by omega
        subst hjn
        have hjd : decide (n1 < n1) = false := decide_eq_false (by omega)
        have HRT : Hid (r = true) := HR.out.2 (by
          apply List.ext_getElem (by rw [← HN.out.1, ← HN.out.2])
          intro i q1 q2
          have h3 := HS.out i (by rw [HN.out.1]; exact q1)
          rwa [List.getD_eq_getElem?_getD, List.getD_eq_getElem?_getD, List.getElem?_eq_getElem q1, List.getElem?_eq_getElem q2] at h3)
        go_wp2_with fail
        go_ret
        exact ⟨by rw [HRT.out]; rfl, HG.out⟩
  · have hd : ((n1 : Int) != (n2 : Int)) = true := bne_iff_ne.2 (by omega)
    have HRF : Hid (r = false) := by
      show _ = _
      cases hrr : r with
      | false => rfl
      | true =>
        have h3 := HR.out.1 hrr
        exact absurd (by rw [HN.out.1, HN.out.2, h3]) hne
    go_enter Try.func62, Try.ntmps62
    go_wp2_with fail
    go_ret
    exact ⟨by rw [HRF.out]; rfl, grown_refl _ _⟩

end Go.Proofs.Ytfllgmbnljfboaa.J

/-
  lr0: kernels, walked.
-/
namespace Go.Proofs.Ytfllgmbnljfboaa.J
open Go.RowKit Go.Maps Go.Shelf

attribute [local go_sem] Oper.semAt_some

theorem infoItems : (Try.prog.info? 48).map (fun i => (i.zero, i.size, i.bytes)) = some (some (.slice none 0 0), 1, 24) := by kernel_rfl

/-- What kernels tells. -/
def KerTold (tn n S : Nat) (L : Nat → Int) (R : Nat → List Int) (I : List It) (w : World) (e : Ending) (y : World) : Prop := ∃ (l : List It) (rb : Nat) (ua : Nat → Option Addr) (uc : Nat → Nat), IsClo tn n L R I l ∧ l.length ≤ I.length + 13000 ∧ e = .returned (.slice (some ⟨rb, 0, none⟩) S S) ∧ w.heap.size ≤ rb ∧ ValAt y rb S 48 (fun s => .slice (ua s) (kerT R l (s : Int)).length (uc s)) ∧ (∀ s, s < S → y.ownsRow w.heap.size 55 2 (.slice (ua s) (kerT R l (s : Int)).length (uc s)) (kerT R l (s : Int)).length (itsV (kerT R l (s : Int)))) ∧ w.grownBy y none

set_option maxRecDepth 100000 in
set_option maxHeartbeats 4000000 in
theorem kernels_any (ta na la pa : Option Addr) (tc nc lc pc : Nat) (n : Nat) (L : Nat → Int) (R : Nat → List Int) (ra : Nat → Option Addr) (rc : Nat → Nat) (V : Nat → Int) (st : Int) (w : World) (tn nn ln : Nat) (hP : ProdsAt w pa n L R ra rc V) (hn : n ≤ 97) (hn0 : 0 < n) (htn : tn ≤ 65) (hnn : nn ≤ 65) (hR : ∀ k, k < n → ∀ x ∈ R k, (0 : Int) ≤ x ∧ x < ((tn + nn : Nat) : Int)) (hLr : ∀ k, k < n → (0 : Int) ≤ L k ∧ L k < ((tn + nn : Nat) : Int)) (hRb : ∀ k, k < n → (R k).length ≤ 17592186044416) (a : Option Addr) (cap : Nat) (I : List It) (hI : ItsAt w a I) (hnil : a = none → I.length = 0 ∧ cap = 0) (hIb : I.length ≤ 8796093072208) (hit : ∀ x ∈ I, itB n R x = true) :
    Calls Try.prog 63 #[.agg #[.slice ta tn tc, .slice na nn nc, .slice la ln lc, .int .i64 st, .slice pa n pc], .slice a I.length cap] w fun e y => KerTold tn n (tn + nn) L R I w e y := by
  obtain ⟨S, hS⟩ : ∃ S, S = tn + nn := ⟨_, rfl⟩
  rw [← hS]
  have hSz : S ≤ 130 := by omega
  have HSY : Hid (∀ X, Calls Try.prog 69 #[.agg #[.slice ta tn tc, .slice na nn nc, .slice la ln lc, .int .i64 st, .slice pa n pc]] X fun e y => e = .returned (.int .i64 (S : Int)) ∧ X.grownBy y none) := fun X => by
    refine (symbols_any ta na la pa tc nc lc pc n st X tn nn ln (by omega) (by omega)).mono ?_
    rintro e y ⟨rfl, hg⟩
    exact ⟨by rw [hS, Int.natCast_add], hg⟩
  have HAH : Hid (∀ X x, w.grownBy X none → itB n R x = true → Calls Try.prog 71 #[.agg #[.slice ta tn tc, .slice na nn nc, .slice la ln lc, .int .i64 st, .slice pa n pc], .agg #[.int .i64 x.1, .int .i64 x.2]] X fun e y => e = .returned (.int .i64 (aheadV R x)) ∧ X.grownBy y none) := fun X x hX hx => ahead_any ta na la pa tc nc lc pc n L R ra rc V st X tn nn ln (prods_kept hP hX) x hx
  have HCL : Hid (∀ X, w.grownBy X none → Calls Try.prog 31 #[.agg #[.slice ta tn tc, .slice na nn nc, .slice la ln lc, .int .i64 st, .slice pa n pc], .slice a I.length cap] X fun e y => CloTold tn n L R I X e y) := fun X hX => closure_any ta na la pa tc nc lc pc n L R ra rc V st X tn nn ln (prods_kept hP hX) hn hn0 htn hnn hR hLr a cap I (hI.kept hX) hnil hIb hit
  have HAR : Hid (∀ x, itB n R x = true → aheadV R x = -1 ∨ ((0 : Int) ≤ aheadV R x ∧ aheadV R x < (S : Int))) := fun x hx => aheadV_range (by rw [hS]; exact hR) hx
  have HIT : Hid (∀ x ∈ I, itB n R x = true) := hit
  have HRB : Hid (∀ x, itB n R x = true → (0 : Int) ≤ x.2 ∧ x.2 ≤ 17592186044416) := fun x hx => by
    unfold itB at hx
    simp only [Bool.and_eq_true, decide_eq_true_eq] at hx
    have := hRb x.1.toNat (by omega)
    omega
  obtain ⟨ll, hle⟩ : ∃ m, m = I.length := ⟨_, rfl⟩
  have HLE : Hid (ll = I.length) := hle
  rw [← hle] at hIb HCL
  rw [← hle]
  have HX0 : Hid (PhAt w (w.alloc (.cells #[.slice ta tn tc, .slice na nn nc, .slice la ln lc, .int .i64 st, .slice pa n pc] 27)) w.heap.size #[.slice ta tn tc, .slice na nn nc, .slice la ln lc, .int .i64 st, .slice pa n pc]) := ⟨World.grownBy_alloc _ _ none, heap_alloc_last w _⟩
  obtain ⟨i0, hi0, hz0, hz1, hz2⟩ := info_parts infoItem
  obtain ⟨i1, hi1, hy0, hy1, hy2⟩ := info_parts infoItems
  clear hP hR hLr hI hit hle hS hnil hRb
  go_enter Try.func63, Try.ntmps63
  go_wp2_with fail
  refine Calls.mono (HSY.out _) ?_
  rintro e w1 ⟨rfl, hg1⟩
  have HX1 : Hid (PhAt w w1 w.heap.size #[.slice ta tn tc, .slice na nn nc, .slice la ln lc, .int .i64 st, .slice pa n pc]) := HX0.out.kept hg1
  clear hg1 HX0
  go_wp2_with (at_make; refine wpList_make_full _ rfl _ _ 115 rfl w1.heap.size 48 i1 (.slice none 0 0) 1 Try.underlying115 hi1 hy0 hy1 .i64 .i64 _ _ S rfl rfl (by simp) (by simp) (by rw [hy2]; omega) (by unfold maxLen; omega) (by simp) ?_)
  intro w2 hown hgrow
  have hval : ValAt w2 w1.heap.size S 48 (fun _ => .slice none 0 0) := made_rowK (B := w1.heap.size) rfl (by simpa [Value.cells] using hown)
  obtain ⟨rb, hrb⟩ : ∃ rb, rb = w1.heap.size := ⟨_, rfl⟩
  rw [← hrb] at hval
  rw [← hrb]
  have HX2 : Hid (PhAt w w2 w.heap.size #[.slice ta tn tc, .slice na nn nc, .slice la ln lc, .int .i64 st, .slice pa n pc]) := HX1.out.kept hgrow
  have HV2 : Hid (ValAt w2 rb S 48 (fun _ => .slice none 0 0)) := hval
  have HRL : Hid (w.heap.size < rb) := by show _ < _; have := (Array.getElem?_eq_some_iff.1 HX1.out.box).1; omega
  clear hown hgrow hval hrb HX1
  obtain ⟨k0, k1, k2, k3, k4⟩ := HX2.out.cells
  go_wp2_with fail
  refine Calls.mono (HCL.out _ HX2.out.grown) ?_
  rintro e P ⟨l, hIC, hll, a3, c3, rfl, ho3, hg3⟩
  have HIC : Hid (IsClo tn n L R I l) := hIC
  have HLL : Hid (l.length ≤ ll + 13000) := by rw [HLE.out]; exact hll
  have HO3 : Hid (P.ownsRow w2.heap.size 55 2 (.slice a3 l.length c3) l.length (itsV l)) := ho3
  have HVP : Hid (ValAt P rb S 48 (fun _ => .slice none 0 0)) := HV2.out.kept hg3
  have HK0 : Hid (KnAt w P P #[.slice ta tn tc, .slice na nn nc, .slice la ln lc, .int .i64 st, .slice pa n pc] rb S (fun s => kerT R (l.take 0) (s : Int)) (fun _ => none) (fun _ => 0)) := by
    refine ⟨grown_trans HX2.out.grown hg3, ⟨rfl, rfl, rfl, Nat.le_refl _, fun _ _ _ => rfl⟩, box_kept HX2.out.box hg3, HVP.out, fun s hs => World.ownsRow_nil _ _ _ _, fun s t _ _ _ => .inl rfl, HRL.out, HVP.out.lt⟩
  have HIM : Hid (∀ x ∈ l, itB n R x = true) := fun x hx => ((hIC.mem x).1 hx).item HIT.out
  obtain ⟨lm, hlm⟩ : ∃ m, m = l.length := ⟨_, rfl⟩
  have HLM : Hid (lm = l.length) := hlm
  rw [← hlm] at HO3 HLL
  rw [← hlm]
  have hlmb : lm ≤ 8796093085208 := by have := HLL.out; omega
  clear hIC hll ho3 hg3 hlm k0 k1 k2 k3 k4 HX2 HV2 HCL
  go_wp2_with fail
  go_loopg [16] lm (fun gk v16 wr => ∃ (k : Nat) (ua : Nat → Option Addr) (uc : Nat → Nat), k ≤ lm ∧ gk = lm - k ∧ v16 = .int .i64 k ∧ KnAt w P wr #[.slice ta tn tc, .slice na nn nc, .slice la ln lc, .int .i64 st, .slice pa n pc] rb S (fun s => kerT R (l.take k) (s : Int)) ua uc)
  case atStart => exact ⟨0, _, _, Nat.zero_le _, rfl, rfl, HK0.out⟩
  case round =>
    obtain ⟨k, ua, uc, hk, hgk, rfl, hK⟩ := hrel
    have HGK : Hid (gk = lm - k) := hgk
    have HK : Hid (KnAt w P wr #[.slice ta tn tc, .slice na nn nc, .slice la ln lc, .int .i64 st, .slice pa n pc] rb S (fun s => kerT R (l.take k) (s : Int)) ua uc) := hK
    clear hgk hK HK0
    by_cases hlt : k < lm
    · have hk0 : (0 : Int) ≤ (k : Int) := by omega
      have hk1 : (k : Int) < (lm : Int) := by omega
      have hkd : decide (k < lm) = true := decide_eq_true hlt
      have hkl : k < l.length := by rw [← HLM.out]; exact hlt
      obtain ⟨gb, rfl, c0, c1⟩ : ∃ gb, a3 = some ⟨gb, 0, none⟩ ∧ wr.cell? ⟨gb, k * 2, none⟩ = some (.int .i64 (l.getD k (0, 0)).1) ∧ wr.cell? ⟨gb, k * 2 + 1, none⟩ = some (.int .i64 (l.getD k (0, 0)).2) := by
        have ho := HK.out.lst HO3.out ⟨_, HVP.out⟩
        rcases ho.2 with ⟨_, h⟩ | ⟨g, cap, cur, hv, hB, hh, _, _, hs, ht⟩
        · omega
        · simp only [Value.slice.injEq] at hv
          refine ⟨g, hv.1, ?_⟩
          obtain ⟨h3, h4⟩ := itsV_at l k hkl
          rw [← ht, List.getElem?_take, if_pos (by omega)] at h3 h4
          rw [cell_of_row _ _ _ _ _ _ hh, cell_of_row _ _ _ _ _ _ hh]
          exact ⟨by simpa using h3, by simpa using h4⟩
      have hmem : l.getD k (0, 0) ∈ l := by rw [List.getD_eq_getElem?_getD, List.getElem?_eq_getElem hkl]; exact List.getElem_mem hkl
      have hxi := HIM.out _ hmem
      have hrg := HAR.out _ hxi
      have hdb := HRB.out _ hxi
      have HTK : Hid (∀ s : Int, kerT R (l.take (k + 1)) s = kerT R (l.take k) s ++ (if aheadV R (l.getD k (0, 0)) = s then [((l.getD k (0, 0)).1, (l.getD k (0, 0)).2 + 1)] else [])) := fun s => by rw [take_at hkl, kerT_append, kerT_one]
      have HAC : Hid (∀ X, wr.grownBy X none → Calls Try.prog 71 #[.agg #[.slice ta tn tc, .slice na nn nc, .slice la ln lc, .int .i64 st, .slice pa n pc], .agg #[.int .i64 (l.getD k (0, 0)).1, .int .i64 (l.getD k (0, 0)).2]] X fun e y => e = .returned (.int .i64 (aheadV R (l.getD k (0, 0)))) ∧ X.grownBy y none) := fun X hX => HAH.out X _ (grown_trans HK.out.grown hX) hxi
      obtain ⟨sv, hsv⟩ : ∃ s, s = aheadV R (l.getD k (0, 0)) := ⟨_, rfl⟩
      rw [← hsv] at HAC hrg HTK
      obtain ⟨x, hx⟩ : ∃ x, x = l.getD k (0, 0) := ⟨_, rfl⟩
      rw [← hx] at HAC c0 c1 HTK hdb
      clear hsv hx hxi hmem
      obtain ⟨p, d⟩ := x
      simp only at HAC c0 c1 HTK hdb
      obtain ⟨k0, k1, k2, k3, k4⟩ := (HK.out.kept (World.grownBy_alloc wr (.cells #[.int .i64 p, .int .i64 d] 55) none)).ph.cells
      go_wp2_with fail
      refine Calls.mono (HAC.out _ (World.grownBy_alloc _ _ none)) ?_
      rintro e w5 ⟨rfl, hg5⟩
      have HG5 : Hid (wr.grownBy w5 none) := grown_trans (World.grownBy_alloc _ _ none) hg5
      have HBX : Hid (w5.heap[wr.heap.size]? = some (.cells #[.int .i64 p, .int .i64 d] 55 (0, 0))) := box_kept (heap_alloc_last wr _) hg5
      have HK5 : Hid (KnAt w P w5 #[.slice ta tn tc, .slice na nn nc, .slice la ln lc, .int .i64 st, .slice pa n pc] rb S (fun s => kerT R (l.take k) (s : Int)) ua uc) := HK.out.kept HG5.out
      clear hg5 k0 k1 k2 k3 k4 c0 c1 HAC
      by_cases hs1 : sv = -1
      · subst hs1
        have HNX : Hid (∀ s : Nat, kerT R (l.take (k + 1)) (s : Int) = kerT R (l.take k) (s : Int)) := fun s => by rw [HTK.out, if_neg (by omega), List.append_nil]
        go_wp2_with fail
        go_roundg (lm - (k + 1))
        case measure => have := HGK.out; omega
        case rel =>
          refine ⟨k + 1, ua, uc, by omega, rfl, by go_num, ?_⟩
          have e9 : (fun s : Nat => kerT R (l.take (k + 1)) (s : Int)) = fun s : Nat => kerT R (l.take k) (s : Int) := funext HNX.out
          rw [e9]; exact HK5.out
      · obtain ⟨s, rfl⟩ : ∃ s : Nat, sv = (s : Int) := ⟨sv.toNat, by omega⟩
        have hsS : s < S := by omega
        have hne : ((s : Int) != -1) = true := bne_iff_ne.2 (by omega)
        have hs0 : (0 : Int) ≤ (s : Int) := by omega
        have hsi : (s : Int) < (S : Int) := by omega
        obtain ⟨d2, hd2⟩ : ∃ d2 : Nat, d = (d2 : Int) := ⟨d.toNat, by omega⟩
        subst hd2
        have hd3 : d2 ≤ 17592186044416 := by omega
        have hwr : IntKind.i64.wrap ((d2 : Int) + 1) = (d2 : Int) + 1 := by rw [IntKind.wrap_i64]; omega
        obtain ⟨ks, hks⟩ : ∃ m, m = (kerT R (l.take k) (s : Int)).length := ⟨_, rfl⟩
        have HKS : Hid (ks = (kerT R (l.take k) (s : Int)).length) := hks
        have hksb : ks ≤ 8796093085208 := by
          have h1 := kerT_len R (l.take k) (s : Int)
          have h2 : (l.take k).length ≤ k := by rw [List.length_take]; omega
          omega
        obtain ⟨us, hus⟩ : ∃ m, m = ua s := ⟨_, rfl⟩
        obtain ⟨cs, hcs⟩ : ∃ m, m = uc s := ⟨_, rfl⟩
        have HRC : Hid (∀ X, w5.grownBy X none → X.cell? ⟨rb, s, none⟩ = some (.slice us ks cs) ∧ X.cell? ⟨wr.heap.size, 0, none⟩ = some (.int .i64 p) ∧ X.cell? ⟨wr.heap.size, 1, none⟩ = some (.int .i64 (d2 : Int))) := fun X hX => by
          refine ⟨?_, ?_, ?_⟩
          · rw [hks, hus, hcs]; exact (HK5.out.kept hX).row.cell s hsS
          · rw [cell_of_row _ _ _ _ _ _ (box_kept HBX.out hX)]; rfl
          · rw [cell_of_row _ _ _ _ _ _ (box_kept HBX.out hX)]; rfl
        have HOW : Hid (∀ X, w5.grownBy X none → X.ownsRow P.heap.size 55 2 (.slice us ks cs) ks (itsV (kerT R (l.take k) (s : Int)))) := fun X hX => by
          have := (HK5.out.kept hX).own s hsS
          rwa [← hks, ← hus, ← hcs] at this
        have HPS : Hid (∀ X, w5.grownBy X none → P.heap.size ≤ X.heap.size) := fun X hX => (HK5.out.kept hX).from_.size
        have HFIN : Hid (∀ (Y Z : World) (g c : Nat), w5.grownBy Y none → Y.grownBy Z (Value.slice us ks cs).ownBlock → Z.ownsRow P.heap.size 55 2 (.slice (some ⟨g, 0, none⟩) (ks + 1) c) (ks + 1) (itsV (kerT R (l.take k) (s : Int)) ++ [.int .i64 p, .int .i64 ((d2 : Int) + 1)]) → ((Value.slice us ks cs).ownBlock = some g ∨ g = Y.heap.size) →
            (∃ ua' uc', KnAt w P (Z.setCell ⟨rb, s, none⟩ (.slice (some ⟨g, 0, none⟩) (ks + 1) c)) #[.slice ta tn tc, .slice na nn nc, .slice la ln lc, .int .i64 st, .slice pa n pc] rb S (fun s => kerT R (l.take (k + 1)) (s : Int)) ua' uc') ∧ Z.cell? ⟨rb, s, none⟩ = some (.slice us ks cs) ∧ Z.frozen? ⟨rb, s, none⟩ = false) := fun Y Z g c hY hg ho hat => by
          rw [hks, hus, hcs] at hg hat
          rw [hks] at ho
          obtain ⟨q1, q2, q3⟩ := HK5.out.push (x := (p, (d2 : Int) + 1)) hsS hY hg ho hat
          refine ⟨⟨updL ua s (some ⟨g, 0, none⟩), updL uc s c, ?_⟩, by rw [hks, hus, hcs]; exact q2, q3⟩
          rw [← hks] at q1
          have e9 : updL (fun s : Nat => kerT R (l.take k) (s : Int)) s (kerT R (l.take k) (s : Int) ++ [(p, (d2 : Int) + 1)]) = fun s : Nat => kerT R (l.take (k + 1)) (s : Int) := funext fun t => by
            rw [HTK.out]
            by_cases e : t = s
            · subst e; rw [updL_same, if_pos rfl]
            · rw [updL_other _ _ e, if_neg (by omega), List.append_nil]
          rw [e9] at q1
          exact q1
        obtain ⟨y0, y1, y2⟩ := HRC.out w5 (grown_refl _ _)
        have y3 : ∀ o, (w5.alloc o).cell? ⟨rb, s, none⟩ = some (.slice us ks cs) := fun o => (HRC.out _ (World.grownBy_alloc _ _ none)).1
        obtain ⟨xs, hxs⟩ : ∃ xs, xs = itsV (kerT R (l.take k) (s : Int)) := ⟨_, rfl⟩
        rw [← hxs] at HOW HFIN
        clear hus hcs hks hxs HTK hdb hrg
        go_wp2_with fail
        go_region_law (first
          | (refine step_append_liesW _ rfl (.tmp 30) (.tmp 37) 48 rfl P.heap.size 55 i0 (.agg #[.int .i64 0, .int .i64 0]) 2 16 Try.underlying48 hi0 hz0 hz1 hz2 rfl (by decide) (.slice us ks cs) ks xs (by simp [Act.eval]) (HOW.out _ (grown_trans (World.grownBy_alloc _ _ none) (grown_drewN _ 1))) ⟨w5.heap.size, 0, none⟩ 1 1 [.int .i64 p, .int .i64 ((d2 : Int) + 1)] (by simp [Act.eval]) rfl (World.news_of_block (heap_alloc_last w5 _)) (by simp [Value.oneCell']) (by decide) (by unfold maxLen; omega) (by omega) (HPS.out _ (grown_trans (World.grownBy_alloc _ _ none) (grown_drewN _ 1))) ?_; intro g7 c7 wB hoB hgB hat; obtain ⟨q1, q2, q3⟩ := HFIN.out _ wB g7 c7 (grown_trans (World.grownBy_alloc _ _ none) (grown_drewN _ 1)) hgB hoB hat; have HQ1 := show Hid _ from q1; clear q1 hoB hgB hat)
          | fail)
        all_goals go_wp2_with fail
        all_goals go_roundg (lm - (k + 1))
        all_goals first
          | exact (show ∃ (k' : Nat) (ua' : Nat → Option Addr) (uc' : Nat → Nat), _ from (by obtain ⟨ua', uc', h9⟩ := HQ1.out; exact ⟨k + 1, ua', uc', by omega, rfl, by go_num, h9⟩))
          | (have := HGK.out; omega)
    · have hkn : lm = k := by omega
      subst hkn
      have hkd : decide (lm < lm) = false := decide_eq_false (by omega)
      have HTL : Hid (l.take lm = l) := by show _ = _; rw [HLM.out]; exact List.take_length
      rw [HTL.out] at HK
      go_wp2_with fail
      go_ret
      exact ⟨l, rb, ua, uc, HIC.out, by rw [← HLM.out, ← HLE.out]; exact HLL.out, rfl, by have := HRL.out; omega, HK.out.row, fun s hs => by
        have h1 := HK.out.own s hs
        refine ⟨h1.1, ?_⟩
        rcases h1.2 with h | ⟨g, cap, cur, hv, hB, hr⟩
        · exact .inl h
        · exact .inr ⟨g, cap, cur, hv, by have h2 := HK.out.lo; omega, hr⟩, HK.out.grown⟩

end Go.Proofs.Ytfllgmbnljfboaa.J

/-
  lr0: Closure and Goto.
-/
namespace Go.Proofs.Ytfllgmbnljfboaa.J
open Go.RowKit Go.Maps Go.Shelf

attribute [local go_sem] Oper.semAt_some

structure MayOK (tn nn n : Nat) (st : Int) (L : Nat → Int) (R : Nat → List Int) (cl : Bool) : Prop where
  t0 : 0 < tn
  tmax : tn ≤ 65
  n0 : 0 < nn
  nmax : nn ≤ 65
  pmax : n ≤ 97
  p0 : 0 < n
  left : ∀ k, k < n → (tn : Int) ≤ L k ∧ L k < ((tn + nn : Nat) : Int)
  right : ∀ k, k < n → ∀ x ∈ R k, (0 : Int) < x ∧ x < ((tn + nn : Nat) : Int)
  start : (tn : Int) ≤ st ∧ st < ((tn + nn : Nat) : Int)
  added : cl = true → L 0 = tn ∧ R 0 = [st]

theorem mayOK_closed {ts : List (ByteArray × Int)} {ns : List ByteArray} {lv : List Int} {st : Int} {n : Nat} {L : Nat → Int} {R : Nat → List Int} {V : Nat → Int} (h : closedOK ts ns lv st n L R V) : MayOK ts.length ns.length n st L R true := by
  obtain ⟨ha, hf⟩ := h
  have hs := hf.start
  unfold isNonI at hs
  refine ⟨hf.terms.1.1, hf.tn, ha.nn, by have := hf.nn; omega, by have := hf.pn; omega, ha.pn, fun k hk => ?_, fun k hk x hx => ?_, by omega, fun _ => ⟨ha.left, ha.right⟩⟩
  · by_cases h0 : k = 0
    · subst h0
      have := ha.left
      have := ha.nn
      omega
    · have := (hf.prods k (by omega) hk).1
      unfold isNonI at this
      omega
  · by_cases h0 : k = 0
    · subst h0
      rw [ha.right] at hx
      simp at hx
      have := hf.terms.1.1
      omega
    · have := (hf.prods k (by omega) hk).2.2 x hx
      unfold isSymI isNonI at this
      have := hf.terms.1.1
      omega

theorem gright {w : World} {pa : Option Addr} {n : Nat} {L : Nat → Int} {R : Nat → List Int} {ra : Nat → Option Addr} {rc : Nat → Nat} {V : Nat → Int} (h : ProdsAt w pa n L R ra rc V) : ∀ k, k < n → (R k).length ≤ 17592186044416 := fun k hk => by
  rcases h with h | ⟨b, off, e, h⟩
  · omega
  · exact (h k hk).2.2.2.2.2

/-- Is x one of S symbols? -/
def symB (S : Nat) (x : Int) : Bool := decide (0 ≤ x) && decide (x < (S : Int))
/-- The answer of Closure and of Goto: a list of items and an error's number. -/
def ItsErr (l : List It) (ec : Int) (w : World) (e : Ending) (y : World) : Prop := ∃ (a : Option Addr) (c : Nat), e = .returned (.tuple #[.slice a l.length c, .int .i64 ec]) ∧ y.ownsRow w.heap.size 55 2 (.slice a l.length c) l.length (itsV l) ∧ w.grownBy y none

section
variable (ta na la pa : Option Addr) (tc nc lc pc : Nat) (ts : List (ByteArray × Int)) (ns : List ByteArray) (lv : List Int) (n : Nat) (L : Nat → Int) (R : Nat → List Int) (ra : Nat → Option Addr) (rc : Nat → Nat) (V : Nat → Int) (st : Int) (w : World) (tn nn ln : Nat) (hlen : ts.length = tn ∧ ns.length = nn ∧ lv.length = ln) (hG : GAt w ta na la pa tc nc lc pc ts ns lv n L R ra rc V) (a : Option Addr) (cap : Nat) (I : List It) (hI : ItsAt w a I)
include hlen hG hI
end

end Go.Proofs.Ytfllgmbnljfboaa.J

/-
  lr0: the law's small grammar.
-/
namespace Go.Proofs.Ytfllgmbnljfboaa.J
open Go.RowKit Go.Maps Go.Shelf

attribute [local go_sem] Oper.semAt_some

def kTs : List (ByteArray × Int) := [(⟨#[]⟩, 0), (⟨#[43]⟩, 0), (⟨#[110]⟩, 0)]
def kNs : List ByteArray := [⟨#[]⟩, ⟨#[101]⟩]
def kL (i : Nat) : Int := if i = 0 then 3 else 4
def kR (i : Nat) : List Int := if i = 0 then [4] else if i = 1 then [4, 1, 2] else [2]

theorem boxKept {X Y : World} {b : Nat} {o : Obj} (h : X.heap[b]? = some o) (hg : X.grownBy Y none) : Hid (Y.heap[b]? = some o) := box_kept h hg

theorem k_gat {Z : World} {b1 b2 b3 b4 b5 b6 : Nat} (h1 : Z.heap[b1]? = some (.cells #[.string ⟨#[]⟩, .int .i64 0, .string ⟨#[43]⟩, .int .i64 0, .string ⟨#[110]⟩, .int .i64 0] 87 (0, 0))) (h2 : Z.heap[b2]? = some (.cells #[.string ⟨#[]⟩, .string ⟨#[101]⟩] 9 (0, 0))) (h3 : Z.heap[b3]? = some (.cells #[.int .i64 4] 3 (0, 0))) (h4 : Z.heap[b4]? = some (.cells #[.int .i64 4, .int .i64 1, .int .i64 2] 3 (0, 0))) (h5 : Z.heap[b5]? = some (.cells #[.int .i64 2] 3 (0, 0))) (h6 : Z.heap[b6]? = some (.cells #[.int .i64 3, .slice (some ⟨b3, 0, none⟩) 1 1, .int .i64 0, .int .i64 4, .slice (some ⟨b4, 0, none⟩) 3 3, .int .i64 0, .int .i64 4, .slice (some ⟨b5, 0, none⟩) 1 1, .int .i64 0] 57 (0, 0))) :
    ∃ ra rc, GAt Z (some ⟨b1, 0, none⟩) (some ⟨b2, 0, none⟩) none (some ⟨b6, 0, none⟩) 3 2 0 3 kTs kNs [] 3 kL kR ra rc (fun _ => 0) := by
  refine ⟨fun i => if i = 0 then some ⟨b3, 0, none⟩ else if i = 1 then some ⟨b4, 0, none⟩ else some ⟨b5, 0, none⟩, fun i => if i = 1 then 3 else 1, .inr ⟨_, 0, rfl, fun i hi => ?_⟩, .inr ⟨_, 0, rfl, fun i hi => ?_⟩, .inl rfl, .inr ⟨_, 0, rfl, fun k hk => ?_⟩, by decide, by decide, by decide, (fun h => by cases h), (fun h => by cases h), by decide, by decide, by decide, by decide⟩
  · have h2 : i = 0 ∨ i = 1 ∨ i = 2 := by simp [kTs] at hi; omega
    rcases h2 with rfl | rfl | rfl <;> exact ⟨by rw [cell_of_row _ _ _ _ _ _ h1]; rfl, by rw [cell_of_row _ _ _ _ _ _ h1]; rfl⟩
  · have h3 : i = 0 ∨ i = 1 := by simp [kNs] at hi; omega
    rcases h3 with rfl | rfl <;> (rw [cell_of_row _ _ _ _ _ _ h2]; rfl)
  · have h7 : k = 0 ∨ k = 1 ∨ k = 2 := by omega
    rcases h7 with rfl | rfl | rfl
    · refine ⟨by rw [cell_of_row _ _ _ _ _ _ h6]; rfl, by rw [cell_of_row _ _ _ _ _ _ h6]; rfl, by rw [cell_of_row _ _ _ _ _ _ h6]; rfl, .inr ⟨b3, 0, rfl, fun i hi => ?_⟩, (fun h => by cases h), by decide⟩
      have h8 : i = 0 := by simp [kR] at hi; omega
      subst h8
      rw [cell_of_row _ _ _ _ _ _ h3]; rfl
    · refine ⟨by rw [cell_of_row _ _ _ _ _ _ h6]; rfl, by rw [cell_of_row _ _ _ _ _ _ h6]; rfl, by rw [cell_of_row _ _ _ _ _ _ h6]; rfl, .inr ⟨b4, 0, rfl, fun i hi => ?_⟩, (fun h => by cases h), by decide⟩
      have h8 : i = 0 ∨ i = 1 ∨ i = 2 := by simp [kR] at hi; omega
      rcases h8 with rfl | rfl | rfl <;> (rw [cell_of_row _ _ _ _ _ _ h4]; rfl)
    · refine ⟨by rw [cell_of_row _ _ _ _ _ _ h6]; rfl, by rw [cell_of_row _ _ _ _ _ _ h6]; rfl, by rw [cell_of_row _ _ _ _ _ _ h6]; rfl, .inr ⟨b5, 0, rfl, fun i hi => ?_⟩, (fun h => by cases h), by decide⟩
      have h8 : i = 0 := by simp [kR] at hi; omega
      subst h8
      rw [cell_of_row _ _ _ _ _ _ h5]; rfl

theorem infoGramK : (Try.prog.info? 27).map (·.size) = some 5 := by kernel_rfl

/-- The blocks of the small grammar, one behind the other. -/
theorem k_chain (w : World) (cs : Array Value) : ((((((((w.alloc (.cells cs 27)).alloc (.cells #[.string ⟨#[]⟩, .int .i64 0, .string ⟨#[43]⟩, .int .i64 0, .string ⟨#[110]⟩, .int .i64 0] 87)).alloc (.cells #[.string ⟨#[]⟩, .string ⟨#[101]⟩] 9)).alloc (.cells #[.int .i64 4] 3)).alloc (.cells #[.int .i64 4, .int .i64 1, .int .i64 2] 3)).alloc (.cells #[.int .i64 2] 3)).alloc (.cells #[.int .i64 3, .slice (some ⟨w.heap.size + 1 + 1 + 1, 0, none⟩) 1 1, .int .i64 0, .int .i64 4, .slice (some ⟨w.heap.size + 1 + 1 + 1 + 1, 0, none⟩) 3 3, .int .i64 0, .int .i64 4, .slice (some ⟨w.heap.size + 1 + 1 + 1 + 1 + 1, 0, none⟩) 1 1, .int .i64 0] 57)).heap[w.heap.size]? = some (.cells cs 27 (0, 0)) ∧ (((((((w.alloc (.cells cs 27)).alloc (.cells #[.string ⟨#[]⟩, .int .i64 0, .string ⟨#[43]⟩, .int .i64 0, .string ⟨#[110]⟩, .int .i64 0] 87)).alloc (.cells #[.string ⟨#[]⟩, .string ⟨#[101]⟩] 9)).alloc (.cells #[.int .i64 4] 3)).alloc (.cells #[.int .i64 4, .int .i64 1, .int .i64 2] 3)).alloc (.cells #[.int .i64 2] 3)).alloc (.cells #[.int .i64 3, .slice (some ⟨w.heap.size + 1 + 1 + 1, 0, none⟩) 1 1, .int .i64 0, .int .i64 4, .slice (some ⟨w.heap.size + 1 + 1 + 1 + 1, 0, none⟩) 3 3, .int .i64 0, .int .i64 4, .slice (some ⟨w.heap.size + 1 + 1 + 1 + 1 + 1, 0, none⟩) 1 1, .int .i64 0] 57)).heap[w.heap.size + 1]? = some (.cells #[.string ⟨#[]⟩, .int .i64 0, .string ⟨#[43]⟩, .int .i64 0, .string ⟨#[110]⟩, .int .i64 0] 87 (0, 0)) ∧ (((((((w.alloc (.cells cs 27)).alloc (.cells #[.string ⟨#[]⟩, .int .i64 0, .string ⟨#[43]⟩, .int .i64 0, .string ⟨#[110]⟩, .int .i64 0] 87)).alloc (.cells #[.string ⟨#[]⟩, .string ⟨#[101]⟩] 9)).alloc (.cells #[.int .i64 4] 3)).alloc (.cells #[.int .i64 4, .int .i64 1, .int .i64 2] 3)).alloc (.cells #[.int .i64 2] 3)).alloc (.cells #[.int .i64 3, .slice (some ⟨w.heap.size + 1 + 1 + 1, 0, none⟩) 1 1, .int .i64 0, .int .i64 4, .slice (some ⟨w.heap.size + 1 + 1 + 1 + 1, 0, none⟩) 3 3, .int .i64 0, .int .i64 4, .slice (some ⟨w.heap.size + 1 + 1 + 1 + 1 + 1, 0, none⟩) 1 1, .int .i64 0] 57)).heap[w.heap.size + 1 + 1]? = some (.cells #[.string ⟨#[]⟩, .string ⟨#[101]⟩] 9 (0, 0)) ∧ (((((((w.alloc (.cells cs 27)).alloc (.cells #[.string ⟨#[]⟩, .int .i64 0, .string ⟨#[43]⟩, .int .i64 0, .string ⟨#[110]⟩, .int .i64 0] 87)).alloc (.cells #[.string ⟨#[]⟩, .string ⟨#[101]⟩] 9)).alloc (.cells #[.int .i64 4] 3)).alloc (.cells #[.int .i64 4, .int .i64 1, .int .i64 2] 3)).alloc (.cells #[.int .i64 2] 3)).alloc (.cells #[.int .i64 3, .slice (some ⟨w.heap.size + 1 + 1 + 1, 0, none⟩) 1 1, .int .i64 0, .int .i64 4, .slice (some ⟨w.heap.size + 1 + 1 + 1 + 1, 0, none⟩) 3 3, .int .i64 0, .int .i64 4, .slice (some ⟨w.heap.size + 1 + 1 + 1 + 1 + 1, 0, none⟩) 1 1, .int .i64 0] 57)).heap[w.heap.size + 1 + 1 + 1]? = some (.cells #[.int .i64 4] 3 (0, 0)) ∧ (((((((w.alloc (.cells cs 27)).alloc (.cells #[.string ⟨#[]⟩, .int .i64 0, .string ⟨#[43]⟩, .int .i64 0, .string ⟨#[110]⟩, .int .i64 0] 87)).alloc (.cells #[.string ⟨#[]⟩, .string ⟨#[101]⟩] 9)).alloc (.cells #[.int .i64 4] 3)).alloc (.cells #[.int .i64 4, .int .i64 1, .int .i64 2] 3)).alloc (.cells #[.int .i64 2] 3)).alloc (.cells #[.int .i64 3, .slice (some ⟨w.heap.size + 1 + 1 + 1, 0, none⟩) 1 1, .int .i64 0, .int .i64 4, .slice (some ⟨w.heap.size + 1 + 1 + 1 + 1, 0, none⟩) 3 3, .int .i64 0, .int .i64 4, .slice (some ⟨w.heap.size + 1 + 1 + 1 + 1 + 1, 0, none⟩) 1 1, .int .i64 0] 57)).heap[w.heap.size + 1 + 1 + 1 + 1]? = some (.cells #[.int .i64 4, .int .i64 1, .int .i64 2] 3 (0, 0)) ∧ (((((((w.alloc (.cells cs 27)).alloc (.cells #[.string ⟨#[]⟩, .int .i64 0, .string ⟨#[43]⟩, .int .i64 0, .string ⟨#[110]⟩, .int .i64 0] 87)).alloc (.cells #[.string ⟨#[]⟩, .string ⟨#[101]⟩] 9)).alloc (.cells #[.int .i64 4] 3)).alloc (.cells #[.int .i64 4, .int .i64 1, .int .i64 2] 3)).alloc (.cells #[.int .i64 2] 3)).alloc (.cells #[.int .i64 3, .slice (some ⟨w.heap.size + 1 + 1 + 1, 0, none⟩) 1 1, .int .i64 0, .int .i64 4, .slice (some ⟨w.heap.size + 1 + 1 + 1 + 1, 0, none⟩) 3 3, .int .i64 0, .int .i64 4, .slice (some ⟨w.heap.size + 1 + 1 + 1 + 1 + 1, 0, none⟩) 1 1, .int .i64 0] 57)).heap[w.heap.size + 1 + 1 + 1 + 1 + 1]? = some (.cells #[.int .i64 2] 3 (0, 0)) ∧ (((((((w.alloc (.cells cs 27)).alloc (.cells #[.string ⟨#[]⟩, .int .i64 0, .string ⟨#[43]⟩, .int .i64 0, .string ⟨#[110]⟩, .int .i64 0] 87)).alloc (.cells #[.string ⟨#[]⟩, .string ⟨#[101]⟩] 9)).alloc (.cells #[.int .i64 4] 3)).alloc (.cells #[.int .i64 4, .int .i64 1, .int .i64 2] 3)).alloc (.cells #[.int .i64 2] 3)).alloc (.cells #[.int .i64 3, .slice (some ⟨w.heap.size + 1 + 1 + 1, 0, none⟩) 1 1, .int .i64 0, .int .i64 4, .slice (some ⟨w.heap.size + 1 + 1 + 1 + 1, 0, none⟩) 3 3, .int .i64 0, .int .i64 4, .slice (some ⟨w.heap.size + 1 + 1 + 1 + 1 + 1, 0, none⟩) 1 1, .int .i64 0] 57)).heap[w.heap.size + 1 + 1 + 1 + 1 + 1 + 1]? = some (.cells #[.int .i64 3, .slice (some ⟨w.heap.size + 1 + 1 + 1, 0, none⟩) 1 1, .int .i64 0, .int .i64 4, .slice (some ⟨w.heap.size + 1 + 1 + 1 + 1, 0, none⟩) 3 3, .int .i64 0, .int .i64 4, .slice (some ⟨w.heap.size + 1 + 1 + 1 + 1 + 1, 0, none⟩) 1 1, .int .i64 0] 57 (0, 0))) ∧ w.grownBy (((((((w.alloc (.cells cs 27)).alloc (.cells #[.string ⟨#[]⟩, .int .i64 0, .string ⟨#[43]⟩, .int .i64 0, .string ⟨#[110]⟩, .int .i64 0] 87)).alloc (.cells #[.string ⟨#[]⟩, .string ⟨#[101]⟩] 9)).alloc (.cells #[.int .i64 4] 3)).alloc (.cells #[.int .i64 4, .int .i64 1, .int .i64 2] 3)).alloc (.cells #[.int .i64 2] 3)).alloc (.cells #[.int .i64 3, .slice (some ⟨w.heap.size + 1 + 1 + 1, 0, none⟩) 1 1, .int .i64 0, .int .i64 4, .slice (some ⟨w.heap.size + 1 + 1 + 1 + 1, 0, none⟩) 3 3, .int .i64 0, .int .i64 4, .slice (some ⟨w.heap.size + 1 + 1 + 1 + 1 + 1, 0, none⟩) 1 1, .int .i64 0] 57)) none := by
  have g0 := World.grownBy_alloc w (.cells cs 27) none
  have c0 := heap_alloc_last w (.cells cs 27)
  have g1 := World.grownBy_alloc (w.alloc (.cells cs 27)) (.cells #[.string ⟨#[]⟩, .int .i64 0, .string ⟨#[43]⟩, .int .i64 0, .string ⟨#[110]⟩, .int .i64 0] 87) none
  have c1 := heap_alloc_last (w.alloc (.cells cs 27)) (.cells #[.string ⟨#[]⟩, .int .i64 0, .string ⟨#[43]⟩, .int .i64 0, .string ⟨#[110]⟩, .int .i64 0] 87)
  rw [World.size_alloc] at c1
  have g2 := World.grownBy_alloc ((w.alloc (.cells cs 27)).alloc (.cells #[.string ⟨#[]⟩, .int .i64 0, .string ⟨#[43]⟩, .int .i64 0, .string ⟨#[110]⟩, .int .i64 0] 87)) (.cells #[.string ⟨#[]⟩, .string ⟨#[101]⟩] 9) none
  have c2 := heap_alloc_last ((w.alloc (.cells cs 27)).alloc (.cells #[.string ⟨#[]⟩, .int .i64 0, .string ⟨#[43]⟩, .int .i64 0, .string ⟨#[110]⟩, .int .i64 0] 87)) (.cells #[.string ⟨#[]⟩, .string ⟨#[101]⟩] 9)
  rw [World.size_alloc, World.size_alloc] at c2
  have g3 := World.grownBy_alloc (((w.alloc (.cells cs 27)).alloc (.cells #[.string ⟨#[]⟩, .int .i64 0, .string ⟨#[43]⟩, .int .i64 0, .string ⟨#[110]⟩, .int .i64 0] 87)).alloc (.cells #[.string ⟨#[]⟩, .string ⟨#[101]⟩] 9)) (.cells #[.int .i64 4] 3) none
  have c3 := heap_alloc_last (((w.alloc (.cells cs 27)).alloc (.cells #[.string ⟨#[]⟩, .int .i64 0, .string ⟨#[43]⟩, .int .i64 0, .string ⟨#[110]⟩, .int .i64 0] 87)).alloc (.cells #[.string ⟨#[]⟩, .string ⟨#[101]⟩] 9)) (.cells #[.int .i64 4] 3)
  rw [World.size_alloc, World.size_alloc, World.size_alloc] at c3
  have g4 := World.grownBy_alloc ((((w.alloc (.cells cs 27)).alloc (.cells #[.string ⟨#[]⟩, .int .i64 0, .string ⟨#[43]⟩, .int .i64 0, .string ⟨#[110]⟩, .int .i64 0] 87)).alloc (.cells #[.string ⟨#[]⟩, .string ⟨#[101]⟩] 9)).alloc (.cells #[.int .i64 4] 3)) (.cells #[.int .i64 4, .int .i64 1, .int .i64 2] 3) none
  have c4 := heap_alloc_last ((((w.alloc (.cells cs 27)).alloc (.cells #[.string ⟨#[]⟩, .int .i64 0, .string ⟨#[43]⟩, .int .i64 0, .string ⟨#[110]⟩, .int .i64 0] 87)).alloc (.cells #[.string ⟨#[]⟩, .string ⟨#[101]⟩] 9)).alloc (.cells #[.int .i64 4] 3)) (.cells #[.int .i64 4, .int .i64 1, .int .i64 2] 3)
  rw [World.size_alloc, World.size_alloc, World.size_alloc, World.size_alloc] at c4
  have g5 := World.grownBy_alloc (((((w.alloc (.cells cs 27)).alloc (.cells #[.string ⟨#[]⟩, .int .i64 0, .string ⟨#[43]⟩, .int .i64 0, .string ⟨#[110]⟩, .int .i64 0] 87)).alloc (.cells #[.string ⟨#[]⟩, .string ⟨#[101]⟩] 9)).alloc (.cells #[.int .i64 4] 3)).alloc (.cells #[.int .i64 4, .int .i64 1, .int .i64 2] 3)) (.cells #[.int .i64 2] 3) none
  have c5 := heap_alloc_last (((((w.alloc (.cells cs 27)).alloc (.cells #[.string ⟨#[]⟩, .int .i64 0, .string ⟨#[43]⟩, .int .i64 0, .string ⟨#[110]⟩, .int .i64 0] 87)).alloc (.cells #[.string ⟨#[]⟩, .string ⟨#[101]⟩] 9)).alloc (.cells #[.int .i64 4] 3)).alloc (.cells #[.int .i64 4, .int .i64 1, .int .i64 2] 3)) (.cells #[.int .i64 2] 3)
  rw [World.size_alloc, World.size_alloc, World.size_alloc, World.size_alloc, World.size_alloc] at c5
  have g6 := World.grownBy_alloc ((((((w.alloc (.cells cs 27)).alloc (.cells #[.string ⟨#[]⟩, .int .i64 0, .string ⟨#[43]⟩, .int .i64 0, .string ⟨#[110]⟩, .int .i64 0] 87)).alloc (.cells #[.string ⟨#[]⟩, .string ⟨#[101]⟩] 9)).alloc (.cells #[.int .i64 4] 3)).alloc (.cells #[.int .i64 4, .int .i64 1, .int .i64 2] 3)).alloc (.cells #[.int .i64 2] 3)) (.cells #[.int .i64 3, .slice (some ⟨w.heap.size + 1 + 1 + 1, 0, none⟩) 1 1, .int .i64 0, .int .i64 4, .slice (some ⟨w.heap.size + 1 + 1 + 1 + 1, 0, none⟩) 3 3, .int .i64 0, .int .i64 4, .slice (some ⟨w.heap.size + 1 + 1 + 1 + 1 + 1, 0, none⟩) 1 1, .int .i64 0] 57) none
  have c6 := heap_alloc_last ((((((w.alloc (.cells cs 27)).alloc (.cells #[.string ⟨#[]⟩, .int .i64 0, .string ⟨#[43]⟩, .int .i64 0, .string ⟨#[110]⟩, .int .i64 0] 87)).alloc (.cells #[.string ⟨#[]⟩, .string ⟨#[101]⟩] 9)).alloc (.cells #[.int .i64 4] 3)).alloc (.cells #[.int .i64 4, .int .i64 1, .int .i64 2] 3)).alloc (.cells #[.int .i64 2] 3)) (.cells #[.int .i64 3, .slice (some ⟨w.heap.size + 1 + 1 + 1, 0, none⟩) 1 1, .int .i64 0, .int .i64 4, .slice (some ⟨w.heap.size + 1 + 1 + 1 + 1, 0, none⟩) 3 3, .int .i64 0, .int .i64 4, .slice (some ⟨w.heap.size + 1 + 1 + 1 + 1 + 1, 0, none⟩) 1 1, .int .i64 0] 57)
  rw [World.size_alloc, World.size_alloc, World.size_alloc, World.size_alloc, World.size_alloc, World.size_alloc] at c6
  have c0 := (boxKept c0 g1).out
  have c0 := (boxKept c0 g2).out
  have c0 := (boxKept c0 g3).out
  have c0 := (boxKept c0 g4).out
  have c0 := (boxKept c0 g5).out
  have c0 := (boxKept c0 g6).out
  have c1 := (boxKept c1 g2).out
  have c1 := (boxKept c1 g3).out
  have c1 := (boxKept c1 g4).out
  have c1 := (boxKept c1 g5).out
  have c1 := (boxKept c1 g6).out
  have c2 := (boxKept c2 g3).out
  have c2 := (boxKept c2 g4).out
  have c2 := (boxKept c2 g5).out
  have c2 := (boxKept c2 g6).out
  have c3 := (boxKept c3 g4).out
  have c3 := (boxKept c3 g5).out
  have c3 := (boxKept c3 g6).out
  have c4 := (boxKept c4 g5).out
  have c4 := (boxKept c4 g6).out
  have c5 := (boxKept c5 g6).out
  exact ⟨⟨c0, c1, c2, c3, c4, c5, c6⟩, (grown_trans g0 (grown_trans g1 (grown_trans g2 (grown_trans g3 (grown_trans g4 (grown_trans g5 g6))))))⟩

set_option maxRecDepth 100000 in
set_option maxHeartbeats 1000000 in
theorem small_any (w : World) : Calls Try.prog 17 #[] w fun e y => ∃ b1 b2 b6 ra rc, e = .returned (.agg #[.slice (some ⟨b1, 0, none⟩) 3 3, .slice (some ⟨b2, 0, none⟩) 2 2, .slice none 0 0, .int .i64 4, .slice (some ⟨b6, 0, none⟩) 3 3]) ∧ GAt y (some ⟨b1, 0, none⟩) (some ⟨b2, 0, none⟩) none (some ⟨b6, 0, none⟩) 3 2 0 3 kTs kNs [] 3 kL kR ra rc (fun _ => 0) ∧ w.grownBy y none := by
  have HC := show Hid _ from k_chain w #[.slice (some ⟨w.heap.size + 1, 0, none⟩) 3 3, .slice (some ⟨w.heap.size + 1 + 1, 0, none⟩) 2 2, .slice none 0 0, .int .i64 4, .slice (some ⟨w.heap.size + 1 + 1 + 1 + 1 + 1 + 1, 0, none⟩) 3 3]
  go_enter Try.func17, Try.ntmps17
  go_wp2_with fail
  obtain ⟨⟨c0, c1, c2, c3, c4, c5, c6⟩, hg⟩ := HC.out
  obtain ⟨ra, rc, hG⟩ := k_gat c1 c2 c3 c4 c5 c6
  exact bodyPost_ret (v := .agg #[.slice (some ⟨w.heap.size + 1, 0, none⟩) 3 3, .slice (some ⟨w.heap.size + 1 + 1, 0, none⟩) 2 2, .slice none 0 0, .int .i64 4, .slice (some ⟨w.heap.size + 1 + 1 + 1 + 1 + 1 + 1, 0, none⟩) 3 3]) (results_cell_row (fr := (0, 0)) rfl _ _ w.heap.size 27 #[.slice (some ⟨w.heap.size + 1, 0, none⟩) 3 3, .slice (some ⟨w.heap.size + 1 + 1, 0, none⟩) 2 2, .slice none 0 0, .int .i64 4, .slice (some ⟨w.heap.size + 1 + 1 + 1 + 1 + 1 + 1, 0, none⟩) 3 3] _ rfl c0 Try.underlying27 rfl infoGramK) rfl ⟨_, _, _, ra, rc, rfl, hG, hg⟩

end Go.Proofs.Ytfllgmbnljfboaa.J

/-
  lr0: the law's small grammar is closed.
-/
namespace Go.Proofs.Ytfllgmbnljfboaa.J
open Go.RowKit Go.Maps Go.Shelf

theorem k_closed : closedOK kTs kNs [] 4 3 kL kR (fun _ => 0) := by
  refine ⟨⟨by decide, rfl, by decide, rfl, rfl, rfl⟩, ⟨by decide, by decide, by decide, by decide, by decide, by decide, ⟨⟨by decide, rfl⟩, fun i h1 h2 => ?_⟩, fun j hj => absurd hj (Nat.not_lt_zero j), fun i h1 h2 => ?_, fun i h1 h2 => ?_, rfl, ⟨by decide, by decide⟩⟩⟩
  · have h3 : i = 1 ∨ i = 2 := by simp [kTs] at h2; omega
    rcases h3 with rfl | rfl
    · exact ⟨⟨by rfl, by decide, by decide⟩, fun k h4 h5 => absurd h5 (by omega)⟩
    · refine ⟨⟨by rfl, by decide, by decide⟩, fun k h4 h5 => ?_⟩
      have h6 : k = 1 := by omega
      subst h6
      decide
  · have h3 : i = 1 := by simp [kNs] at h2; omega
    subst h3
    exact ⟨by rfl, fun k h4 h5 => absurd h5 (by omega)⟩
  · have h3 : i = 1 ∨ i = 2 := by omega
    rcases h3 with rfl | rfl
    · refine ⟨⟨by decide, by decide⟩, ⟨by decide, by decide⟩, ?_⟩
      intro x hx
      simp [kR] at hx
      rcases hx with rfl | rfl | rfl
      · exact .inr ⟨by decide, by decide⟩
      · exact .inl ⟨by decide, by decide⟩
      · exact .inl ⟨by decide, by decide⟩
    · refine ⟨⟨by decide, by decide⟩, ⟨by decide, by decide⟩, ?_⟩
      intro x hx
      simp [kR] at hx
      subst hx
      exact .inl ⟨by decide, by decide⟩

end Go.Proofs.Ytfllgmbnljfboaa.J

/-
  lr0: the automaton of the law's small grammar, pure.
-/
namespace Go.Proofs.Ytfllgmbnljfboaa.J
open Go.RowKit Go.Maps Go.Shelf

theorem isClo_mk {tn n : Nat} {L : Nat → Int} {R : Nat → List Int} {I l : List It} (hA : Asc l) (hI : ∀ x ∈ I, x ∈ l) (hl : ∀ x ∈ l, Clo tn n L R I x) (hc : ∀ y ∈ l, ∀ k, k < n → (tn : Int) ≤ aheadV R y → L k = aheadV R y → ((k : Int), (0 : Int)) ∈ l) : IsClo tn n L R I l :=
  ⟨hA, fun x => ⟨hl x, fun h => h (fun y => y ∈ l) hI fun y k hy ht hk hk2 => hc y hy k hk ht hk2⟩⟩
theorem isClo_self {tn n : Nat} {L : Nat → Int} {R : Nat → List Int} {l : List It} (hA : Asc l) (hc : ∀ y ∈ l, aheadV R y < (tn : Int)) : IsClo tn n L R l l :=
  isClo_mk hA (fun _ h => h) (fun _ h => Clo.base h) fun y hy k _ ht _ => absurd (hc y hy) (by omega)

def kCl (k : List It) : List It := if k = [(0, 0)] then [(0, 0), (1, 0), (2, 0)] else k
def kKs : List (List It) := [[(0, 0)], [(2, 1)], [(0, 1), (1, 1)], [(1, 2)], [(1, 3)]]
def kEs : List (List (Nat × Nat)) := [[(2, 1), (4, 2)], [], [(1, 3)], [(2, 4)], []]

theorem k_clo : ∀ k ∈ kKs, IsClo 3 3 kL kR k (kCl k) := by
  intro k hk
  simp only [kKs, List.mem_cons, List.not_mem_nil, or_false] at hk
  rcases hk with rfl | rfl | rfl | rfl | rfl
  · refine isClo_mk (by simp [kCl, Asc, ltI]) (by simp [kCl]) (fun x hx => ?_) (fun y hy k hk _ _ => ?_)
    · have h0 : Clo 3 3 kL kR [((0 : Int), (0 : Int))] ((0 : Int), (0 : Int)) := Clo.base (by simp)
      simp [kCl] at hx
      rcases hx with rfl | rfl | rfl
      · exact h0
      · exact h0.step (k := 1) (by decide) (by decide) (by decide)
      · exact h0.step (k := 2) (by decide) (by decide) (by decide)
    · have h3 : k = 0 ∨ k = 1 ∨ k = 2 := by omega
      rcases h3 with rfl | rfl | rfl <;> simp [kCl]
  all_goals
    refine isClo_self (by simp [Asc, ltI]) (fun y hy => ?_)
    simp at hy
    rcases hy with rfl | rfl <;> decide

/-- Whatever closes the kernels, the automaton is this one. -/
theorem k_auto {CL : List It → List It} (h : ∀ k ∈ kKs, IsClo 3 3 kL kR k (CL k)) : autoF (fun k (s : Nat) => kerT kR (CL k) (s : Int)) 5 256 = some (kKs, kEs) := by
  have hc : ∀ k ∈ kKs, CL k = kCl k := fun k hk => (h k hk).unique (k_clo k hk)
  have c0 := hc [(0, 0)] (by simp [kKs])
  have c1 := hc [(2, 1)] (by simp [kKs])
  have c2 := hc [(0, 1), (1, 1)] (by simp [kKs])
  have c3 := hc [(1, 2)] (by simp [kKs])
  have c4 := hc [(1, 3)] (by simp [kKs])
  obtain ⟨G, hG⟩ : ∃ G : List It → Nat → List It, G = fun k (s : Nat) => kerT kR (CL k) (s : Int) := ⟨_, rfl⟩
  rw [← hG]
  have g0 : G [(0, 0)] = fun (s : Nat) => kerT kR (kCl [(0, 0)]) (s : Int) := by rw [hG]; simp only; rw [c0]
  have g1 : G [(2, 1)] = fun (s : Nat) => kerT kR (kCl [(2, 1)]) (s : Int) := by rw [hG]; simp only; rw [c1]
  have g2 : G [(0, 1), (1, 1)] = fun (s : Nat) => kerT kR (kCl [(0, 1), (1, 1)]) (s : Int) := by rw [hG]; simp only; rw [c2]
  have g3 : G [(1, 2)] = fun (s : Nat) => kerT kR (kCl [(1, 2)]) (s : Int) := by rw [hG]; simp only; rw [c3]
  have g4 : G [(1, 3)] = fun (s : Nat) => kerT kR (kCl [(1, 3)]) (s : Int) := by rw [hG]; simp only; rw [c4]
  have a0 : autoF G 5 0 = some ([[(0, 0)]], []) := rfl
  have a1 : autoF G 5 1 = some ([[(0, 0)], [(2, 1)], [(0, 1), (1, 1)]], [[(2, 1), (4, 2)]]) := by
    rw [autoF_step a0 (by decide), show ([[((0 : Int), (0 : Int))]] : List (List It)).getD 0 [] = [(0, 0)] from rfl, g0]
    decide
  have a2 : autoF G 5 2 = some ([[(0, 0)], [(2, 1)], [(0, 1), (1, 1)]], [[(2, 1), (4, 2)], []]) := by
    rw [autoF_step a1 (by decide), show ([[(0, 0)], [(2, 1)], [(0, 1), (1, 1)]] : List (List It)).getD 1 [] = [(2, 1)] from rfl, g1]
    decide
  have a3 : autoF G 5 3 = some ([[(0, 0)], [(2, 1)], [(0, 1), (1, 1)], [(1, 2)]], [[(2, 1), (4, 2)], [], [(1, 3)]]) := by
    rw [autoF_step a2 (by decide), show ([[(0, 0)], [(2, 1)], [(0, 1), (1, 1)]] : List (List It)).getD 2 [] = [(0, 1), (1, 1)] from rfl, g2]
    decide
  have a4 : autoF G 5 4 = some (kKs, [[(2, 1), (4, 2)], [], [(1, 3)], [(2, 4)]]) := by
    rw [autoF_step a3 (by decide), show ([[(0, 0)], [(2, 1)], [(0, 1), (1, 1)], [(1, 2)]] : List (List It)).getD 3 [] = [(1, 2)] from rfl, g3]
    decide
  have a5 : autoF G 5 5 = some (kKs, kEs) := by
    rw [autoF_step a4 (by decide), show kKs.getD 4 [] = [(1, 3)] from rfl, g4]
    decide
  exact autoF_stay a5 (by decide) 251

end Go.Proofs.Ytfllgmbnljfboaa.J

/-
  lr0: the document's Laid.
-/
namespace Go.Proofs.Ytfllgmbnljfboaa.J
open Go.RowKit Go.Maps Go.Shelf

attribute [local go_sem] Oper.semAt_some

theorem owns_lowJ {w : World} {base base' e size n : Nat} {v : Value} {xs : List Value} (h : w.ownsRow base e size v n xs) (hb : base' ≤ base) : w.ownsRow base' e size v n xs := by
  refine ⟨h.1, ?_⟩
  rcases h.2 with h | ⟨g, cap, cur, hv, hB, hr⟩
  · exact .inl h
  · exact .inr ⟨g, cap, cur, hv, Nat.le_trans hb hB, hr⟩

/-- What Laid tells. -/
def LaidTold (l : List It) (w : World) (e : Ending) (y : World) : Prop := ∃ l', Asc l' ∧ (∀ x, x ∈ l' ↔ x ∈ l) ∧ l'.length ≤ l.length ∧ ItsTold l' w e y

set_option maxRecDepth 100000 in
set_option maxHeartbeats 4000000 in
theorem laid_any (a0 : Option Addr) (c0 : Nat) (l : List It) (w : World) (hl : ItsAt w a0 l) (hb : l.length ≤ 8796093062208) :
    Calls Try.prog 51 #[.slice a0 l.length c0] w fun e y => LaidTold l w e y := by
  obtain ⟨N, hN⟩ : ∃ n, n = l.length := ⟨_, rfl⟩
  have HN : Hid (N = l.length) := hN
  have HL : Hid (∀ X, w.grownBy X none → ItsAt X a0 l) := fun X hX => hl.kept hX
  rw [← hN] at hb
  rw [← hN]
  have hgu := guard_item
  obtain ⟨i0, hi0, hz0, hz1, hz2⟩ := info_parts infoItem
  clear hN hl
  go_enter Try.func51, Try.ntmps51
  go_wp2_with fail
  go_loopg [3, 4] N (fun gk v3 v4 wr => ∃ (i q : Nat) (a : Option Addr) (c : Nat) (O : List It), i ≤ N ∧ gk = N - i ∧ v3 = .slice a q c ∧ v4 = .int .i64 i ∧ q = O.length ∧ q ≤ i ∧ (Asc O ∧ ∀ x, x ∈ O ↔ ∃ j, j < i ∧ l.getD j (0, 0) = x) ∧ wr.ownsRow w.heap.size 55 2 (.slice a q c) q (itsV O) ∧ w.grownBy wr none)
  case atStart => exact ⟨0, 0, none, 0, [], Nat.zero_le _, rfl, rfl, rfl, rfl, Nat.le_refl _, ⟨List.Pairwise.nil, fun x => by simp⟩, World.ownsRow_nil _ _ _ _, grown_refl _ _⟩
  case round =>
    obtain ⟨i, q, a, c, O, hi, hgi, rfl, rfl, hq, hqi, hO, hOW, hg⟩ := hrel
    have HGI : Hid (gk = N - i) := hgi
    have HQ : Hid (q = O.length) := hq
    have HO : Hid (Asc O ∧ ∀ x, x ∈ O ↔ ∃ j, j < i ∧ l.getD j (0, 0) = x) := hO
    have HOW0 : Hid (wr.ownsRow w.heap.size 55 2 (.slice a q c) q (itsV O)) := hOW
    have HG0 : Hid (w.grownBy wr none) := hg
    clear hgi hq hO hOW hg
    by_cases hlt : i < N
    · have hi0' : (0 : Int) ≤ (i : Int) := by omega
      have hi1' : (i : Int) < (N : Int) := by omega
      have hid : decide (i < N) = true := decide_eq_true hlt
      obtain ⟨lb, lo, rfl, HLC0⟩ : ∃ lb lo, a0 = some ⟨lb, lo, none⟩ ∧ Hid (∀ X, w.grownBy X none → X.cell? ⟨lb, lo + i * 2, none⟩ = some (.int .i64 (l.getD i (0, 0)).1) ∧ X.cell? ⟨lb, lo + i * 2 + 1, none⟩ = some (.int .i64 (l.getD i (0, 0)).2)) := by
        obtain ⟨lb, lo, e, _⟩ := (HL.out w (grown_refl _ _)).at (i := i) (by rw [← HN.out]; exact hlt)
        refine ⟨lb, lo, e, fun X hX => ?_⟩
        obtain ⟨lb', lo', e', q1, q2⟩ := (HL.out X hX).at (i := i) (by rw [← HN.out]; exact hlt)
        rw [e] at e'
        cases e'
        exact ⟨q1, q2⟩
      obtain ⟨x, hx⟩ : ∃ x, x = l.getD i (0, 0) := ⟨_, rfl⟩
      have HX : Hid (x = l.getD i (0, 0)) := hx
      rw [← hx] at HLC0
      clear hx
      obtain ⟨xp, xd⟩ := x
      simp only at HLC0
      generalize wr = W1 at *
      go_wp2_with fail
      go_loopg [5] q (fun gk v5 wr => ∃ k : Nat, k ≤ q ∧ gk = q - k ∧ v5 = .int .i64 k ∧ (∀ j, j < k → ltI (O.getD j (0, 0)) (xp, xd)) ∧ W1.grownBy wr none)
      case atStart => exact ⟨0, Nat.zero_le _, rfl, rfl, fun j hj => absurd hj (Nat.not_lt_zero _), grown_refl _ _⟩
      case round =>
        obtain ⟨k, hkq0, hgk, rfl, hlts, hgw⟩ := hrel
        have HGK : Hid (gk = q - k) := hgk
        have HLT : Hid (∀ j, j < k → ltI (O.getD j (0, 0)) (xp, xd)) := hlts
        have HGW : Hid (W1.grownBy wr none) := hgw
        have HG : Hid (w.grownBy wr none) := grown_trans HG0.out hgw
        have HOW : Hid (wr.ownsRow w.heap.size 55 2 (.slice a q c) q (itsV O)) := keep0 HOW0.out hgw
        have HIO : Hid (ItsAt wr a O) := ItsAt.of (c := c) (B := w.heap.size) (by rw [← HQ.out]; exact keep0 HOW0.out hgw)
        clear hgk hlts hgw
        obtain ⟨l0, l1⟩ := HLC0.out wr HG.out
        by_cases hkl : k < q
        · have hk0 : (0 : Int) ≤ (k : Int) := by omega
          have hk1 : (k : Int) < (q : Int) := by omega
          have hkd : decide (k < q) = true := decide_eq_true hkl
          obtain ⟨ob, rfl⟩ : ∃ ob, a = some ⟨ob, 0, none⟩ := by
            rcases HOW.out.2 with ⟨h, h0⟩ | ⟨g, cap, cur, hv, _⟩
            · omega
            · simp only [Value.slice.injEq] at hv; exact ⟨g, hv.1⟩
          obtain ⟨ob', oo, hob, o0, o1⟩ := HIO.out.at (i := k) (by rw [← HQ.out]; exact hkl)
          simp only [Option.some.injEq, Addr.mk.injEq, and_true] at hob
          obtain ⟨rfl, rfl⟩ := hob
          rw [Nat.zero_add] at o0 o1
          obtain ⟨y, hy⟩ : ∃ y, y = O.getD k (0, 0) := ⟨_, rfl⟩
          have HY : Hid (y = O.getD k (0, 0)) := hy
          rw [← hy] at o0 o1
          clear hy
          obtain ⟨yp, yd⟩ := y
          simp only at o0 o1
          by_cases hlt1 : yp < xp
          · have e1 : decide (yp < xp) = true := decide_eq_true hlt1
            have HNL : Hid (∀ j, j < k + 1 → ltI (O.getD j (0, 0)) (xp, xd)) := fun j hj => by
              by_cases e : j = k
              · rw [e, ← HY.out]; exact .inl hlt1
              · exact HLT.out j (by omega)
            clear hlt1
            go_wp2_with fail
            go_quiet (fail)
            go_wp2_with fail
            go_roundg (q - (k + 1))
            case measure => have := HGK.out; omega
            case rel => exact ⟨k + 1, by omega, rfl, by go_num, HNL.out, grown_trans HGW.out (grown_drewN _ _)⟩
          · have e1 : decide (yp < xp) = false := decide_eq_false hlt1
            by_cases hlt2 : yp = xp ∧ yd < xd
            · have e2 : (yp == xp) = true := beq_iff_eq.2 hlt2.1
              have e3 : decide (yd < xd) = true := decide_eq_true hlt2.2
              have HNL : Hid (∀ j, j < k + 1 → ltI (O.getD j (0, 0)) (xp, xd)) := fun j hj => by
                by_cases e : j = k
                · rw [e, ← HY.out]; exact .inr hlt2
                · exact HLT.out j (by omega)
              clear hlt1 hlt2
              go_wp2_with fail
              go_quiet (fail)
              go_wp2_with fail
              go_roundg (q - (k + 1))
              case measure => have := HGK.out; omega
              case rel => exact ⟨k + 1, by omega, rfl, by go_num, HNL.out, grown_trans HGW.out (grown_drewN _ _)⟩
            · have HSP : Hid (Spot (xp, xd) O k) := ⟨by rw [← HQ.out]; omega, HLT.out, fun _ h => by
                rw [← HY.out] at h
                rcases h with h | h
                · exact hlt1 h
                · exact hlt2 h⟩
              obtain ⟨bb, hbb⟩ : ∃ b, b = (yp == xp && yd == xd) := ⟨_, rfl⟩
              have HBB : Hid (bb = true ↔ O.getD k (0, 0) = (xp, xd)) := by
                rw [← HY.out, hbb, Bool.and_eq_true, beq_iff_eq, beq_iff_eq]
                exact ⟨fun h => Prod.ext h.1 h.2, fun h => ⟨congrArg Prod.fst h, congrArg Prod.snd h⟩⟩
              have hE : ∀ X : World, (binOp .eql 55 (.agg #[.int .i64 yp, .int .i64 yd]) (.agg #[.int .i64 xp, .int .i64 xd])).run Try.prog X = .ok (.bool bb) X := fun X => by rw [hbb]; exact eq_item yp yd xp xd X
              clear hbb
              by_cases heq : yp = xp
              case' pos =>
                have e2 : (yp == xp) = true := beq_iff_eq.2 heq
                have e3 : decide (yd < xd) = false := decide_eq_false fun h => hlt2 ⟨heq, h⟩
              case' neg =>
                have e2 : (yp == xp) = false := beq_eq_false_iff_ne.2 heq
              all_goals
                clear heq hlt1 hlt2
                cases bb with
                | true =>
                  have HEM : Hid (∀ y, y ∈ O ↔ ∃ j, j < i + 1 ∧ l.getD j (0, 0) = y) := fun y => by
                    rw [HO.out.2]
                    constructor
                    · rintro ⟨j, h1, h2⟩; exact ⟨j, by omega, h2⟩
                    · rintro ⟨j, h1, h2⟩
                      by_cases e : j = i
                      · have h3 : (xp, xd) ∈ O := spot_in (by rw [← HQ.out]; exact hkl) (HBB.out.1 rfl)
                        have h4 := (HO.out.2 _).1 h3
                        rw [← h2, e, ← HX.out]; exact h4
                      · exact ⟨j, by omega, h2⟩
                  clear HBB
                  have HALL : Hid (∀ X, wr.grownBy X none → w.grownBy X none ∧ X.ownsRow w.heap.size 55 2 (.slice (some ⟨ob, 0, none⟩) q c) q (itsV O) ∧ ItsAt X (some ⟨ob, 0, none⟩) O) := fun X hX => ⟨grown_trans HG.out hX, keep0 HOW.out hX, HIO.out.kept hX⟩
                  go_wp2_with fail
                  go_quiet (fail)
                  have HZ1 : Hid (wr.grownBy (wr.drewN nq) none) := grown_drewN _ _
                  generalize wr.drewN nq = Z1 at *
                  have hgz := HZ1.out
                  have o0' := hgz.cell o0 (by simp)
                  have o1' := hgz.cell o1 (by simp)
                  have l0' := hgz.cell l0 (by simp)
                  have l1' := hgz.cell l1 (by simp)
                  clear hgz o0 o1 l0 l1
                  go_wp2_with fail
                  go_quiet (fail)
                  go_wp2_with fail
                  go_roundg (N - (i + 1))
                  case measure => have := HGI.out; omega
                  case rel => exact ⟨i + 1, q, _, c, O, by omega, rfl, rfl, by go_num, HQ.out, by omega, ⟨HO.out.1, HEM.out⟩, (HALL.out _ (grown_trans HZ1.out (grown_drewN _ _))).2.1, (HALL.out _ (grown_trans HZ1.out (grown_drewN _ _))).1⟩
                | false =>
                  have HNE : Hid (¬ (k < O.length ∧ O.getD k (0, 0) = (xp, xd))) := fun h => absurd (HBB.out.2 h.2) (by decide)
                  clear HBB
                  have HALL : Hid (∀ X, wr.grownBy X none → w.grownBy X none ∧ X.ownsRow w.heap.size 55 2 (.slice (some ⟨ob, 0, none⟩) q c) q (itsV O) ∧ ItsAt X (some ⟨ob, 0, none⟩) O) := fun X hX => ⟨grown_trans HG.out hX, keep0 HOW.out hX, HIO.out.kept hX⟩
                  go_wp2_with fail
                  go_quiet (fail)
                  have HZ1 : Hid (wr.grownBy (wr.drewN nq) none) := grown_drewN _ _
                  generalize wr.drewN nq = Z1 at *
                  have hgz := HZ1.out
                  have o0' := hgz.cell o0 (by simp)
                  have o1' := hgz.cell o1 (by simp)
                  have l0' := hgz.cell l0 (by simp)
                  have l1' := hgz.cell l1 (by simp)
                  clear hgz o0 o1 l0 l1
                  go_wp2_with fail
                  go_quiet (fail)
                  have HZ2 : Hid (Z1.grownBy (Z1.drewN nq) none) := grown_drewN _ _
                  generalize Z1.drewN nq = W6 at *
                  have HZW : Hid (wr.grownBy W6 none) := grown_trans HZ1.out HZ2.out
                  have HLC : Hid (∀ X, W6.grownBy X none → X.cell? ⟨lb, lo + i * 2, none⟩ = some (.int .i64 xp) ∧ X.cell? ⟨lb, lo + i * 2 + 1, none⟩ = some (.int .i64 xd)) := fun X hX => HLC0.out X (grown_trans HG.out (grown_trans HZW.out hX))
                  have HG6 : Hid (w.grownBy W6 none) := (HALL.out _ HZW.out).1
                  have HOW6 : Hid (W6.ownsRow w.heap.size 55 2 (.slice (some ⟨ob, 0, none⟩) q c) q (itsV O)) := (HALL.out _ HZW.out).2.1
                  have HIO6 : Hid (ItsAt W6 (some ⟨ob, 0, none⟩) O) := (HALL.out _ HZW.out).2.2
                  clear HG HOW HIO
                  have HNX : Hid (Asc (O.take k ++ [(xp, xd)] ++ O.drop k) ∧ (∀ y, y ∈ O.take k ++ [(xp, xd)] ++ O.drop k ↔ ∃ j, j < i + 1 ∧ l.getD j (0, 0) = y) ∧ (O.take k ++ [(xp, xd)] ++ O.drop k).length = q + 1) := by
                    obtain ⟨n1, n2⟩ := spot_new HSP.out HO.out.1 HNE.out
                    refine ⟨n1, fun y => ?_, ?_⟩
                    · rw [n2, HO.out.2]
                      constructor
                      · rintro (e | ⟨j, h1, h2⟩)
                        · exact ⟨i, by omega, by rw [e]; exact HX.out.symm⟩
                        · exact ⟨j, by omega, h2⟩
                      · rintro ⟨j, h1, h2⟩
                        by_cases e : j = i
                        · left; rw [← h2, e]; exact HX.out.symm
                        · right; exact ⟨j, by omega, h2⟩
                    · rw [List.length_append, List.length_append, List.length_take, List.length_drop, HQ.out]
                      have := HSP.out.le
                      simp only [List.length_cons, List.length_nil]
                      omega
                  have HKQ : Hid (k ≤ q) := by rw [HQ.out]; exact HSP.out.le
                  have HNIL : Hid ((some (⟨ob, 0, none⟩ : Addr)) = none → k = 0 ∧ c = 0) := fun h => by have h1 := (owns_bounds HOW6.out).2 h; have h2 := HKQ.out; omega
                  have HTL : Hid ((itsV (O.take k)).length = k * 2) := by show _ = _; rw [itsV_length, List.length_take]; have := HKQ.out; have := HQ.out; omega
                  have HSR1 : Hid (∀ ad, (some (⟨ob, 0, none⟩ : Addr)) = some ad → ∀ j u, (itsV (O.take k))[j]? = some u → W6.cell? (ad.add j) = some u) := fun ad e j u hu => its_cells HIO6.out ad e j u (by
                    have h1 : j < k * 2 := by have := (List.getElem?_eq_some_iff.1 hu).1; rwa [HTL.out] at this
                    have h2 : itsV O = itsV (O.take k) ++ itsV (O.drop k) := by rw [← itsV_append, List.take_append_drop]
                    rw [h2, List.getElem?_append_left (by rw [HTL.out]; exact h1)]
                    exact hu)
                  have HW6 : Hid (w.heap.size ≤ W6.heap.size) := HG6.out.size
                  have hkq := HKQ.out
                  have hqc : q ≤ c := (owns_bounds HOW6.out).1
                  have hkq2 : (k : Int) ≤ (q : Int) := by omega
                  have hkc2 : (k : Int) ≤ (c : Int) := by omega
                  have hkc0 : (0 : Int) ≤ (k : Int) := by omega
                  have HTD : Hid ((itsV (O.take k) ++ [.int .i64 xp, .int .i64 xd]) ++ itsV (O.drop k) = itsV (O.take k ++ [(xp, xd)] ++ O.drop k)) := by show _ = _; rw [itsV_append, itsV_append]; rfl
                  have HLN : Hid (k + 1 + (q - k) = q + 1) := by show _ = _; omega
                  have HDL : Hid ((itsV (O.drop k)).length = (q - k) * 2) := by show _ = _; rw [itsV_length, List.length_drop, HQ.out]
                  have HDR : Hid (∀ X, W6.grownBy X none → ∀ j u, (itsV (O.drop k))[j]? = some u → X.cell? ((⟨ob, k * 2, none⟩ : Addr).add j) = some u) := fun X hX j u hu => by
                    have h1 := its_cells (HIO6.out.kept hX) ⟨ob, 0, none⟩ rfl (k * 2 + j) u (by
                      have h2 : itsV O = itsV (O.take k) ++ itsV (O.drop k) := by rw [← itsV_append, List.take_append_drop]
                      rw [h2, List.getElem?_append_right (by rw [HTL.out]; omega), HTL.out, Nat.add_sub_cancel_left]
                      exact hu)
                    rw [Addr.add_mid] at h1 ⊢
                    rw [Nat.zero_add] at h1
                    exact h1
                  have hkc : k < c := by omega
                  have hkc3 : decide (k < c) = true := decide_eq_true hkc
                  have hkc4 : ¬ c = k := by omega
                  go_wp2_with (at_builtin; first | (refine wpList_append_srcW rfl (.tmp 73) (.tmp 76) 48 rfl W6.heap.size 55 i0 (.agg #[.int .i64 0, .int .i64 0]) 2 16 Try.underlying48 hi0 hz0 hz1 hz2 rfl (by decide) (.slice none 0 0) 0 [] rfl (World.ownsRow_nil _ _ _ _) (some ⟨ob, 0, none⟩) k c (itsV (O.take k)) rfl HNIL.out HTL.out HSR1.out (itsV_one _) (by unfold maxLen; omega) (by omega) (Nat.le_refl _) ?_; intro v6 wA hoA hgA; rw [Nat.zero_add, List.nil_append] at hoA; obtain ⟨a6, c6, rfl⟩ := owns_slice hoA; have HOB0 : Hid ((wA.alloc (.cells #[.int .i64 xp, .int .i64 xd] 55)).ownsRow W6.heap.size 55 2 (.slice a6 k c6) k (itsV (O.take k))) := hoA.alloc _; have HNW : Hid (∀ j z, [Value.int .i64 xp, Value.int .i64 xd][j]? = some z → (wA.alloc (.cells #[.int .i64 xp, .int .i64 xd] 55)).cell? ((⟨wA.heap.size, 0, none⟩ : Addr).add j) = some z) := news_new wA _ _; have HG6A : Hid (W6.grownBy (wA.alloc (.cells #[.int .i64 xp, .int .i64 xd] 55)) none) := grown_trans hgA (World.grownBy_alloc _ _ none); have l0 := (HLC.out wA hgA).1; have l1 := (HLC.out wA hgA).2; clear hoA hgA) | (refine wpList_append_srcW rfl (.tmp 78) (.tmp 83) 48 rfl W6.heap.size 55 i0 (.agg #[.int .i64 0, .int .i64 0]) 2 16 Try.underlying48 hi0 hz0 hz1 hz2 rfl (by decide) (.slice a6 k c6) k (itsV (O.take k)) rfl HOB0.out (some ⟨wA.heap.size, 0, none⟩) 1 1 [.int .i64 xp, .int .i64 xd] rfl (fun h => by cases h) rfl (fun ad e => by cases e; exact HNW.out) (by simp [Value.oneCell']) (by unfold maxLen; omega) (by omega) HG6A.out.size ?_; intro v7 wB hoB hgB; have HOB : Hid (wB.ownsRow W6.heap.size 55 2 v7 (k + 1) (itsV (O.take k) ++ [.int .i64 xp, .int .i64 xd])) := hoB; have HGB : Hid (W6.grownBy wB none) := grown_row HG6A.out HOB0.out (Nat.le_refl _) hgB; obtain ⟨a7, c7, rfl⟩ := owns_slice hoB; clear hoB hgB) | (refine wpList_append_srcW rfl (.tmp 85) (.tmp 88) 48 rfl W6.heap.size 55 i0 (.agg #[.int .i64 0, .int .i64 0]) 2 16 Try.underlying48 hi0 hz0 hz1 hz2 rfl (by decide) (.slice a7 (k + 1) c7) (k + 1) (itsV (O.take k) ++ [.int .i64 xp, .int .i64 xd]) rfl HOB.out (some ⟨ob, k * 2, none⟩) (q - k) (c - k) (itsV (O.drop k)) rfl (fun h => by cases h) HDL.out (fun ad e => by cases e; exact HDR.out _ HGB.out) (itsV_one _) (by unfold maxLen; omega) (by omega) HGB.out.size ?_; intro v8 wC hoC hgC; rw [HLN.out, HTD.out] at hoC; have HOC := show Hid _ from owns_lowJ hoC HW6.out; have HGC : Hid (W6.grownBy wC none) := grown_row HGB.out HOB.out (Nat.le_refl _) hgC; obtain ⟨a9, c9, rfl⟩ := owns_slice hoC; clear hoC hgC) | fail)
                  go_roundg (N - (i + 1))
                  case measure => have := HGI.out; omega
                  case rel => exact ⟨i + 1, q + 1, a9, c9, O.take k ++ [(xp, xd)] ++ O.drop k, by omega, rfl, rfl, by go_num, HNX.out.2.2.symm, by omega, ⟨HNX.out.1, HNX.out.2.1⟩, HOC.out, grown_trans HG6.out HGC.out⟩
        · have hkn : q = k := by omega
          subst hkn
          have hkd : decide (q < q) = false := decide_eq_false (by omega)
          have HSP : Hid (Spot (xp, xd) O q) := ⟨by rw [← HQ.out]; exact Nat.le_refl _, HLT.out, fun h => absurd h (by rw [← HQ.out]; omega)⟩
          have HNE : Hid (¬ (q < O.length ∧ O.getD q (0, 0) = (xp, xd))) := fun h => by have := h.1; rw [← HQ.out] at this; omega
          have HALL : Hid (∀ X, wr.grownBy X none → w.grownBy X none ∧ X.ownsRow w.heap.size 55 2 (.slice a q c) q (itsV O) ∧ ItsAt X a O) := fun X hX => ⟨grown_trans HG.out hX, keep0 HOW.out hX, HIO.out.kept hX⟩
          go_wp2_with fail
          go_quiet (fail)
          have HZ1 : Hid (wr.grownBy (wr.drewN nq) none) := grown_drewN _ _
          generalize wr.drewN nq = Z1 at *
          go_wp2_with fail
          go_quiet (fail)
          have HZ2 : Hid (Z1.grownBy (Z1.drewN nq) none) := grown_drewN _ _
          generalize Z1.drewN nq = W6 at *
          have HZW : Hid (wr.grownBy W6 none) := grown_trans HZ1.out HZ2.out
          have HLC : Hid (∀ X, W6.grownBy X none → X.cell? ⟨lb, lo + i * 2, none⟩ = some (.int .i64 xp) ∧ X.cell? ⟨lb, lo + i * 2 + 1, none⟩ = some (.int .i64 xd)) := fun X hX => HLC0.out X (grown_trans HG.out (grown_trans HZW.out hX))
          have HG6 : Hid (w.grownBy W6 none) := (HALL.out _ HZW.out).1
          have HOW6 : Hid (W6.ownsRow w.heap.size 55 2 (.slice a q c) q (itsV O)) := (HALL.out _ HZW.out).2.1
          have HIO6 : Hid (ItsAt W6 a O) := (HALL.out _ HZW.out).2.2
          clear HG HOW HIO
          have HNX : Hid (Asc (O.take q ++ [(xp, xd)] ++ O.drop q) ∧ (∀ y, y ∈ O.take q ++ [(xp, xd)] ++ O.drop q ↔ ∃ j, j < i + 1 ∧ l.getD j (0, 0) = y) ∧ (O.take q ++ [(xp, xd)] ++ O.drop q).length = q + 1) := by
            obtain ⟨n1, n2⟩ := spot_new HSP.out HO.out.1 HNE.out
            refine ⟨n1, fun y => ?_, ?_⟩
            · rw [n2, HO.out.2]
              constructor
              · rintro (e | ⟨j, h1, h2⟩)
                · exact ⟨i, by omega, by rw [e]; exact HX.out.symm⟩
                · exact ⟨j, by omega, h2⟩
              · rintro ⟨j, h1, h2⟩
                by_cases e : j = i
                · left; rw [← h2, e]; exact HX.out.symm
                · right; exact ⟨j, by omega, h2⟩
            · rw [List.length_append, List.length_append, List.length_take, List.length_drop, HQ.out]
              have := HSP.out.le
              simp only [List.length_cons, List.length_nil]
              omega
          have HKQ : Hid (q ≤ q) := Nat.le_refl _
          have HNIL : Hid (a = none → q = 0 ∧ c = 0) := fun h => by have h1 := (owns_bounds HOW6.out).2 h; have h2 := HKQ.out; omega
          have HTL : Hid ((itsV (O.take q)).length = q * 2) := by show _ = _; rw [itsV_length, List.length_take]; have := HKQ.out; have := HQ.out; omega
          have HSR1 : Hid (∀ ad, a = some ad → ∀ j u, (itsV (O.take q))[j]? = some u → W6.cell? (ad.add j) = some u) := fun ad e j u hu => its_cells HIO6.out ad e j u (by
            have h1 : j < q * 2 := by have := (List.getElem?_eq_some_iff.1 hu).1; rwa [HTL.out] at this
            have h2 : itsV O = itsV (O.take q) ++ itsV (O.drop q) := by rw [← itsV_append, List.take_append_drop]
            rw [h2, List.getElem?_append_left (by rw [HTL.out]; exact h1)]
            exact hu)
          have HW6 : Hid (w.heap.size ≤ W6.heap.size) := HG6.out.size
          have hkq := HKQ.out
          have hqc : q ≤ c := (owns_bounds HOW6.out).1
          have hkq2 : (q : Int) ≤ (q : Int) := by omega
          have hkc2 : (q : Int) ≤ (c : Int) := by omega
          have hkc0 : (0 : Int) ≤ (q : Int) := by omega
          have HTD : Hid (itsV (O.take q) ++ [.int .i64 xp, .int .i64 xd] = itsV (O.take q ++ [(xp, xd)] ++ O.drop q)) := by
            show _ = _
            rw [List.drop_eq_nil_of_le (by rw [← HQ.out]; exact Nat.le_refl _), List.append_nil, itsV_append]; rfl
          by_cases hcq : q = c
          · subst hcq
            go_wp2_with (at_builtin; first | (refine wpList_append_srcW rfl (.tmp 73) (.tmp 76) 48 rfl W6.heap.size 55 i0 (.agg #[.int .i64 0, .int .i64 0]) 2 16 Try.underlying48 hi0 hz0 hz1 hz2 rfl (by decide) (.slice none 0 0) 0 [] rfl (World.ownsRow_nil _ _ _ _) a q q (itsV (O.take q)) rfl HNIL.out HTL.out HSR1.out (itsV_one _) (by unfold maxLen; omega) (by omega) (Nat.le_refl _) ?_; intro v6 wA hoA hgA; rw [Nat.zero_add, List.nil_append] at hoA; obtain ⟨a6, c6, rfl⟩ := owns_slice hoA; have HOB0 : Hid ((wA.alloc (.cells #[.int .i64 xp, .int .i64 xd] 55)).ownsRow W6.heap.size 55 2 (.slice a6 q c6) q (itsV (O.take q))) := hoA.alloc _; have HNW : Hid (∀ j z, [Value.int .i64 xp, Value.int .i64 xd][j]? = some z → (wA.alloc (.cells #[.int .i64 xp, .int .i64 xd] 55)).cell? ((⟨wA.heap.size, 0, none⟩ : Addr).add j) = some z) := news_new wA _ _; have HG6A : Hid (W6.grownBy (wA.alloc (.cells #[.int .i64 xp, .int .i64 xd] 55)) none) := grown_trans hgA (World.grownBy_alloc _ _ none); have l0 := (HLC.out wA hgA).1; have l1 := (HLC.out wA hgA).2; clear hoA hgA) | (refine wpList_append_srcW rfl (.tmp 78) (.tmp 83) 48 rfl W6.heap.size 55 i0 (.agg #[.int .i64 0, .int .i64 0]) 2 16 Try.underlying48 hi0 hz0 hz1 hz2 rfl (by decide) (.slice a6 q c6) q (itsV (O.take q)) rfl HOB0.out (some ⟨wA.heap.size, 0, none⟩) 1 1 [.int .i64 xp, .int .i64 xd] rfl (fun h => by cases h) rfl (fun ad e => by cases e; exact HNW.out) (by simp [Value.oneCell']) (by unfold maxLen; omega) (by omega) HG6A.out.size ?_; intro v7 wB hoB hgB; have HOB : Hid (wB.ownsRow W6.heap.size 55 2 v7 (q + 1) (itsV (O.take q) ++ [.int .i64 xp, .int .i64 xd])) := hoB; have HGB : Hid (W6.grownBy wB none) := grown_row HG6A.out HOB0.out (Nat.le_refl _) hgB; obtain ⟨a7, c7, rfl⟩ := owns_slice hoB; clear hoB hgB) | (refine wpList_append_srcW rfl (.tmp 85) (.tmp 88) 48 rfl W6.heap.size 55 i0 (.agg #[.int .i64 0, .int .i64 0]) 2 16 Try.underlying48 hi0 hz0 hz1 hz2 rfl (by decide) (.slice a7 (q + 1) c7) (q + 1) (itsV (O.take q) ++ [.int .i64 xp, .int .i64 xd]) rfl HOB.out a 0 0 [] rfl (fun _ => ⟨rfl, rfl⟩) rfl (fun ad e j u hu => by simp at hu) (fun u hu => by cases hu) (by unfold maxLen; omega) (by omega) HGB.out.size ?_; intro v8 wC hoC hgC; rw [Nat.add_zero, List.append_nil, HTD.out] at hoC; have HOC := show Hid _ from owns_lowJ hoC HW6.out; have HGC : Hid (W6.grownBy wC none) := grown_row HGB.out HOB.out (Nat.le_refl _) hgC; obtain ⟨a9, c9, rfl⟩ := owns_slice hoC; clear hoC hgC) | fail)
            go_roundg (N - (i + 1))
            case measure => have := HGI.out; omega
            case rel => exact ⟨i + 1, q + 1, a9, c9, O.take q ++ [(xp, xd)] ++ O.drop q, by omega, rfl, rfl, by go_num, HNX.out.2.2.symm, by omega, ⟨HNX.out.1, HNX.out.2.1⟩, HOC.out, grown_trans HG6.out HGC.out⟩
          · obtain ⟨gg, rfl⟩ : ∃ gg, a = some ⟨gg, 0, none⟩ := by
              rcases HOW6.out.2 with ⟨h, h0⟩ | ⟨g, cap, cur, hv, _⟩
              · simp only [Value.slice.injEq] at h; exact absurd (by rw [h.2.2]; exact h0) hcq
              · simp only [Value.slice.injEq] at hv; exact ⟨g, hv.1⟩
            have hqc2 : q < c := by omega
            have hqc3 : decide (q < c) = true := decide_eq_true hqc2
            go_wp2_with (at_builtin; first | (refine wpList_append_srcW rfl (.tmp 73) (.tmp 76) 48 rfl W6.heap.size 55 i0 (.agg #[.int .i64 0, .int .i64 0]) 2 16 Try.underlying48 hi0 hz0 hz1 hz2 rfl (by decide) (.slice none 0 0) 0 [] rfl (World.ownsRow_nil _ _ _ _) (some ⟨gg, 0, none⟩) q c (itsV (O.take q)) rfl HNIL.out HTL.out HSR1.out (itsV_one _) (by unfold maxLen; omega) (by omega) (Nat.le_refl _) ?_; intro v6 wA hoA hgA; rw [Nat.zero_add, List.nil_append] at hoA; obtain ⟨a6, c6, rfl⟩ := owns_slice hoA; have HOB0 : Hid ((wA.alloc (.cells #[.int .i64 xp, .int .i64 xd] 55)).ownsRow W6.heap.size 55 2 (.slice a6 q c6) q (itsV (O.take q))) := hoA.alloc _; have HNW : Hid (∀ j z, [Value.int .i64 xp, Value.int .i64 xd][j]? = some z → (wA.alloc (.cells #[.int .i64 xp, .int .i64 xd] 55)).cell? ((⟨wA.heap.size, 0, none⟩ : Addr).add j) = some z) := news_new wA _ _; have HG6A : Hid (W6.grownBy (wA.alloc (.cells #[.int .i64 xp, .int .i64 xd] 55)) none) := grown_trans hgA (World.grownBy_alloc _ _ none); have l0 := (HLC.out wA hgA).1; have l1 := (HLC.out wA hgA).2; clear hoA hgA) | (refine wpList_append_srcW rfl (.tmp 78) (.tmp 83) 48 rfl W6.heap.size 55 i0 (.agg #[.int .i64 0, .int .i64 0]) 2 16 Try.underlying48 hi0 hz0 hz1 hz2 rfl (by decide) (.slice a6 q c6) q (itsV (O.take q)) rfl HOB0.out (some ⟨wA.heap.size, 0, none⟩) 1 1 [.int .i64 xp, .int .i64 xd] rfl (fun h => by cases h) rfl (fun ad e => by cases e; exact HNW.out) (by simp [Value.oneCell']) (by unfold maxLen; omega) (by omega) HG6A.out.size ?_; intro v7 wB hoB hgB; have HOB : Hid (wB.ownsRow W6.heap.size 55 2 v7 (q + 1) (itsV (O.take q) ++ [.int .i64 xp, .int .i64 xd])) := hoB; have HGB : Hid (W6.grownBy wB none) := grown_row HG6A.out HOB0.out (Nat.le_refl _) hgB; obtain ⟨a7, c7, rfl⟩ := owns_slice hoB; clear hoB hgB) | (refine wpList_append_srcW rfl (.tmp 85) (.tmp 88) 48 rfl W6.heap.size 55 i0 (.agg #[.int .i64 0, .int .i64 0]) 2 16 Try.underlying48 hi0 hz0 hz1 hz2 rfl (by decide) (.slice a7 (q + 1) c7) (q + 1) (itsV (O.take q) ++ [.int .i64 xp, .int .i64 xd]) rfl HOB.out _ _ _ [] rfl (fun h => by cases h) (by simp) (fun ad e j u hu => by simp at hu) (fun u hu => by cases hu) (by unfold maxLen; omega) (by omega) HGB.out.size ?_; intro v8 wC hoC hgC; rw [Nat.add_zero, List.append_nil, HTD.out] at hoC; have HOC := show Hid _ from owns_lowJ hoC HW6.out; have HGC : Hid (W6.grownBy wC none) := grown_row HGB.out HOB.out (Nat.le_refl _) hgC; obtain ⟨a9, c9, rfl⟩ := owns_slice hoC; clear hoC hgC) | fail)
            go_roundg (N - (i + 1))
            case measure => have := HGI.out; omega
            case rel => exact ⟨i + 1, q + 1, a9, c9, O.take q ++ [(xp, xd)] ++ O.drop q, by omega, rfl, rfl, by go_num, HNX.out.2.2.symm, by omega, ⟨HNX.out.1, HNX.out.2.1⟩, HOC.out, grown_trans HG6.out HGC.out⟩
    · have hin : N = i := by omega
      subst hin
      have hid : decide (N < N) = false := decide_eq_false (by omega)
      go_wp2_with fail
      go_ret
      refine ⟨O, HO.out.1, fun x => ?_, by rw [← HQ.out, ← HN.out]; exact hqi, a, c, by rw [← HQ.out]; rfl, by rw [← HQ.out]; exact HOW0.out, HG0.out⟩
      rw [HO.out.2]
      constructor
      · rintro ⟨j, h1, rfl⟩
        rw [List.getD_eq_getElem?_getD, List.getElem?_eq_getElem (by rw [← HN.out]; exact h1)]; exact List.getElem_mem _
      · intro hx
        obtain ⟨j, hj, e⟩ := List.getElem_of_mem hx
        exact ⟨j, by rw [HN.out]; exact hj, by rw [List.getD_eq_getElem?_getD, List.getElem?_eq_getElem hj, e]; rfl⟩

end Go.Proofs.Ytfllgmbnljfboaa.J

/-
  lr0: the document's isItem, After, has; its closures, pure.
-/
namespace Go.Proofs.Ytfllgmbnljfboaa.J
open Go.RowKit Go.Maps Go.Shelf

attribute [local go_sem] Oper.semAt_some

section
variable (ta na la pa : Option Addr) (tc nc lc pc : Nat) (ts : List (ByteArray × Int)) (ns : List ByteArray) (lv : List Int) (n : Nat) (L : Nat → Int) (R : Nat → List Int) (ra : Nat → Option Addr) (rc : Nat → Nat) (V : Nat → Int) (st : Int) (w : World) (tn nn ln : Nat)

set_option maxRecDepth 100000 in
set_option maxHeartbeats 1000000 in
theorem rafter_any (hP : ProdsAt w pa n L R ra rc V) (x : It) (hx : itB n R x = true) : Calls Try.prog 52 #[.agg #[.slice ta tn tc, .slice na nn nc, .slice la ln lc, .int .i64 st, .slice pa n pc], .agg #[.int .i64 x.1, .int .i64 x.2]] w fun e y => e = .returned (.int .i64 (aheadV R x)) ∧ w.grownBy y none := by
  obtain ⟨p, d⟩ := x
  simp only
  have HG0 : Hid (w.grownBy ((w.alloc (.cells #[.slice ta tn tc, .slice na nn nc, .slice la ln lc, .int .i64 st, .slice pa n pc] 27)).alloc (.cells #[.int .i64 p, .int .i64 d] 55)) none) := grown_trans (World.grownBy_alloc _ _ none) (World.grownBy_alloc _ _ none)
  unfold itB at hx
  simp only [Bool.and_eq_true, decide_eq_true_eq] at hx
  obtain ⟨⟨⟨h0, h1⟩, h2⟩, h3⟩ := hx
  obtain ⟨k, rfl⟩ : ∃ k : Nat, p = (k : Int) := ⟨p.toNat, by omega⟩
  obtain ⟨j, rfl⟩ : ∃ j : Nat, d = (j : Int) := ⟨d.toNat, by omega⟩
  rw [Int.toNat_natCast] at h3
  have hkn : k < n := by omega
  obtain ⟨bp, op, rfl, hp, hI, hrb⟩ : ∃ bp op, pa = some ⟨bp, op, none⟩ ∧ w.cell? ⟨bp, op + k * 3 + 1, none⟩ = some (.slice (ra k) (R k).length (rc k)) ∧ IntsAt w (ra k) (R k) ∧ (R k).length ≤ 17592186044416 := by
    rcases hP with h | ⟨bp, op, e, h⟩
    · omega
    · exact ⟨bp, op, e, (h k hkn).2.1, (h k hkn).2.2.2.1, (h k hkn).2.2.2.2.2⟩
  have hk0 : (0 : Int) ≤ (k : Int) := by omega
  have hk1 : (k : Int) < (n : Int) := by omega
  obtain ⟨rl, hrl⟩ : ∃ r, r = (R k).length := ⟨_, rfl⟩
  rw [← hrl] at hp hrb h3
  have p1 : ((w.alloc (.cells #[.slice ta tn tc, .slice na nn nc, .slice la ln lc, .int .i64 st, .slice (some ⟨bp, op, none⟩) n pc] 27)).alloc (.cells #[.int .i64 (k : Int), .int .i64 (j : Int)] 55)).cell? ⟨bp, op + k * 3 + 1, none⟩ = some (.slice (ra k) rl (rc k)) := HG0.out.cell hp (by simp)
  by_cases he : j = rl
  · have hd : ((j : Int) == (rl : Int)) = true := beq_iff_eq.2 (by omega)
    have hd2 : (j == rl) = true := beq_iff_eq.2 he
    have HR : Hid (aheadV R ((k : Int), (j : Int)) = -1) := by
      show _ = _
      unfold aheadV
      rw [if_pos (by simp only [Int.toNat_natCast]; rw [← hrl]; omega)]
    clear hP hp hI hrl he h3
    go_enter Try.func52, Try.ntmps52
    go_wp2_with fail
    go_ret
    exact ⟨by rw [HR.out]; rfl, HG0.out⟩
  · have hjl : j < rl := by omega
    have hd : ((j : Int) == (rl : Int)) = false := beq_eq_false_iff_ne.2 (by omega)
    have hd2 : (j == rl) = false := beq_eq_false_iff_ne.2 he
    have hj0 : (0 : Int) ≤ (j : Int) := by omega
    have hj1 : (j : Int) < (rl : Int) := by omega
    obtain ⟨rb, ro, hrk, hc⟩ : ∃ rb ro, ra k = some ⟨rb, ro, none⟩ ∧ w.cell? ⟨rb, ro + j, none⟩ = some (.int .i64 ((R k).getD j 0)) := by
      rcases hI with h | ⟨b, off, e, h⟩
      · rw [hrl, h] at hjl; cases hjl
      · exact ⟨b, off, e, h j (by rw [← hrl]; exact hjl)⟩
    rw [hrk] at p1
    have c1 : ((w.alloc (.cells #[.slice ta tn tc, .slice na nn nc, .slice la ln lc, .int .i64 st, .slice (some ⟨bp, op, none⟩) n pc] 27)).alloc (.cells #[.int .i64 (k : Int), .int .i64 (j : Int)] 55)).cell? ⟨rb, ro + j, none⟩ = some (.int .i64 ((R k).getD j 0)) := HG0.out.cell hc (by simp)
    have HR : Hid (aheadV R ((k : Int), (j : Int)) = (R k).getD j 0) := by
      show _ = _
      unfold aheadV
      rw [if_neg (by simp only [Int.toNat_natCast]; rw [← hrl]; omega)]
      simp only [Int.toNat_natCast]
    obtain ⟨z, hz⟩ : ∃ z, z = (R k).getD j 0 := ⟨_, rfl⟩
    rw [← hz] at c1 HR
    clear hP hp hI hrl he hc hz hrk h3
    go_enter Try.func52, Try.ntmps52
    go_wp2_with fail
    go_ret
    exact ⟨by rw [HR.out]; rfl, HG0.out⟩
end

set_option maxRecDepth 100000 in
theorem rhas_any (a : Option Addr) (c : Nat) (l : List It) (x : It) (w : World) (hl : ItsAt w a l) (hb : l.length ≤ 1099511627776000) (r : Bool) (hr : r = true ↔ x ∈ l) :
    Calls Try.prog 53 #[.slice a l.length c, .agg #[.int .i64 x.1, .int .i64 x.2]] w fun e y => e = .returned (.bool r) ∧ w.grownBy y none := by
  obtain ⟨xp, xd⟩ := x
  simp only
  obtain ⟨n1, hn1⟩ : ∃ n, n = l.length := ⟨_, rfl⟩
  have HR : Hid (r = true ↔ (xp, xd) ∈ l) := hr
  have HN : Hid (n1 = l.length) := hn1
  have HI : Hid (∀ X, w.grownBy X none → ItsAt X a l) := fun X hX => hl.kept hX
  have HX0 : Hid (w.grownBy (w.alloc (.cells #[.int .i64 xp, .int .i64 xd] 55)) none) := World.grownBy_alloc _ _ none
  have HB0 : Hid ((w.alloc (.cells #[.int .i64 xp, .int .i64 xd] 55)).heap[w.heap.size]? = some (.cells #[.int .i64 xp, .int .i64 xd] 55 (0, 0))) := heap_alloc_last w _
  rw [← hn1] at hb
  rw [← hn1]
  have hgu := guard_item
  clear hr hn1 hl
  go_enter Try.func53, Try.ntmps53
  go_wp2_with fail
  go_loopg [5] n1 (fun gk v5 wr => ∃ j : Nat, j ≤ n1 ∧ gk = n1 - j ∧ v5 = .int .i64 j ∧ w.grownBy wr none ∧ wr.heap[w.heap.size]? = some (.cells #[.int .i64 xp, .int .i64 xd] 55 (0, 0)) ∧ ∀ i, i < j → l.getD i (0, 0) ≠ (xp, xd))
  case atStart => exact ⟨0, Nat.zero_le _, rfl, rfl, HX0.out, HB0.out, fun i hi => absurd hi (Nat.not_lt_zero _)⟩
  case round =>
    obtain ⟨j, hj, hgj, rfl, hg, hbx, hs⟩ := hrel
    have HGJ : Hid (gk = n1 - j) := hgj
    have HG : Hid (w.grownBy wr none) := hg
    have HBX : Hid (wr.heap[w.heap.size]? = some (.cells #[.int .i64 xp, .int .i64 xd] 55 (0, 0))) := hbx
    have HS : Hid (∀ i, i < j → l.getD i (0, 0) ≠ (xp, xd)) := hs
    clear hgj hg hs hbx HX0 HB0
    have z0 : wr.cell? ⟨w.heap.size, 0, none⟩ = some (.int .i64 xp) := by rw [cell_of_row _ _ _ _ _ _ HBX.out]; rfl
    have z1 : wr.cell? ⟨w.heap.size, 1, none⟩ = some (.int .i64 xd) := by rw [cell_of_row _ _ _ _ _ _ HBX.out]; rfl
    by_cases hlt : j < n1
    · have hj0 : (0 : Int) ≤ (j : Int) := by omega
      have hj1 : (j : Int) < (n1 : Int) := by omega
      have hjd : decide (j < n1) = true := decide_eq_true hlt
      have hjl : j < l.length := by rw [← HN.out]; exact hlt
      obtain ⟨b1, o1, rfl, c0, c1'⟩ := (HI.out wr HG.out).at hjl
      have HME : Hid (l.getD j (0, 0) ∈ l) := by show _ ∈ _; rw [List.getD_eq_getElem?_getD, List.getElem?_eq_getElem hjl]; exact List.getElem_mem hjl
      obtain ⟨y, hy⟩ : ∃ y, y = l.getD j (0, 0) := ⟨_, rfl⟩
      have HY : Hid (y = l.getD j (0, 0)) := hy
      rw [← hy] at c0 c1'
      clear hy hjl
      obtain ⟨yp, yd⟩ := y
      simp only at c0 c1'
      obtain ⟨bb, hbb⟩ : ∃ b, b = (yp == xp && yd == xd) := ⟨_, rfl⟩
      have HBB : Hid (bb = true ↔ l.getD j (0, 0) = (xp, xd)) := by
        rw [← HY.out, hbb, Bool.and_eq_true, beq_iff_eq, beq_iff_eq]
        exact ⟨fun h => Prod.ext h.1 h.2, fun h => ⟨congrArg Prod.fst h, congrArg Prod.snd h⟩⟩
      have hE : ∀ X : World, (binOp .eql 55 (.agg #[.int .i64 yp, .int .i64 yd]) (.agg #[.int .i64 xp, .int .i64 xd])).run Try.prog X = .ok (.bool bb) X := fun X => by rw [hbb]; exact eq_item yp yd xp xd X
      clear hbb
      cases bb with
      | true =>
        have HRT : Hid (r = true) := HR.out.2 (by rw [← HBB.out.1 rfl]; exact HME.out)
        clear HBB
        go_wp2_with fail
        go_quiet (fail)
        go_wp2_with fail
        go_ret
        exact ⟨by rw [HRT.out]; rfl, grown_trans HG.out (grown_drewN _ _)⟩
      | false =>
        have HNE : Hid (l.getD j (0, 0) ≠ (xp, xd)) := fun h => absurd (HBB.out.2 h) (by decide)
        clear HBB
        go_wp2_with fail
        go_quiet (fail)
        go_wp2_with fail
        go_roundg (n1 - (j + 1))
        case measure => have := HGJ.out; omega
        case rel => exact ⟨j + 1, by omega, rfl, by go_num, grown_trans HG.out (grown_drewN _ _), HBX.out, fun i hi => by
          by_cases e : i = j
          · rw [e]; exact HNE.out
          · exact HS.out i (by omega)⟩
    · have hjn : n1 = j := by omega
      subst hjn
      have hjd : decide (n1 < n1) = false := decide_eq_false (by omega)
      have HRF : Hid (r = false) := by
        show _ = _
        cases hrr : r with
        | false => rfl
        | true =>
          obtain ⟨i, hi, e⟩ := List.getElem_of_mem (HR.out.1 hrr)
          exact absurd (by rw [List.getD_eq_getElem?_getD, List.getElem?_eq_getElem hi, e]; rfl) (HS.out i (by rw [HN.out]; exact hi))
      go_wp2_with fail
      go_ret
      exact ⟨by rw [HRF.out]; rfl, HG.out⟩

section
variable {tn n : Nat} {L : Nat → Int} {R : Nat → List Int} {I : List It}
theorem CwP.start' {A : List It} (h : ∀ x, x ∈ A ↔ x ∈ I) : CwP tn n L R I A (fun _ => false) 0 := ⟨fun x hx => Clo.base ((h x).1 hx), fun x hx => (h x).2 hx, fun _ h => (by simp at h), fun _ h => absurd h (Nat.not_lt_zero _)⟩
theorem CwP.bring' {A M : List It} {b b' : Nat → Bool} {i s : Nat} (h : CwP tn n L R I A b i) (hi : i < A.length) (hs : aheadV R (A.getD i (0, 0)) = (s : Int)) (ht : tn ≤ s) (hb : ∀ j, b' j = true ↔ j = s ∨ b j = true) (hM : ∀ x ∈ M, ∃ k : Nat, k < n ∧ L k = (s : Int) ∧ x = ((k : Int), (0 : Int))) (hall : ∀ k : Nat, k < n → L k = (s : Int) → ((k : Int), (0 : Int)) ∈ A ++ M) : CwP tn n L R I (A ++ M) b' (i + 1) := by
  have hA : A.getD i (0, 0) ∈ A := by rw [List.getD_eq_getElem?_getD, List.getElem?_eq_getElem hi]; exact List.getElem_mem hi
  refine ⟨fun x hx => ?_, fun x hx => List.mem_append_left _ (h.all x hx), fun s' hs' k hk hl => ?_, fun j hj hl hta => ?_⟩
  · rcases List.mem_append.1 hx with hx | hx
    · exact h.mem x hx
    · obtain ⟨k, hk, hl, rfl⟩ := hM x hx
      exact (h.mem _ hA).step (by rw [hs]; omega) hk (by rw [hs]; exact hl)
  · rcases (hb s').1 hs' with e | e
    · subst e; exact hall k hk hl
    · exact List.mem_append_left _ (h.brt s' e k hk hl)
  · have hjA : j < A.length := by omega
    have e : (A ++ M).getD j (0, 0) = A.getD j (0, 0) := by
      rw [List.getD_eq_getElem?_getD, List.getElem?_append_left hjA, ← List.getD_eq_getElem?_getD]
    rw [e] at hta ⊢
    rw [hb]
    by_cases e2 : j = i
    · subst e2; left; rw [hs]; simp
    · right; exact h.done j (by omega) hjA hta
end

end Go.Proofs.Ytfllgmbnljfboaa.J

/-
  lr0: the document's Closed.
-/
namespace Go.Proofs.Ytfllgmbnljfboaa.J
open Go.RowKit Go.Maps Go.Shelf

attribute [local go_sem] Oper.semAt_some

set_option maxRecDepth 100000 in
set_option maxHeartbeats 4000000 in
theorem rclos_any (ta na la pa : Option Addr) (tc nc lc pc : Nat) (n : Nat) (L : Nat → Int) (R : Nat → List Int) (ra : Nat → Option Addr) (rc : Nat → Nat) (V : Nat → Int) (st : Int) (w : World) (tn nn ln : Nat) (hP : ProdsAt w pa n L R ra rc V) (hn : n ≤ 97) (hn0 : 0 < n) (htn : tn ≤ 65) (hnn : nn ≤ 65) (hR : ∀ k, k < n → ∀ x ∈ R k, (0 : Int) ≤ x ∧ x < ((tn + nn : Nat) : Int)) (a : Option Addr) (cap : Nat) (I : List It) (hI : ItsAt w a I) (hIb : I.length ≤ 8796093022208) (hit : ∀ x ∈ I, itB n R x = true) :
    Calls Try.prog 35 #[.agg #[.slice ta tn tc, .slice na nn nc, .slice la ln lc, .int .i64 st, .slice pa n pc], .slice a I.length cap] w fun e y => CloTold tn n L R I w e y := by
  obtain ⟨S, hS⟩ : ∃ S, S = tn + nn := ⟨_, rfl⟩
  have HSE : Hid (S = tn + nn) := hS
  have hSz : S ≤ 130 := by omega
  have HSY : Hid (∀ X, Calls Try.prog 24 #[.agg #[.slice ta tn tc, .slice na nn nc, .slice la ln lc, .int .i64 st, .slice pa n pc]] X fun e y => e = .returned (.int .i64 (S : Int)) ∧ X.grownBy y none) := fun X => by
    refine (Go.Proofs.Ytfllgmbnljfboaa.symbols_any ta na la pa tn nn ln n tc nc lc pc st X (by omega) (by omega)).mono ?_
    rintro e y ⟨rfl, hg⟩
    exact ⟨by rw [hS, Int.natCast_add], hg⟩
  have HAH : Hid (∀ X x, w.grownBy X none → itB n R x = true → Calls Try.prog 52 #[.agg #[.slice ta tn tc, .slice na nn nc, .slice la ln lc, .int .i64 st, .slice pa n pc], .agg #[.int .i64 x.1, .int .i64 x.2]] X fun e y => e = .returned (.int .i64 (aheadV R x)) ∧ X.grownBy y none) := fun X x hX hx => rafter_any ta na la pa tc nc lc pc n L R ra rc V st X tn nn ln (prods_kept hP hX) x hx
  have HAR : Hid (∀ x, itB n R x = true → aheadV R x = -1 ∨ ((0 : Int) ≤ aheadV R x ∧ aheadV R x < (S : Int))) := fun x hx => aheadV_range (by rw [hS]; exact hR) hx
  have HIT : Hid (∀ x ∈ I, itB n R x = true) := hit
  obtain ⟨bp, op, rfl, hp⟩ : ∃ bp op, pa = some ⟨bp, op, none⟩ ∧ ∀ k, k < n → w.cell? ⟨bp, op + k * 3, none⟩ = some (.int .i64 (L k)) := by
    rcases hP with h | ⟨bp, op, e, h⟩
    · omega
    · exact ⟨bp, op, e, fun k hk => (h k hk).1⟩
  have HPC : Hid (∀ k, k < n → ∀ X, w.grownBy X none → X.cell? ⟨bp, op + k * 3, none⟩ = some (.int .i64 (L k))) := fun k hk X hX => hX.cell (hp k hk) (by simp)
  obtain ⟨ll, hle⟩ : ∃ m, m = I.length := ⟨_, rfl⟩
  have HLE : Hid (ll = I.length) := hle
  have HLA : Hid (∀ X, w.grownBy X none → Calls Try.prog 51 #[.slice a ll cap] X fun e y => LaidTold I X e y) := fun X hX => by rw [hle]; exact laid_any a cap I X (hI.kept hX) (by omega)
  rw [← hle] at hIb
  rw [← hle]
  have HX0 : Hid (PhAt w (w.alloc (.cells #[.slice ta tn tc, .slice na nn nc, .slice la ln lc, .int .i64 st, .slice (some ⟨bp, op, none⟩) n pc] 27)) w.heap.size #[.slice ta tn tc, .slice na nn nc, .slice la ln lc, .int .i64 st, .slice (some ⟨bp, op, none⟩) n pc]) := ⟨World.grownBy_alloc _ _ none, heap_alloc_last w _⟩
  obtain ⟨i0, hi0, hz0, hz1, hz2⟩ := info_parts infoItem
  obtain ⟨i1, hi1, hy0, hy1, hy2⟩ := info_parts infoBool
  clear hP hR hI hit hle hS hp
  go_enter Try.func35, Try.ntmps35
  go_wp2_with fail
  refine Calls.mono (HLA.out _ HX0.out.grown) ?_
  rintro e w1 ⟨A0, hA1, hA2, hA3, a5, c5, rfl, ho1, hg1⟩
  have HA0 : Hid (∀ x, x ∈ A0 ↔ x ∈ I) := hA2
  obtain ⟨q0, hq0⟩ : ∃ q, q = A0.length := ⟨_, rfl⟩
  have HQ0 : Hid (q0 = A0.length ∧ q0 ≤ ll) := ⟨hq0, by rw [hq0, HLE.out]; exact hA3⟩
  rw [← hq0] at ho1
  rw [← hq0]
  have HX1 : Hid (PhAt w w1 w.heap.size #[.slice ta tn tc, .slice na nn nc, .slice la ln lc, .int .i64 st, .slice (some ⟨bp, op, none⟩) n pc]) := HX0.out.kept hg1
  have HO1 : Hid (w1.ownsRow w.heap.size 55 2 (.slice a5 q0 c5) q0 (itsV A0)) := owns_lowJ ho1 HX0.out.grown.size
  clear hA1 hA2 hA3 ho1 hg1 hq0 HX0
  obtain ⟨k0, k1, k2, k3, k4⟩ := HX1.out.cells
  go_wp2_with fail
  refine Calls.mono (HSY.out _) ?_
  rintro e w2 ⟨rfl, hg2⟩
  have HX2 : Hid (PhAt w w2 w.heap.size #[.slice ta tn tc, .slice na nn nc, .slice la ln lc, .int .i64 st, .slice (some ⟨bp, op, none⟩) n pc]) := HX1.out.kept hg2
  have HO2 : Hid (w2.ownsRow w.heap.size 55 2 (.slice a5 q0 c5) q0 (itsV A0)) := keep0 HO1.out hg2
  clear hg2 k0 k1 k2 k3 k4 HX1 HO1
  go_wp2_with (at_make; refine wpList_make_full _ rfl _ _ 66 rfl w2.heap.size 4 i1 (.bool false) 1 Try.underlying66 hi1 hy0 hy1 .i64 .i64 _ _ S rfl rfl (by simp) (by simp) (by rw [hy2]; omega) (by unfold maxLen; omega) (by simp) ?_)
  intro w3 hown hgrow
  have hval : ValAt w3 w2.heap.size S 4 (fun _ => .bool false) := made_rowK (B := w2.heap.size) rfl (by simpa [Value.cells] using hown)
  obtain ⟨mb, hmb⟩ : ∃ mb, mb = w2.heap.size := ⟨_, rfl⟩
  rw [← hmb] at hval
  rw [← hmb]
  have HC0 : Hid (ClAt w w3 #[.slice ta tn tc, .slice na nn nc, .slice la ln lc, .int .i64 st, .slice (some ⟨bp, op, none⟩) n pc] mb S (fun _ => false) a5 q0 c5 A0) := ⟨grown_trans HX2.out.grown hgrow, box_kept HX2.out.box hgrow, hval, by have := (Array.getElem?_eq_some_iff.1 HX2.out.box).1; omega, keep0 HO2.out hgrow⟩
  have HW0 : Hid (CwP tn n L R I A0 (fun _ => false) 0) := CwP.start' HA0.out
  have HU0 : Hid (q0 + unm S (fun _ => false) * 97 ≤ ll + 12610) := by have := unm_le S (fun _ => false); have := HQ0.out.2; show _ ≤ _; omega
  clear hown hgrow hval hmb HX2 HO2
  go_wp2_with fail
  go_loopg [5, 7] (unm S (fun _ => false) * 98 + q0) (fun gk v5 v7 wr => ∃ (i q c' : Nat) (a' : Option Addr) (b : Nat → Bool) (A : List It), v5 = .slice a' q c' ∧ v7 = .int .i64 i ∧ q = A.length ∧ i ≤ q ∧ gk = unm S b * 98 + (q - i) ∧ q + unm S b * 97 ≤ ll + 12610 ∧ CwP tn n L R I A b i ∧ ClAt w wr #[.slice ta tn tc, .slice na nn nc, .slice la ln lc, .int .i64 st, .slice (some ⟨bp, op, none⟩) n pc] mb S b a' q c' A)
  case atStart => exact ⟨0, q0, c5, a5, fun _ => false, A0, rfl, rfl, HQ0.out.1, Nat.zero_le _, rfl, HU0.out, HW0.out, HC0.out⟩
  case round =>
    obtain ⟨i, q, c', a', b, A, rfl, rfl, hq, hiq, hgk, hub, hW, hC⟩ := hrel
    have HQ : Hid (q = A.length) := hq
    have HGK : Hid (gk = unm S b * 98 + (q - i)) := hgk
    have HUB : Hid (q + unm S b * 97 ≤ ll + 12610) := hub
    have HW : Hid (CwP tn n L R I A b i) := hW
    have HC : Hid (ClAt w wr #[.slice ta tn tc, .slice na nn nc, .slice la ln lc, .int .i64 st, .slice (some ⟨bp, op, none⟩) n pc] mb S b a' q c' A) := hC
    have hqb : q ≤ 8796093034818 := by omega
    clear hq hgk hub hW hC HC0 HW0 HU0
    obtain ⟨k0, k1, k2, k3, k4⟩ := HC.out.ph.cells
    by_cases hlt : i < q
    · have hi0' : (0 : Int) ≤ (i : Int) := by omega
      have hi1' : (i : Int) < (q : Int) := by omega
      have hid : decide (i < q) = true := decide_eq_true hlt
      have hiA : i < A.length := by rw [← HQ.out]; exact hlt
      obtain ⟨gb, rfl, c0, c1⟩ : ∃ gb, a' = some ⟨gb, 0, none⟩ ∧ wr.cell? ⟨gb, i * 2, none⟩ = some (.int .i64 (A.getD i (0, 0)).1) ∧ wr.cell? ⟨gb, i * 2 + 1, none⟩ = some (.int .i64 (A.getD i (0, 0)).2) := by
        have ho := HC.out.own
        rcases ho.2 with ⟨_, h⟩ | ⟨g, cap, cur, hv, hB, hh, _, _, hs, ht⟩
        · omega
        · simp only [Value.slice.injEq] at hv
          refine ⟨g, hv.1, ?_⟩
          obtain ⟨h3, h4⟩ := itsV_at A i hiA
          rw [← ht, List.getElem?_take, if_pos (by omega)] at h3 h4
          rw [cell_of_row _ _ _ _ _ _ hh, cell_of_row _ _ _ _ _ _ hh]
          exact ⟨by simpa using h3, by simpa using h4⟩
      have hxi : itB n R (A.getD i (0, 0)) = true := by
        refine (HW.out.mem _ ?_).item HIT.out
        rw [List.getD_eq_getElem?_getD, List.getElem?_eq_getElem hiA]; exact List.getElem_mem hiA
      have hrg := HAR.out _ hxi
      have HAC : Hid (∀ X, wr.grownBy X none → Calls Try.prog 52 #[.agg #[.slice ta tn tc, .slice na nn nc, .slice la ln lc, .int .i64 st, .slice (some ⟨bp, op, none⟩) n pc], .agg #[.int .i64 (A.getD i (0, 0)).1, .int .i64 (A.getD i (0, 0)).2]] X fun e y => e = .returned (.int .i64 (aheadV R (A.getD i (0, 0)))) ∧ X.grownBy y none) := fun X hX => HAH.out X _ (grown_trans HC.out.grown hX) hxi
      obtain ⟨sv, hsv⟩ : ∃ s, s = aheadV R (A.getD i (0, 0)) := ⟨_, rfl⟩
      have HSV : Hid (sv = aheadV R (A.getD i (0, 0))) := hsv
      rw [← hsv] at HAC hrg
      obtain ⟨x, hx⟩ : ∃ x, x = A.getD i (0, 0) := ⟨_, rfl⟩
      rw [← hx] at HAC c0 c1
      clear hsv hx hxi
      obtain ⟨p, d⟩ := x
      simp only at HAC c0 c1
      have HUP : Hid (wr.grownBy wr.drew none) := grown_drewN wr 1
      have HKS : Hid (∀ Y, wr.grownBy Y none → (Y.cell? ⟨w.heap.size, 0, none⟩ = some (.slice ta tn tc) ∧ Y.cell? ⟨w.heap.size, 1, none⟩ = some (.slice na nn nc) ∧ Y.cell? ⟨w.heap.size, 2, none⟩ = some (.slice la ln lc) ∧ Y.cell? ⟨w.heap.size, 3, none⟩ = some (.int .i64 st) ∧ Y.cell? ⟨w.heap.size, 4, none⟩ = some (.slice (some ⟨bp, op, none⟩) n pc)) ∧ Y.cell? ⟨gb, i * 2, none⟩ = some (.int .i64 p) ∧ Y.cell? ⟨gb, i * 2 + 1, none⟩ = some (.int .i64 d)) := fun Y hY => ⟨(HC.out.kept hY).ph.cells, hY.cell c0 (by simp), hY.cell c1 (by simp)⟩
      clear k0 k1 k2 k3 k4 c0 c1
      go_wp2_with fail
      go_region_held3 (fun Y => (Y.cell? ⟨w.heap.size, 0, none⟩ = some (.slice ta tn tc) ∧ Y.cell? ⟨w.heap.size, 1, none⟩ = some (.slice na nn nc) ∧ Y.cell? ⟨w.heap.size, 2, none⟩ = some (.slice la ln lc) ∧ Y.cell? ⟨w.heap.size, 3, none⟩ = some (.int .i64 st) ∧ Y.cell? ⟨w.heap.size, 4, none⟩ = some (.slice (some ⟨bp, op, none⟩) n pc)) ∧ Y.cell? ⟨gb, i * 2, none⟩ = some (.int .i64 p) ∧ Y.cell? ⟨gb, i * 2 + 1, none⟩ = some (.int .i64 d)) (first | exact HKS.out _ HUP.out | exact HKS.out _ HG4.out | go_keep)
        ((first
          | (go_at_call 52; refine Calls.mono (HAC.out _ HUP.out) ?_; rintro e w4 ⟨rfl, hg4⟩; have HG4 : Hid (wr.grownBy w4 none) := grown_trans HUP.out hg4; clear hg4)
          | fail))
      have HC4 : Hid (ClAt w w4 #[.slice ta tn tc, .slice na nn nc, .slice la ln lc, .int .i64 st, .slice (some ⟨bp, op, none⟩) n pc] mb S b (some ⟨gb, 0, none⟩) q c' A) := HC.out.kept HG4.out
      clear HKS HUP HAC HC
      obtain ⟨k0, k1, k2, k3, k4⟩ := HC4.out.ph.cells
      by_cases hst : sv < (tn : Int)
      · have hd : decide (sv < (tn : Int)) = true := decide_eq_true hst
        have HSK : Hid (CwP tn n L R I A b (i + 1)) := HW.out.skip fun h => absurd h (by rw [← HSV.out]; omega)
        clear hst hrg
        go_wp2_with fail
        go_roundg (unm S b * 98 + (q - (i + 1)))
        case measure => have := HGK.out; omega
        case rel => exact ⟨i + 1, q, c', _, b, A, rfl, by go_num, HQ.out, by omega, rfl, HUB.out, HSK.out, HC4.out⟩
      · obtain ⟨s, rfl⟩ : ∃ s : Nat, sv = (s : Int) := ⟨sv.toNat, by omega⟩
        have hsS : s < S := by omega
        have hts : tn ≤ s := by omega
        have hd : decide (s < tn) = false := decide_eq_false (by omega)
        have hd2 : decide ((s : Int) < (tn : Int)) = false := decide_eq_false (by omega)
        have hs0 : (0 : Int) ≤ (s : Int) := by omega
        have hs1 : (s : Int) < (S : Int) := by omega
        have m0 := HC4.out.mark.cell s hsS
        have m1 := HC4.out.mark.free s
        obtain ⟨bs, hbs⟩ : ∃ x, x = b s := ⟨_, rfl⟩
        have HBSV : Hid (bs = b s) := hbs
        rw [← hbs] at m0
        clear hst hrg hbs
        cases bs with
        | true =>
          have HSK : Hid (CwP tn n L R I A b (i + 1)) := HW.out.skip fun _ => by rw [← HSV.out, Int.toNat_natCast]; exact HBSV.out.symm
          go_wp2_with fail
          go_roundg (unm S b * 98 + (q - (i + 1)))
          case measure => have := HGK.out; omega
          case rel => exact ⟨i + 1, q, c', _, b, A, rfl, by go_num, HQ.out, by omega, rfl, HUB.out, HSK.out, HC4.out⟩
        | false =>
          have HUM : Hid (unm S (markT b s) + 1 = unm S b) := unm_mark b s HBSV.out.symm S hsS
          have HCT : Hid (ClAt w (w4.setCell ⟨mb, s, none⟩ (.bool true)) #[.slice ta tn tc, .slice na nn nc, .slice la ln lc, .int .i64 st, .slice (some ⟨bp, op, none⟩) n pc] mb S (markT b s) (some ⟨gb, 0, none⟩) q c' A) := HC4.out.tick
          obtain ⟨X5, hX5⟩ : ∃ X5, X5 = w4.setCell ⟨mb, s, none⟩ (.bool true) := ⟨_, rfl⟩
          have HX5 : Hid (X5 = w4.setCell ⟨mb, s, none⟩ (.bool true)) := hX5
          rw [← hX5] at HCT
          clear hX5 HC4 k0 k1 k2 k3 k4
          have k0 : True := trivial
          go_wp2_with fail
          rw [← HX5.out]
          clear m0 m1 k0
          go_loopg [5, 9] n (fun gp v5 v9 wr => ∃ (pp q2 c2 : Nat) (a2 : Option Addr) (M : List It), pp ≤ n ∧ gp = n - pp ∧ v5 = .slice a2 q2 c2 ∧ v9 = .int .i64 pp ∧ q2 = (A ++ M).length ∧ q2 ≤ q + pp ∧ (∀ x ∈ M, ∃ k : Nat, k < n ∧ L k = (s : Int) ∧ x = ((k : Int), (0 : Int))) ∧ (∀ k : Nat, k < pp → L k = (s : Int) → ((k : Int), (0 : Int)) ∈ A ++ M) ∧ ClAt w wr #[.slice ta tn tc, .slice na nn nc, .slice la ln lc, .int .i64 st, .slice (some ⟨bp, op, none⟩) n pc] mb S (markT b s) a2 q2 c2 (A ++ M))
          case atStart => exact ⟨0, q, c', _, [], Nat.zero_le _, rfl, rfl, rfl, by rw [List.append_nil]; exact HQ.out, Nat.le_refl _, fun x hx => (by cases hx), fun k hk => absurd hk (Nat.not_lt_zero _), by rw [List.append_nil]; exact HCT.out⟩
          case round =>
            obtain ⟨pp, q2, c2, a2, M, hpn, hgp, rfl, rfl, hq2, hqp, hM, hall, hC5⟩ := hrel
            have HGP : Hid (gk = n - pp) := hgp
            have HQ2 : Hid (q2 = (A ++ M).length) := hq2
            have HMM : Hid (∀ x ∈ M, ∃ k : Nat, k < n ∧ L k = (s : Int) ∧ x = ((k : Int), (0 : Int))) := hM
            have HALL : Hid (∀ k : Nat, k < pp → L k = (s : Int) → ((k : Int), (0 : Int)) ∈ A ++ M) := hall
            have HC5 : Hid (ClAt w wr #[.slice ta tn tc, .slice na nn nc, .slice la ln lc, .int .i64 st, .slice (some ⟨bp, op, none⟩) n pc] mb S (markT b s) a2 q2 c2 (A ++ M)) := hC5
            clear hgp hq2 hM hall hC5 HCT
            obtain ⟨k0, k1, k2, k3, k4⟩ := HC5.out.ph.cells
            by_cases hpl : pp < n
            · have hp0 : (0 : Int) ≤ (pp : Int) := by omega
              have hp1 : (pp : Int) < (n : Int) := by omega
              have hpd : decide (pp < n) = true := decide_eq_true hpl
              obtain ⟨Y, hY⟩ : ∃ Y, Y = wr.alloc (.cells #[.int .i64 (pp : Int), .int .i64 0] 55) := ⟨_, rfl⟩
              have HYE : Hid (Y = wr.alloc (.cells #[.int .i64 (pp : Int), .int .i64 0] 55)) := hY
              have HGY : Hid (wr.grownBy Y none) := by rw [hY]; exact World.grownBy_alloc _ _ none
              have HBY : Hid (Y.heap[wr.heap.size]? = some (.cells #[.int .i64 (pp : Int), .int .i64 0] 55 (0, 0))) := by rw [hY]; exact heap_alloc_last wr _
              have HCY : Hid (ClAt w Y #[.slice ta tn tc, .slice na nn nc, .slice la ln lc, .int .i64 st, .slice (some ⟨bp, op, none⟩) n pc] mb S (markT b s) a2 q2 c2 (A ++ M)) := HC5.out.kept HGY.out
              have p0 := HPC.out pp hpl Y HCY.out.grown
              obtain ⟨j0, j1, j2, j3, j4⟩ := HCY.out.ph.cells
              obtain ⟨lk, hlk⟩ : ∃ x, x = L pp := ⟨_, rfl⟩
              have HLK : Hid (lk = L pp) := hlk
              rw [← hlk] at p0
              rw [hY] at p0 j0 j1 j2 j3 j4
              clear hlk hY
              by_cases hls : lk = (s : Int)
              · have hne : (lk != (s : Int)) = false := by rw [hls]; exact bne_self_eq_false _
                obtain ⟨rh, hrh⟩ := boolOf (((pp : Int), (0 : Int)) ∈ A ++ M)
                have HRH : Hid (rh = true ↔ ((pp : Int), (0 : Int)) ∈ A ++ M) := hrh
                have HHA : Hid (Calls Try.prog 53 #[.slice a2 q2 c2, .agg #[.int .i64 (pp : Int), .int .i64 0]] Y fun e y => e = .returned (.bool rh) ∧ Y.grownBy y none) := by
                  have ho := HCY.out.own
                  rw [HQ2.out] at ho ⊢
                  exact rhas_any a2 c2 (A ++ M) ((pp : Int), 0) Y (ItsAt.of ho) (by rw [← HQ2.out]; omega) rh hrh
                have HLS : Hid (L pp = (s : Int)) := by show _ = _; rw [← HLK.out]; exact hls
                clear hrh hls
                go_wp2_with fail
                rw [← HYE.out]
                refine Calls.mono HHA.out ?_
                rintro e w7 ⟨rfl, hg7⟩
                have HC7 : Hid (ClAt w w7 #[.slice ta tn tc, .slice na nn nc, .slice la ln lc, .int .i64 st, .slice (some ⟨bp, op, none⟩) n pc] mb S (markT b s) a2 q2 c2 (A ++ M)) := HCY.out.kept hg7
                have HB7 : Hid (w7.heap[wr.heap.size]? = some (.cells #[.int .i64 (pp : Int), .int .i64 0] 55 (0, 0))) := box_kept HBY.out hg7
                clear hg7 p0 j0 j1 j2 j3 j4 k0 k1 k2 k3 k4 HHA
                cases rh with
                | true =>
                  have HAL2 : Hid (∀ k : Nat, k < pp + 1 → L k = (s : Int) → ((k : Int), (0 : Int)) ∈ A ++ M) := fun k hk hl => by
                    by_cases e : k = pp
                    · rw [e]; exact HRH.out.1 rfl
                    · exact HALL.out k (by omega) hl
                  clear HRH
                  go_wp2_with fail
                  go_roundg (n - (pp + 1))
                  case measure => have := HGP.out; omega
                  case rel => exact ⟨pp + 1, q2, c2, a2, M, by omega, rfl, rfl, by go_num, HQ2.out, by omega, HMM.out, HAL2.out, HC7.out⟩
                | false =>
                  have b0 : w7.cell? ⟨wr.heap.size, 0, none⟩ = some (.int .i64 (pp : Int)) := by rw [cell_of_row _ _ _ _ _ _ HB7.out]; rfl
                  have b1 : w7.cell? ⟨wr.heap.size, 1, none⟩ = some (.int .i64 0) := by rw [cell_of_row _ _ _ _ _ _ HB7.out]; rfl
                  have HAL2 : Hid (∀ k : Nat, k < pp + 1 → L k = (s : Int) → ((k : Int), (0 : Int)) ∈ A ++ (M ++ [((pp : Int), (0 : Int))])) := fun k hk hl => by
                    rw [← List.append_assoc]
                    by_cases e : k = pp
                    · rw [e]; simp
                    · exact List.mem_append_left _ (HALL.out k (by omega) hl)
                  have HMM2 : Hid (∀ x ∈ M ++ [((pp : Int), (0 : Int))], ∃ k : Nat, k < n ∧ L k = (s : Int) ∧ x = ((k : Int), (0 : Int))) := fun x hx => by
                    rcases List.mem_append.1 hx with hx | hx
                    · exact HMM.out x hx
                    · exact ⟨pp, hpl, HLS.out, List.mem_singleton.1 hx⟩
                  have HOW : Hid (ClAt w (w7.alloc (.cells #[.int .i64 (pp : Int), .int .i64 0] 55)) #[.slice ta tn tc, .slice na nn nc, .slice la ln lc, .int .i64 st, .slice (some ⟨bp, op, none⟩) n pc] mb S (markT b s) a2 q2 c2 (A ++ M)) := HC7.out.kept (World.grownBy_alloc _ _ none)
                  have HNW : Hid (∀ j z, [Value.int .i64 (pp : Int), Value.int .i64 0][j]? = some z → (w7.alloc (.cells #[.int .i64 (pp : Int), .int .i64 0] 55)).cell? ((⟨w7.heap.size, 0, none⟩ : Addr).add j) = some z) := news_new w7 _ _
                  clear HRH
                  go_wp2_with (at_builtin; refine wpList_append_srcW rfl (.tmp 65) (.tmp 67) 48 rfl w.heap.size 55 i0 (.agg #[.int .i64 0, .int .i64 0]) 2 16 Try.underlying48 hi0 hz0 hz1 hz2 rfl (by decide) (.slice a2 q2 c2) q2 (itsV (A ++ M)) rfl HOW.out.own (some ⟨w7.heap.size, 0, none⟩) 1 1 [.int .i64 (pp : Int), .int .i64 0] rfl (fun h => by cases h) rfl (fun ad e => by cases e; exact HNW.out) (by simp [Value.oneCell']) (by unfold maxLen; omega) (by omega) HOW.out.grown.size ?_; intro v8 wB hoB hgB; have hoB2 : wB.ownsRow w.heap.size 55 2 v8 (q2 + 1) (itsV (A ++ (M ++ [((pp : Int), (0 : Int))]))) := (by rw [← List.append_assoc, itsV_append]; exact hoB); obtain ⟨a8, c8, rfl, hC8⟩ := HOW.out.more hgB hoB2; have HC8 := show Hid _ from hC8; clear hoB hgB hC8 hoB2)
                  go_roundg (n - (pp + 1))
                  case measure => have := HGP.out; omega
                  case rel => exact ⟨pp + 1, q2 + 1, c8, a8, M ++ [((pp : Int), (0 : Int))], by omega, rfl, rfl, by go_num, by rw [← List.append_assoc, List.length_append, ← HQ2.out]; rfl, by omega, HMM2.out, HAL2.out, HC8.out⟩
              · have hne : (lk != (s : Int)) = true := bne_iff_ne.2 hls
                have HAL2 : Hid (∀ k : Nat, k < pp + 1 → L k = (s : Int) → ((k : Int), (0 : Int)) ∈ A ++ M) := fun k hk hl => by
                  by_cases e : k = pp
                  · rw [e] at hl; exact absurd (HLK.out.trans hl) hls
                  · exact HALL.out k (by omega) hl
                clear hls
                go_wp2_with fail
                rw [← HYE.out]
                go_roundg (n - (pp + 1))
                case measure => have := HGP.out; omega
                case rel => exact ⟨pp + 1, q2, c2, a2, M, by omega, rfl, rfl, by go_num, HQ2.out, by omega, HMM.out, HAL2.out, HCY.out⟩
            · have hpk : n = pp := by omega
              subst hpk
              have hpd : decide (n < n) = false := decide_eq_false (by omega)
              have HBR : Hid (CwP tn n L R I (A ++ M) (markT b s) (i + 1)) := HW.out.bring' (by rw [← HQ.out]; exact hlt) HSV.out.symm hts (fun j => by
                unfold markT
                by_cases e : j = s
                · simp [e]
                · simp [e]) HMM.out HALL.out
              go_wp2_with fail
              go_roundg (unm S (markT b s) * 98 + (q2 - (i + 1)))
              case measure => have h1 := HGK.out; have h2 := HUM.out; omega
              case rel => exact ⟨i + 1, q2, c2, a2, markT b s, A ++ M, rfl, by go_num, HQ2.out, by
                have h1 := HQ2.out
                rw [List.length_append, ← HQ.out] at h1
                omega, rfl, by have h1 := HUB.out; have h2 := HUM.out; omega, HBR.out, HC5.out⟩
    · have hin : q = i := by omega
      subst hin
      have hid : decide (q < q) = false := decide_eq_false (by omega)
      have HMEM : Hid (∀ x, x ∈ A ↔ Clo tn n L R I x) := HW.out.fin (by rw [HQ.out]; exact Nat.le_refl _)
      have HLF : Hid (Calls Try.prog 51 #[.slice a' q c'] wr fun e y => LaidTold A wr e y) := by
        have ho := HC.out.own
        rw [HQ.out] at ho ⊢
        exact laid_any a' c' A wr (ItsAt.of ho) (by rw [← HQ.out]; omega)
      clear k0 k1 k2 k3 k4
      go_wp2_with fail
      refine Calls.mono HLF.out ?_
      rintro e w4 ⟨l', h1, h2, h3, a4, c4, rfl, ho4, hg4⟩
      have HIC : Hid (IsClo tn n L R I l') := ⟨h1, fun x => (h2 x).trans (HMEM.out x)⟩
      have HL4 : Hid (l'.length ≤ q) := by rw [HQ.out]; exact h3
      have HG4 : Hid (w.grownBy w4 none) := grown_trans HC.out.grown hg4
      have HO4 : Hid (w4.ownsRow w.heap.size 55 2 (.slice a4 l'.length c4) l'.length (itsV l')) := owns_lowJ ho4 HC.out.grown.size
      obtain ⟨m, hm⟩ : ∃ m, m = l'.length := ⟨_, rfl⟩
      have HM : Hid (m = l'.length) := hm
      rw [← hm]
      clear h1 h2 h3 ho4 hg4 hm HLF HC HW
      go_wp2_with fail
      go_ret
      refine ⟨l', HIC.out, ?_, a4, c4, by rw [← HM.out]; rfl, HO4.out, HG4.out⟩
      have h2 := HL4.out
      have h3 := HUB.out
      rw [← HLE.out]
      omega

end Go.Proofs.Ytfllgmbnljfboaa.J
