import Derived.Test.YthoamlahbnphkaaGreatQbhbflfocdjab
import Derived.Deep.RegionHeld3
import Derived.Deep.AppendLies
import Derived.Deep.RegionLaw

/-
  lr0: closure.
-/
namespace Go.Proofs.YthoamlahbnphkaaGreat.J
open Go.RowKit Go.Maps Go.Shelf

attribute [local go_sem] Oper.semAt_some

theorem infoBool : (Tryz.prog.info? 4).map (fun i => (i.zero, i.size, i.bytes)) = some (some (.bool false), 1, 1) := by kernel_rfl

/-- While a closure is made. -/
structure ClAt (w X : World) (cs : Array Value) (mb S : Nat) (b : Nat → Bool) (a : Option Addr) (q c : Nat) (A : List It) : Prop where
  grown : w.grownBy X none
  box : X.heap[w.heap.size]? = some (.cells cs 27 (0, 0))
  mark : ValAt X mb S 4 (fun i => .bool (b i))
  lo : w.heap.size < mb
  own : X.ownsRow w.heap.size 69 2 (.slice a q c) q (itsV A)
section
variable {w X Y : World} {cs : Array Value} {mb S : Nat} {b : Nat → Bool} {a : Option Addr} {q c : Nat} {A : List It}
theorem ClAt.kept (h : ClAt w X cs mb S b a q c A) (hg : X.grownBy Y none) : ClAt w Y cs mb S b a q c A := ⟨grown_trans h.grown hg, box_kept h.box hg, h.mark.kept hg, h.lo, keep0 h.own hg⟩
theorem ClAt.ph (h : ClAt w X cs mb S b a q c A) : PhAt w X w.heap.size cs := ⟨h.grown, h.box⟩
theorem ClAt.tick {s : Nat} (h : ClAt w X cs mb S b a q c A) : ClAt w (X.setCell ⟨mb, s, none⟩ (.bool true)) cs mb S (markT b s) a q c A := by
  have G : X.grownBy (X.setCell ⟨mb, s, none⟩ (.bool true)) (some mb) := grown_setCell _ _ _
  have hl := h.lo
  refine ⟨grown_new h.grown G (by omega), (G.block _ (Array.getElem?_eq_some_iff.1 h.box).1 (by simp; omega)).trans h.box, (h.mark.set s (.bool true)).ext fun i _ => ?_, h.lo, h.own.kept G (owns_nebox h.own h.mark (by decide))⟩
  unfold put markT
  by_cases e : i = s
  · rw [if_pos e, if_pos e]
  · rw [if_neg e, if_neg e]
theorem ClAt.more {v' : Value} {m : Nat} {A' : List It} (h : ClAt w X cs mb S b a q c A) (hg : X.grownBy Y (Value.slice a q c).ownBlock) (ho : Y.ownsRow w.heap.size 69 2 v' m (itsV A')) : ∃ a' c', v' = .slice a' m c' ∧ ClAt w Y cs mb S b a' m c' A' := by
  obtain ⟨a', c', rfl⟩ := owns_slice ho
  refine ⟨a', c', rfl, grown_row h.grown h.own (Nat.le_refl _) hg, ?_, ?_, h.lo, ho⟩
  · refine (hg.block _ (Array.getElem?_eq_some_iff.1 h.box).1 ?_).trans h.box
    rcases owns_nebox h.own h.box (by decide) with h1 | h1
    · rw [h1]; simp
    · exact fun h2 => h1 h2.symm
  · refine (hg.block _ h.mark.lt ?_).trans h.mark
    rcases owns_nebox h.own h.mark (by decide) with h1 | h1
    · rw [h1]; simp
    · exact fun h2 => h1 h2.symm
end

theorem aheadV_range {n : Nat} {R : Nat → List Int} {S : Nat} (hR : ∀ k, k < n → ∀ x ∈ R k, (0 : Int) ≤ x ∧ x < (S : Int)) {x : It} (hx : itB n R x = true) : aheadV R x = -1 ∨ ((0 : Int) ≤ aheadV R x ∧ aheadV R x < (S : Int)) := by
  unfold itB at hx
  simp only [Bool.and_eq_true, decide_eq_true_eq] at hx
  obtain ⟨⟨⟨h0, h1⟩, h2⟩, h3⟩ := hx
  unfold aheadV
  split
  · exact .inl rfl
  · rename_i h4
    right
    have h5 : x.2.toNat < (R x.1.toNat).length := by omega
    rw [List.getD_eq_getElem?_getD, List.getElem?_eq_getElem h5]
    exact hR x.1.toNat (by omega) _ (List.getElem_mem h5)

/-- What closure tells. -/
def CloTold (tn n : Nat) (L : Nat → Int) (R : Nat → List Int) (I : List It) (w : World) (e : Ending) (y : World) : Prop := ∃ l, IsClo tn n L R I l ∧ l.length ≤ I.length + 13000 ∧ ItsTold l w e y

set_option maxRecDepth 100000 in
set_option maxHeartbeats 4000000 in
theorem closure_any (ta na la pa : Option Addr) (tc nc lc pc : Nat) (n : Nat) (L : Nat → Int) (R : Nat → List Int) (ra : Nat → Option Addr) (rc : Nat → Nat) (V : Nat → Int) (st : Int) (w : World) (tn nn ln : Nat) (hP : ProdsAt w pa n L R ra rc V) (hn : n ≤ 97) (hn0 : 0 < n) (htn : tn ≤ 65) (hnn : nn ≤ 65) (hR : ∀ k, k < n → ∀ x ∈ R k, (0 : Int) ≤ x ∧ x < ((tn + nn : Nat) : Int)) (a : Option Addr) (cap : Nat) (I : List It) (hI : ItsAt w a I) (hnil : a = none → I.length = 0 ∧ cap = 0) (hIb : I.length ≤ 8796093072208) (hit : ∀ x ∈ I, itB n R x = true) :
    Calls Tryz.prog 48 #[.agg #[.slice ta tn tc, .slice na nn nc, .slice la ln lc, .int .i64 st, .slice pa n pc], .slice a I.length cap] w fun e y => CloTold tn n L R I w e y := by
  obtain ⟨S, hS⟩ : ∃ S, S = tn + nn := ⟨_, rfl⟩
  have HSE : Hid (S = tn + nn) := hS
  have hSz : S ≤ 130 := by omega
  have HSY : Hid (∀ X, Calls Tryz.prog 77 #[.agg #[.slice ta tn tc, .slice na nn nc, .slice la ln lc, .int .i64 st, .slice pa n pc]] X fun e y => e = .returned (.int .i64 (S : Int)) ∧ X.grownBy y none) := fun X => by
    refine (symbols_any ta na la pa tc nc lc pc n st X tn nn ln (by omega) (by omega)).mono ?_
    rintro e y ⟨rfl, hg⟩
    exact ⟨by rw [hS, Int.natCast_add], hg⟩
  have HAH : Hid (∀ X x, w.grownBy X none → itB n R x = true → Calls Tryz.prog 78 #[.agg #[.slice ta tn tc, .slice na nn nc, .slice la ln lc, .int .i64 st, .slice pa n pc], .agg #[.int .i64 x.1, .int .i64 x.2]] X fun e y => e = .returned (.int .i64 (aheadV R x)) ∧ X.grownBy y none) := fun X x hX hx => ahead_any ta na la pa tc nc lc pc n L R ra rc V st X tn nn ln (prods_kept hP hX) x hx
  have HBG : Hid (∀ X s, w.grownBy X none → Calls Tryz.prog 79 #[.agg #[.slice ta tn tc, .slice na nn nc, .slice la ln lc, .int .i64 st, .slice pa n pc], .int .i64 s] X fun e y => ItsTold (begL L s n) X e y) := fun X s hX => begun_any ta na la pa tc nc lc pc n L R ra rc V st s X tn nn ln (prods_kept hP hX) hn hn0
  have HAR : Hid (∀ x, itB n R x = true → aheadV R x = -1 ∨ ((0 : Int) ≤ aheadV R x ∧ aheadV R x < (S : Int))) := fun x hx => aheadV_range (by rw [hS]; exact hR) hx
  have HIT : Hid (∀ x ∈ I, itB n R x = true) := hit
  have HIA : Hid (ItsAt w a I) := hI
  obtain ⟨ll, hle⟩ : ∃ m, m = I.length := ⟨_, rfl⟩
  have HLE : Hid (ll = I.length) := hle
  rw [← hle] at hnil hIb
  rw [← hle]
  have HNIL : Hid (a = none → ll = 0 ∧ cap = 0) := hnil
  have HX0 : Hid (PhAt w (w.alloc (.cells #[.slice ta tn tc, .slice na nn nc, .slice la ln lc, .int .i64 st, .slice pa n pc] 27)) w.heap.size #[.slice ta tn tc, .slice na nn nc, .slice la ln lc, .int .i64 st, .slice pa n pc]) := ⟨World.grownBy_alloc _ _ none, heap_alloc_last w _⟩
  have HSRC : Hid (∀ ad, a = some ad → ∀ j u, (itsV I)[j]? = some u → (w.alloc (.cells #[.slice ta tn tc, .slice na nn nc, .slice la ln lc, .int .i64 st, .slice pa n pc] 27)).cell? (ad.add j) = some u) := fun ad e j u hu => its_cells (HIA.out.kept HX0.out.grown) ad e j u hu
  have HBS : Hid (w.heap.size + 1 ≤ (w.alloc (.cells #[.slice ta tn tc, .slice na nn nc, .slice la ln lc, .int .i64 st, .slice pa n pc] 27)).heap.size) := by show _ ≤ _; simp
  obtain ⟨i0, hi0, hz0, hz1, hz2⟩ := info_parts infoItem
  obtain ⟨i1, hi1, hy0, hy1, hy2⟩ := info_parts infoBool
  clear hP hR hI hit hle hS hnil
  go_enter Tryz.func48, Tryz.ntmps48
  go_wp2_with (at_builtin; refine wpList_append_srcW rfl _ (.tmp 9) 62 rfl (w.heap.size + 1) 69 i0 (.agg #[.int .i64 0, .int .i64 0]) 2 16 Tryz.underlying62 hi0 hz0 hz1 hz2 rfl (by decide) (.slice none 0 0) 0 [] rfl (World.ownsRow_nil _ _ _ _) a ll cap (itsV I) rfl HNIL.out (by rw [itsV_length, HLE.out]) HSRC.out (itsV_one I) (by unfold maxLen; omega) (by omega) HBS.out ?_; intro v5 w1 hoB hgB; rw [Nat.zero_add, List.nil_append] at hoB; have HO1 : Hid (w1.ownsRow (w.heap.size + 1) 69 2 v5 ll (itsV I)) := hoB; have HX1 : Hid (PhAt w w1 w.heap.size #[.slice ta tn tc, .slice na nn nc, .slice la ln lc, .int .i64 st, .slice pa n pc]) := HX0.out.kept hgB; obtain ⟨a5, c5, rfl⟩ := owns_slice hoB; clear hoB hgB; obtain ⟨k0, k1, k2, k3, k4⟩ := HX1.out.cells)
  refine Calls.mono (HSY.out _) ?_
  rintro e w2 ⟨rfl, hg2⟩
  have HX2 : Hid (PhAt w w2 w.heap.size #[.slice ta tn tc, .slice na nn nc, .slice la ln lc, .int .i64 st, .slice pa n pc]) := HX1.out.kept hg2
  have HO2 : Hid (w2.ownsRow (w.heap.size + 1) 69 2 (.slice a5 ll c5) ll (itsV I)) := keep0 HO1.out hg2
  clear hg2 k0 k1 k2 k3 k4 HX1 HO1 HX0 HSRC HBS HNIL HIA
  go_wp2_with (at_make; refine wpList_make_full _ rfl _ _ 47 rfl w2.heap.size 4 i1 (.bool false) 1 Tryz.underlying47 hi1 hy0 hy1 .i64 .i64 _ _ S rfl rfl (by simp) (by simp) (by rw [hy2]; omega) (by unfold maxLen; omega) (by simp) ?_)
  intro w3 hown hgrow
  have hval : ValAt w3 w2.heap.size S 4 (fun _ => .bool false) := made_rowK (B := w2.heap.size) rfl (by simpa [Value.cells] using hown)
  obtain ⟨mb, hmb⟩ : ∃ mb, mb = w2.heap.size := ⟨_, rfl⟩
  rw [← hmb] at hval
  rw [← hmb]
  have HC0 : Hid (ClAt w w3 #[.slice ta tn tc, .slice na nn nc, .slice la ln lc, .int .i64 st, .slice pa n pc] mb S (fun _ => false) a5 ll c5 I) := by
    refine ⟨grown_trans HX2.out.grown hgrow, box_kept HX2.out.box hgrow, hval, ?_, ?_⟩
    · have := (Array.getElem?_eq_some_iff.1 HX2.out.box).1; omega
    · have h7 := keep0 HO2.out hgrow
      refine ⟨h7.1, ?_⟩
      rcases h7.2 with h | ⟨g, cap, cur, hv, hB, hr⟩
      · exact .inl h
      · exact .inr ⟨g, cap, cur, hv, by omega, hr⟩
  have HW0 : Hid (CwP tn n L R I I (fun _ => false) 0) := CwP.start
  have HU0 : Hid (ll + unm S (fun _ => false) * 97 ≤ ll + 12610) := by have := unm_le S (fun _ => false); show _ ≤ _; omega
  clear hown hgrow hval hmb HX2 HO2
  go_wp2_with fail
  go_loopg [5, 7] (unm S (fun _ => false) * 98 + ll) (fun gk v5 v7 wr => ∃ (i q c' : Nat) (a' : Option Addr) (b : Nat → Bool) (A : List It), v5 = .slice a' q c' ∧ v7 = .int .i64 i ∧ q = A.length ∧ i ≤ q ∧ gk = unm S b * 98 + (q - i) ∧ q + unm S b * 97 ≤ ll + 12610 ∧ CwP tn n L R I A b i ∧ ClAt w wr #[.slice ta tn tc, .slice na nn nc, .slice la ln lc, .int .i64 st, .slice pa n pc] mb S b a' q c' A)
  case atStart => exact ⟨0, ll, c5, a5, fun _ => false, I, rfl, rfl, HLE.out, Nat.zero_le _, rfl, HU0.out, HW0.out, HC0.out⟩
  case round =>
    obtain ⟨i, q, c', a', b, A, rfl, rfl, hq, hiq, hgk, hub, hW, hC⟩ := hrel
    have HQ : Hid (q = A.length) := hq
    have HGK : Hid (gk = unm S b * 98 + (q - i)) := hgk
    have HUB : Hid (q + unm S b * 97 ≤ ll + 12610) := hub
    have HW : Hid (CwP tn n L R I A b i) := hW
    have HC : Hid (ClAt w wr #[.slice ta tn tc, .slice na nn nc, .slice la ln lc, .int .i64 st, .slice pa n pc] mb S b a' q c' A) := hC
    have hqb : q ≤ 8796093084818 := by omega
    clear hq hgk hub hW hC HC0 HW0 HU0
    obtain ⟨k0, k1, k2, k3, k4⟩ := HC.out.ph.cells
    by_cases hlt : i < q
    · have hi0' : (0 : Int) ≤ (i : Int) := by omega
      have hi1' : (i : Int) < (q : Int) := by omega
      have hid : decide (i < q) = true := decide_eq_true hlt
      have hiA : i < A.length := by rw [← HQ.out]; exact hlt
      obtain ⟨gb, rfl, c0, c1⟩ : ∃ gb, a' = some ⟨gb, 0, none⟩ ∧ wr.cell? ⟨gb, i * 2, none⟩ = some (.int .i64 (A.getD i (0, 0)).1) ∧ wr.cell? ⟨gb, i * 2 + 1, none⟩ = some (.int .i64 (A.getD i (0, 0)).2) := by
        have ho := HC.out.own
        rcases ho.2 with ⟨_, h⟩ | ⟨g, cap, cur, hv, hB, hh, _, _, hs, ht⟩
        · omega
        · simp only [Value.slice.injEq] at hv
          refine ⟨g, hv.1, ?_⟩
          obtain ⟨h3, h4⟩ := itsV_at A i hiA
          rw [← ht, List.getElem?_take, if_pos (by omega)] at h3 h4
          rw [cell_of_row _ _ _ _ _ _ hh, cell_of_row _ _ _ _ _ _ hh]
          exact ⟨by simpa using h3, by simpa using h4⟩
      have hxi : itB n R (A.getD i (0, 0)) = true := by
        refine (HW.out.mem _ ?_).item HIT.out
        rw [List.getD_eq_getElem?_getD, List.getElem?_eq_getElem hiA]; exact List.getElem_mem hiA
      have hrg := HAR.out _ hxi
      have HAC : Hid (∀ X, wr.grownBy X none → Calls Tryz.prog 78 #[.agg #[.slice ta tn tc, .slice na nn nc, .slice la ln lc, .int .i64 st, .slice pa n pc], .agg #[.int .i64 (A.getD i (0, 0)).1, .int .i64 (A.getD i (0, 0)).2]] X fun e y => e = .returned (.int .i64 (aheadV R (A.getD i (0, 0)))) ∧ X.grownBy y none) := fun X hX => HAH.out X _ (grown_trans HC.out.grown hX) hxi
      obtain ⟨sv, hsv⟩ : ∃ s, s = aheadV R (A.getD i (0, 0)) := ⟨_, rfl⟩
      have HSV : Hid (sv = aheadV R (A.getD i (0, 0))) := hsv
      rw [← hsv] at HAC hrg
      obtain ⟨x, hx⟩ : ∃ x, x = A.getD i (0, 0) := ⟨_, rfl⟩
      rw [← hx] at HAC c0 c1
      clear hsv hx hxi
      obtain ⟨p, d⟩ := x
      simp only at HAC c0 c1
      have HUP : Hid (wr.grownBy wr.drew none) := grown_drewN wr 1
      have HKS : Hid (∀ Y, wr.grownBy Y none → (Y.cell? ⟨w.heap.size, 0, none⟩ = some (.slice ta tn tc) ∧ Y.cell? ⟨w.heap.size, 1, none⟩ = some (.slice na nn nc) ∧ Y.cell? ⟨w.heap.size, 2, none⟩ = some (.slice la ln lc) ∧ Y.cell? ⟨w.heap.size, 3, none⟩ = some (.int .i64 st) ∧ Y.cell? ⟨w.heap.size, 4, none⟩ = some (.slice pa n pc)) ∧ Y.cell? ⟨gb, i * 2, none⟩ = some (.int .i64 p) ∧ Y.cell? ⟨gb, i * 2 + 1, none⟩ = some (.int .i64 d)) := fun Y hY => ⟨(HC.out.kept hY).ph.cells, hY.cell c0 (by simp), hY.cell c1 (by simp)⟩
      clear k0 k1 k2 k3 k4 c0 c1
      go_wp2_with fail
      go_region_held3 (fun Y => (Y.cell? ⟨w.heap.size, 0, none⟩ = some (.slice ta tn tc) ∧ Y.cell? ⟨w.heap.size, 1, none⟩ = some (.slice na nn nc) ∧ Y.cell? ⟨w.heap.size, 2, none⟩ = some (.slice la ln lc) ∧ Y.cell? ⟨w.heap.size, 3, none⟩ = some (.int .i64 st) ∧ Y.cell? ⟨w.heap.size, 4, none⟩ = some (.slice pa n pc)) ∧ Y.cell? ⟨gb, i * 2, none⟩ = some (.int .i64 p) ∧ Y.cell? ⟨gb, i * 2 + 1, none⟩ = some (.int .i64 d)) (first | exact HKS.out _ HUP.out | exact HKS.out _ HG4.out | go_keep)
        ((first
          | (go_at_call 78; refine Calls.mono (HAC.out _ HUP.out) ?_; rintro e w4 ⟨rfl, hg4⟩; have HG4 : Hid (wr.grownBy w4 none) := grown_trans HUP.out hg4; clear hg4)
          | fail))
      have HC4 : Hid (ClAt w w4 #[.slice ta tn tc, .slice na nn nc, .slice la ln lc, .int .i64 st, .slice pa n pc] mb S b (some ⟨gb, 0, none⟩) q c' A) := HC.out.kept HG4.out
      clear HKS HUP HAC HC
      obtain ⟨k0, k1, k2, k3, k4⟩ := HC4.out.ph.cells
      by_cases hst : sv < (tn : Int)
      · have hd : decide (sv < (tn : Int)) = true := decide_eq_true hst
        have HSK : Hid (CwP tn n L R I A b (i + 1)) := HW.out.skip fun h => absurd h (by rw [← HSV.out]; omega)
        clear hst hrg
        go_wp2_with fail
        go_roundg (unm S b * 98 + (q - (i + 1)))
        case measure => have := HGK.out; omega
        case rel => exact ⟨i + 1, q, c', _, b, A, rfl, by go_num, HQ.out, by omega, rfl, HUB.out, HSK.out, HC4.out⟩
      · obtain ⟨s, rfl⟩ : ∃ s : Nat, sv = (s : Int) := ⟨sv.toNat, by omega⟩
        have hsS : s < S := by omega
        have hts : tn ≤ s := by omega
        have hd : decide (s < tn) = false := decide_eq_false (by omega)
        have hd2 : decide ((s : Int) < (tn : Int)) = false := decide_eq_false (by omega)
        have hs0 : (0 : Int) ≤ (s : Int) := by omega
        have hs1 : (s : Int) < (S : Int) := by omega
        have m0 := HC4.out.mark.cell s hsS
        have m1 := HC4.out.mark.free s
        obtain ⟨bs, hbs⟩ : ∃ x, x = b s := ⟨_, rfl⟩
        have HBSV : Hid (bs = b s) := hbs
        rw [← hbs] at m0
        clear hst hrg hbs
        cases bs with
        | true =>
          have HSK : Hid (CwP tn n L R I A b (i + 1)) := HW.out.skip fun _ => by rw [← HSV.out, Int.toNat_natCast]; exact HBSV.out.symm
          go_wp2_with fail
          go_roundg (unm S b * 98 + (q - (i + 1)))
          case measure => have := HGK.out; omega
          case rel => exact ⟨i + 1, q, c', _, b, A, rfl, by go_num, HQ.out, by omega, rfl, HUB.out, HSK.out, HC4.out⟩
        | false =>
          have HBR : Hid (CwP tn n L R I (A ++ begL L (s : Int) n) (markT b s) (i + 1)) := HW.out.bring (by rw [← HQ.out]; exact hlt) HSV.out.symm hts (fun j => by
            unfold markT
            by_cases e : j = s
            · simp [e]
            · simp [e])
          have HUM : Hid (unm S (markT b s) + 1 = unm S b) := unm_mark b s HBSV.out.symm S hsS
          have HCT : Hid (ClAt w (w4.setCell ⟨mb, s, none⟩ (.bool true)) #[.slice ta tn tc, .slice na nn nc, .slice la ln lc, .int .i64 st, .slice pa n pc] mb S (markT b s) (some ⟨gb, 0, none⟩) q c' A) := HC4.out.tick
          obtain ⟨X5, hX5⟩ : ∃ X5, X5 = w4.setCell ⟨mb, s, none⟩ (.bool true) := ⟨_, rfl⟩
          have HX5 : Hid (X5 = w4.setCell ⟨mb, s, none⟩ (.bool true)) := hX5
          rw [← hX5] at HCT
          obtain ⟨j0, j1, j2, j3, j4⟩ := HCT.out.ph.cells
          rw [hX5] at j0 j1 j2 j3 j4
          clear hX5 HC4
          go_wp2_with fail
          rw [← HX5.out]
          refine Calls.mono (HBG.out X5 (s : Int) HCT.out.grown) ?_
          rintro e w6 ⟨a6, c6, rfl, ho6, hg6⟩
          have HC6 : Hid (ClAt w w6 #[.slice ta tn tc, .slice na nn nc, .slice la ln lc, .int .i64 st, .slice pa n pc] mb S (markT b s) (some ⟨gb, 0, none⟩) q c' A) := HCT.out.kept hg6
          have HI6 : Hid (ItsAt w6 a6 (begL L (s : Int) n)) := ItsAt.of ho6
          have HNL : Hid (a6 = none → (begL L (s : Int) n).length = 0 ∧ c6 = 0) := (owns_bounds ho6).2
          obtain ⟨bl, hbl⟩ : ∃ x, x = (begL L (s : Int) n).length := ⟨_, rfl⟩
          have HBL : Hid (bl = (begL L (s : Int) n).length) := hbl
          rw [← hbl] at HNL
          rw [← hbl]
          have hbl2 : bl ≤ 97 := by rw [hbl]; exact Nat.le_trans (begL_len L _ n) hn
          clear ho6 hg6 hbl j0 j1 j2 j3 j4 k0 k1 k2 k3 k4 m0 m1 HCT
          go_wp2_with (at_builtin; refine wpList_append_srcW rfl (.tmp 40) (.tmp 43) 62 rfl w.heap.size 69 i0 (.agg #[.int .i64 0, .int .i64 0]) 2 16 Tryz.underlying62 hi0 hz0 hz1 hz2 rfl (by decide) (.slice (some ⟨gb, 0, none⟩) q c') q (itsV A) rfl HC6.out.own a6 bl c6 (itsV (begL L (s : Int) n)) rfl HNL.out (by rw [itsV_length, HBL.out]) (its_cells HI6.out) (itsV_one _) (by unfold maxLen; omega) (by omega) HC6.out.grown.size ?_; intro v7 wB hoB hgB; rw [← itsV_append] at hoB; obtain ⟨a7, c7, rfl, hC7⟩ := HC6.out.more hgB hoB; have HC7 : Hid (ClAt w wB #[.slice ta tn tc, .slice na nn nc, .slice la ln lc, .int .i64 st, .slice pa n pc] mb S (markT b s) a7 (q + bl) c7 (A ++ begL L (s : Int) n)) := hC7; clear hoB hgB hC7)
          go_roundg (unm S (markT b s) * 98 + (q + bl - (i + 1)))
          case measure => have h1 := HGK.out; have h2 := HUM.out; omega
          case rel => exact ⟨i + 1, q + bl, c7, a7, markT b s, A ++ begL L (s : Int) n, rfl, by go_num, by rw [List.length_append, ← HQ.out, ← HBL.out], by omega, rfl, by have h1 := HUB.out; have h2 := HUM.out; omega, HBR.out, HC7.out⟩
    · have hin : q = i := by omega
      subst hin
      have hid : decide (q < q) = false := decide_eq_false (by omega)
      have HMEM : Hid (∀ x, x ∈ A ↔ Clo tn n L R I x) := HW.out.fin (by rw [HQ.out]; exact Nat.le_refl _)
      have HSO : Hid (Calls Tryz.prog 80 #[.slice a' q c', .func (.func 81) #[] #[]] wr fun e y => SortTold w.heap.size a' c' A wr e y) := by
        have ho := HC.out.own
        rw [HQ.out] at ho ⊢
        exact sort_any wr w.heap.size a' c' A ho (by rw [← HQ.out]; omega)
      clear k0 k1 k2 k3 k4
      go_wp2_with fail
      refine Calls.mono HSO.out ?_
      rintro e w4 ⟨rfl, l', hp, hs, ho4, hg4⟩
      have HLL : Hid (l'.length = q) := by show _ = _; rw [hp.length_eq, HQ.out]
      have HIC : Hid (IsClo tn n L R I (ddT l' l'.length)) := isClo_of HMEM.out hp hs
      have HG4 : Hid (w.grownBy w4 none) := by
        have ho := HC.out.own
        rw [HQ.out] at ho
        exact grown_row HC.out.grown ho (Nat.le_refl _) hg4
      have HO4 : Hid (w4.ownsRow w.heap.size 69 2 (.slice a' l'.length c') l'.length (itsV l')) := by rw [HLL.out, HQ.out]; exact ho4
      have HCO : Hid (Calls Tryz.prog 82 #[.slice a' q c'] w4 fun e y => CompTold w.heap.size a' c' l' w4 e y) := by
        have := compact_any w4 w.heap.size a' c' l' HO4.out (by rw [HLL.out]; omega)
        rwa [HLL.out] at this
      clear hp hs ho4 hg4 HSO HC HW
      go_wp2_with fail
      refine Calls.mono HCO.out ?_
      rintro e w5 ⟨m, hm, rfl, ho5, hg5⟩
      have HO5 : Hid (w5.ownsRow w.heap.size 69 2 (.slice a' m c') m (itsV (ddT l' l'.length))) := ho5
      have HM : Hid (m = (ddT l' l'.length).length) := hm
      have HG5 : Hid (w.grownBy w5 none) := grown_row HG4.out HO4.out (Nat.le_refl _) hg5
      clear hm ho5 hg5 HCO
      go_wp2_with fail
      go_ret
      refine ⟨ddT l' l'.length, HIC.out, ?_, a', c', by rw [← HM.out]; rfl, by rw [← HM.out]; exact HO5.out, HG5.out⟩
      have h1 := ddT_len l' l'.length
      have h2 := HLL.out
      have h3 := HUB.out
      rw [← HLE.out]
      omega

end Go.Proofs.YthoamlahbnphkaaGreat.J

/-
  append onto a row of one's own, wide, and where the new slice lies.
-/
namespace Go.Proofs.YthoamlahbnphkaaGreat.J
open Go.RowKit Go.Maps Go.Shelf

section
variable {P : Program} (w : World)
theorem run_append_liesW (t ty : TypeId) (base : Nat) (e : TypeId) (i : TypeInfo) (z : Value) (size bytes : Nat) (ht : P.underlying t = some (.slice e)) (hi : P.info? e = some i) (hz : i.zero = some z)
    (hsize : i.size = size) (hby : i.bytes = bytes) (hzs : z.cells.size = size) (hsz : 0 < size)
    (v : Value) (n : Nat) (xs : List Value) (hown : w.ownsRow base e size v n xs)
    (ad : Addr) (m c : Nat) (news : List Value) (hl : news.length = m * size) (hnews : ∀ j u, news[j]? = some u → w.cell? (ad.add j) = some u) (h1 : ∀ u ∈ news, u.oneCell' = true)
    (hm : 0 < m) (h63 : n + m ≤ maxLen) (hbytes : ((n + m) + (n + m) / 4 + 192) * bytes ≤ 281474976710656) (hbase : base ≤ w.heap.size) :
    ∃ g cap w', (Builtin.append_ #[t, t] ty #[v, .slice (some ad) m c]).run P w = .ok (.slice (some ⟨g, 0, none⟩) (n + m) cap) w' ∧
      w'.ownsRow base e size (.slice (some ⟨g, 0, none⟩) (n + m) cap) (n + m) (xs ++ news) ∧ w.grownBy w' v.ownBlock ∧ (v.ownBlock = some g ∨ g = w.heap.size) := by
  obtain ⟨v', w', hr, h2, h3, _⟩ := run_append_own_wide (P := P) w base t ty e i z size bytes ht hi hz hsize hby hzs hsz v n xs hown ad m c news hl hnews h1 h63 hbytes hbase
  obtain ⟨g, cap, rfl, _, hlt⟩ := h2.form (by omega)
  refine ⟨g, cap, w', hr, h2, h3, ?_⟩
  subst hsize
  subst hby
  rcases hown.2 with ⟨rfl, rfl⟩ | ⟨g', cap', cur, rfl, hbg, hg, hnc, hcm, hcs, htake⟩
  · right
    have hr2 := run_append_nil (P := P) w t ty e i z ht hi hz ad m c news hl hnews hm (by simp only [maxLen] at h63; omega) (by have hb := hbytes; simp only [Nat.zero_add] at hb; exact Nat.le_trans (Nat.mul_le_mul_right _ (by omega)) hb)
    rw [hr] at hr2
    simp only [Result.ok.injEq, Value.slice.injEq, Option.some.injEq, Addr.mk.injEq] at hr2
    exact hr2.1.1.1
  · by_cases hroom : n + m ≤ cap'
    · left
      have hfit : n * i.size + news.length ≤ cur.size := by rw [hl, hcs, ← Nat.add_mul]; exact Nat.mul_le_mul_right _ hroom
      have hr2 := run_append_room (P := P) w t ty e i ht hi g' n cap' cur hg ad m c news hl hnews h1 hroom hfit
      rw [hr] at hr2
      simp only [Result.ok.injEq, Value.slice.injEq, Option.some.injEq, Addr.mk.injEq] at hr2
      rw [hr2.1.1.1]; rfl
    · right
      have holds : ∀ j u, xs[j]? = some u → w.cell? ((⟨g', 0, none⟩ : Addr).add j) = some u := hown.cells (g := g') rfl
      have hr2 := run_append_grow (P := P) w t ty e i z ht hi hz ⟨g', 0, none⟩ n cap' xs hown.1 holds ad m c news hl hnews (by omega) (by simp only [maxLen] at h63; omega) (growslice_fits_wide (by omega) hbytes)
      rw [hr] at hr2
      simp only [Result.ok.injEq, Value.slice.injEq, Option.some.injEq, Addr.mk.injEq] at hr2
      exact hr2.1.1.1

theorem wp_append_liesW {o : Oper} {a : Act} {K : Act → World → Prop} {Q : Exit → Act → World → Prop} (s x : Operand) (t : TypeId)
    (ho : o.op = .call { callee := .builtin .append, args := #[s, x], argTypes := #[t, t] })
    (base : Nat) (e : TypeId) (i : TypeInfo) (z : Value) (size bytes : Nat) (ht : P.underlying t = some (.slice e)) (hi : P.info? e = some i) (hz : i.zero = some z)
    (hsize : i.size = size) (hby : i.bytes = bytes) (hzs : z.cells.size = size) (hsz : 0 < size)
    (v : Value) (n : Nat) (xs : List Value) (hs : a.eval s = v) (hown : w.ownsRow base e size v n xs)
    (ad : Addr) (m c : Nat) (news : List Value) (hx : a.eval x = .slice (some ad) m c) (hl : news.length = m * size) (hnews : ∀ j u, news[j]? = some u → w.cell? (ad.add j) = some u) (h1 : ∀ u ∈ news, u.oneCell' = true)
    (hm : 0 < m) (h63 : n + m ≤ maxLen) (hbytes : ((n + m) + (n + m) / 4 + 192) * bytes ≤ 281474976710656) (hbase : base ≤ w.heap.size)
    (h : ∀ g cap w', w'.ownsRow base e size (.slice (some ⟨g, 0, none⟩) (n + m) cap) (n + m) (xs ++ news) → w.grownBy w' v.ownBlock → (v.ownBlock = some g ∨ g = w.heap.size) → K (a.put o.dst (.slice (some ⟨g, 0, none⟩) (n + m) cap)) w') : o.wp P a w K Q := by
  obtain ⟨g, cap, w', hr, h2, h3, h4⟩ := run_append_liesW (P := P) w t o.type base e i z size bytes ht hi hz hsize hby hzs hsz v n xs hown ad m c news hl hnews h1 hm h63 hbytes hbase
  unfold Oper.wp execOp
  simp only [ho, resolve, invoke, builtin, Sem.run_bind, Sem.run_pure, Result.andThen_ok, List.map_toArray, List.map_cons, List.map_nil, hs, hx, hr]
  exact h g cap w' h2 h3 h4

theorem step_append_liesW {ops : Array Oper} {o : Oper} {a : Act} {K : Act → World → Prop} {Q : Exit → Act → World → Prop} {E : Prop} (hgd : o.guard = none) (s x : Operand) (t : TypeId)
    (ho : o.op = .call { callee := .builtin .append, args := #[s, x], argTypes := #[t, t] })
    (base : Nat) (e : TypeId) (i : TypeInfo) (z : Value) (size bytes : Nat) (ht : P.underlying t = some (.slice e)) (hi : P.info? e = some i) (hz : i.zero = some z)
    (hsize : i.size = size) (hby : i.bytes = bytes) (hzs : z.cells.size = size) (hsz : 0 < size)
    (v : Value) (n : Nat) (xs : List Value) (hs : a.eval s = v) (hown : w.ownsRow base e size v n xs)
    (ad : Addr) (m c : Nat) (news : List Value) (hx : a.eval x = .slice (some ad) m c) (hl : news.length = m * size) (hnews : ∀ j u, news[j]? = some u → w.cell? (ad.add j) = some u) (h1 : ∀ u ∈ news, u.oneCell' = true)
    (hm : 0 < m) (h63 : n + m ≤ maxLen) (hbytes : ((n + m) + (n + m) / 4 + 192) * bytes ≤ 281474976710656) (hbase : base ≤ w.heap.size)
    (h : ∀ g cap w', w'.ownsRow base e size (.slice (some ⟨g, 0, none⟩) (n + m) cap) (n + m) (xs ++ news) → w.grownBy w' v.ownBlock → (v.ownBlock = some g ∨ g = w.heap.size) → K (a.put o.dst (.slice (some ⟨g, 0, none⟩) (n + m) cap)) w') :
    if Region.wanted o (yielded ops a.tmps) = true then Oper.wp P o a w K Q else E := by
  have hw : Region.wanted o (yielded ops a.tmps) = true := by simp [Region.wanted, hgd]
  rw [if_pos hw]
  exact wp_append_liesW w s x t ho base e i z size bytes ht hi hz hsize hby hzs hsz v n xs hs hown ad m c news hx hl hnews h1 hm h63 hbytes hbase h
end

end Go.Proofs.YthoamlahbnphkaaGreat.J

/-
  lr0: kernels.
-/
namespace Go.Proofs.YthoamlahbnphkaaGreat.J
open Go.RowKit Go.Maps Go.Shelf

attribute [local go_sem] Oper.semAt_some

/-- The kernel behind s of items in order. -/
def kerT (R : Nat → List Int) (l : List It) (s : Int) : List It := (l.filter fun x => aheadV R x == s).map fun x => (x.1, x.2 + 1)
theorem kerT_append (R : Nat → List Int) (l m : List It) (s : Int) : kerT R (l ++ m) s = kerT R l s ++ kerT R m s := by unfold kerT; rw [List.filter_append, List.map_append]
theorem kerT_one (R : Nat → List Int) (x : It) (s : Int) : kerT R [x] s = if aheadV R x = s then [(x.1, x.2 + 1)] else [] := by
  unfold kerT
  by_cases h : aheadV R x = s
  · simp [h]
  · simp [h]
theorem kerT_len (R : Nat → List Int) (l : List It) (s : Int) : (kerT R l s).length ≤ l.length := by
  unfold kerT
  rw [List.length_map]
  exact List.length_filter_le _ _

/-- While the kernels are laid. -/
structure KnAt (w P X : World) (cs : Array Value) (rb S : Nat) (K : Nat → List It) (ua : Nat → Option Addr) (uc : Nat → Nat) : Prop where
  grown : w.grownBy X none
  from_ : P.grownBy X (some rb)
  box : X.heap[w.heap.size]? = some (.cells cs 27 (0, 0))
  row : ValAt X rb S 62 (fun s => .slice (ua s) (K s).length (uc s))
  own : ∀ s, s < S → X.ownsRow P.heap.size 69 2 (.slice (ua s) (K s).length (uc s)) (K s).length (itsV (K s))
  sep : ∀ s t, s < S → t < S → s ≠ t → (Value.slice (ua s) (K s).length (uc s)).ownBlock = none ∨ (Value.slice (ua s) (K s).length (uc s)).ownBlock ≠ (Value.slice (ua t) (K t).length (uc t)).ownBlock
  lo : w.heap.size < rb ∧ rb < P.heap.size
section
variable {w P X Y Z : World} {cs : Array Value} {rb S : Nat} {K : Nat → List It} {ua : Nat → Option Addr} {uc : Nat → Nat}
theorem KnAt.kept (h : KnAt w P X cs rb S K ua uc) (hg : X.grownBy Y none) : KnAt w P Y cs rb S K ua uc :=
  ⟨grown_trans h.grown hg, CmAt.drawn.grown_two' h.from_ hg, box_kept h.box hg, h.row.kept hg, fun s hs => keep0 (h.own s hs) hg, h.sep, h.lo⟩
theorem KnAt.ph (h : KnAt w P X cs rb S K ua uc) : PhAt w X w.heap.size cs := ⟨h.grown, h.box⟩
theorem KnAt.lst {B c m : Nat} {a : Option Addr} {l : List It} (h : KnAt w P X cs rb S K ua uc) (ho : P.ownsRow B 69 2 (.slice a m c) m (itsV l)) (hr : ∃ cur : Array Value, P.heap[rb]? = some (.cells cur 62 (0, 0))) : X.ownsRow B 69 2 (.slice a m c) m (itsV l) := by
  obtain ⟨cur, hr⟩ := hr
  exact ho.kept h.from_ (owns_nebox ho hr (by decide))
def updL {α : Type} (f : Nat → α) (s : Nat) (x : α) : Nat → α := fun i => if i = s then x else f i
theorem updL_same {α : Type} (f : Nat → α) (s : Nat) (x : α) : updL f s x s = x := if_pos rfl
theorem updL_other {α : Type} (f : Nat → α) {s i : Nat} (x : α) (h : i ≠ s) : updL f s x i = f i := if_neg h
/-- One item more behind s. -/
theorem KnAt.push {s g c : Nat} {x : It} (h : KnAt w P X cs rb S K ua uc) (hs : s < S) (hX : X.grownBy Y none) (hg : Y.grownBy Z (Value.slice (ua s) (K s).length (uc s)).ownBlock) (ho : Z.ownsRow P.heap.size 69 2 (.slice (some ⟨g, 0, none⟩) ((K s).length + 1) c) ((K s).length + 1) (itsV (K s) ++ encIt x)) (hat : (Value.slice (ua s) (K s).length (uc s)).ownBlock = some g ∨ g = Y.heap.size) :
    KnAt w P (Z.setCell ⟨rb, s, none⟩ (.slice (some ⟨g, 0, none⟩) ((K s).length + 1) c)) cs rb S (updL K s (K s ++ [x])) (updL ua s (some ⟨g, 0, none⟩)) (updL uc s c) ∧ Z.cell? ⟨rb, s, none⟩ = some (.slice (ua s) (K s).length (uc s)) ∧ Z.frozen? ⟨rb, s, none⟩ = false := by
  have hY := h.kept hX
  have kp : ∀ (b : Nat) (cs : Array Value) (e : TypeId), e ≠ 69 → Y.heap[b]? = some (.cells cs e (0, 0)) → Z.heap[b]? = some (.cells cs e (0, 0)) := fun b cs e he hb => by
    refine (hg.block b (Array.getElem?_eq_some_iff.1 hb).1 ?_).trans hb
    rcases owns_nebox (hY.own s hs) hb (fun e2 => he e2.symm) with h1 | h1
    · rw [h1]; simp
    · exact fun h2 => h1 h2.symm
  have hrowZ : ValAt Z rb S 62 (fun s => .slice (ua s) (K s).length (uc s)) := kp _ _ _ (by decide) hY.row
  have G : Z.grownBy (Z.setCell ⟨rb, s, none⟩ (.slice (some ⟨g, 0, none⟩) ((K s).length + 1) c)) (some rb) := grown_setCell _ _ _
  have hgP : P.grownBy Z (some rb) := by
    have h1 := hY.from_
    refine ⟨hg.os.trans h1.os, hg.tape.trans h1.tape, hg.output.trans h1.output, Nat.le_trans h1.size hg.size, fun k hk hne => (hg.block k (Nat.lt_of_lt_of_le hk h1.size) ?_).trans (h1.block k hk hne)⟩
    intro e
    have := ((hY.own s hs).lt k e.symm).1
    omega
  have hgw : w.grownBy Z none := by
    have h1 := hY.grown
    refine ⟨hg.os.trans h1.os, hg.tape.trans h1.tape, hg.output.trans h1.output, Nat.le_trans h1.size hg.size, fun k hk hne => (hg.block k (Nat.lt_of_lt_of_le hk h1.size) ?_).trans (h1.block k hk hne)⟩
    intro e
    have h2 := ((hY.own s hs).lt k e.symm).1
    have h3 := h.lo
    omega
  have hl := h.lo
  refine ⟨⟨grown_new hgw G (by omega), CmAt.put.two hgP G, (G.block _ (Array.getElem?_eq_some_iff.1 (kp _ _ _ (by decide) hY.box)).1 (by simp; omega)).trans (kp _ _ _ (by decide) hY.box), (hrowZ.set s _).ext fun i _ => ?_, fun t ht => ?_, fun t u ht hu hne => ?_, h.lo⟩, hrowZ.cell s hs, hrowZ.free s⟩
  · unfold put
    by_cases e : i = s
    · subst e; rw [if_pos rfl, updL_same, updL_same, updL_same]; simp
    · rw [if_neg e, updL_other _ _ e, updL_other _ _ e, updL_other _ _ e]
  · by_cases e : t = s
    · subst e
      rw [updL_same, updL_same, updL_same, itsV_append, List.length_append]
      exact ho.kept G (owns_nebox ho hrowZ (by decide))
    · rw [updL_other _ _ e, updL_other _ _ e, updL_other _ _ e]
      have h1 := (hY.own t ht).kept hg (h.sep t s ht hs e)
      exact h1.kept G (owns_nebox h1 hrowZ (by decide))
  · have key : ∀ t, t < S → t ≠ s → (Value.slice (ua t) (K t).length (uc t)).ownBlock = none ∨ (Value.slice (ua t) (K t).length (uc t)).ownBlock ≠ some g := fun t ht e => by
      rcases hat with h1 | h1
      · rw [← h1]; exact h.sep t s ht hs e
      · cases hb : (Value.slice (ua t) (K t).length (uc t)).ownBlock with
        | none => exact .inl rfl
        | some k =>
          right
          intro h2
          have := ((hY.own t ht).lt k hb).2
          have : k = g := by simpa using h2
          omega
    by_cases e : t = s
    · subst e
      have e2 : u ≠ t := fun h => hne h.symm
      rw [updL_same, updL_same, updL_same, updL_other _ _ e2, updL_other _ _ e2, updL_other _ _ e2]
      right
      rcases key u hu e2 with h1 | h1
      · rw [h1]; simp [Value.ownBlock]
      · exact fun h2 => h1 h2.symm
    · rw [updL_other _ _ e, updL_other _ _ e, updL_other _ _ e]
      by_cases e2 : u = s
      · subst e2
        rw [updL_same, updL_same, updL_same]
        exact key t ht e
      · rw [updL_other _ _ e2, updL_other _ _ e2, updL_other _ _ e2]
        exact h.sep t u ht hu hne
end

end Go.Proofs.YthoamlahbnphkaaGreat.J

/-
  lr0: the walk over the kernels, pure.
-/
namespace Go.Proofs.YthoamlahbnphkaaGreat.J
open Go.RowKit Go.Maps Go.Shelf

/-- The state of a kernel, and the kernels afterwards; none: one too many. -/
def askF (ks : List (List It)) (k : List It) : Option (Nat × List (List It)) := if k ∈ ks then some (ks.idxOf k, ks) else if ks.length < 256 then some (ks.length, ks ++ [k]) else none
/-- The edges of a state, by the symbols below S. -/
def leaveF (G : Nat → List It) (ks : List (List It)) : Nat → Option (List (List It) × List (Nat × Nat))
  | 0 => some (ks, [])
  | s + 1 => match leaveF G ks s with
    | none => none
    | some (ks', ed) => if G s = [] then some (ks', ed) else match askF ks' (G s) with
      | none => none
      | some (t, ks'') => some (ks'', ed ++ [(s, t)])
/-- The automaton, once the states below i have been left. -/
def autoF (G : List It → Nat → List It) (S : Nat) : Nat → Option (List (List It) × List (List (Nat × Nat)))
  | 0 => some ([[(0, 0)]], [])
  | i + 1 => match autoF G S i with
    | none => none
    | some (ks, es) => if i < ks.length then match leaveF (G (ks.getD i [])) ks S with
        | none => none
        | some (ks', ed) => some (ks', es ++ [ed])
      else some (ks, es)

theorem leaveF_none {G : Nat → List It} {ks : List (List It)} {s : Nat} (h : leaveF G ks s = none) : ∀ d, leaveF G ks (s + d) = none
  | 0 => h
  | d + 1 => by
    have := leaveF_none h d
    show leaveF G ks ((s + d) + 1) = none
    unfold leaveF
    rw [this]
theorem autoF_none {G : List It → Nat → List It} {S i : Nat} (h : autoF G S i = none) : ∀ d, autoF G S (i + d) = none
  | 0 => h
  | d + 1 => by
    have := autoF_none h d
    show autoF G S ((i + d) + 1) = none
    unfold autoF
    rw [this]
theorem autoF_stay {G : List It → Nat → List It} {S i : Nat} {ks : List (List It)} {es : List (List (Nat × Nat))} (h : autoF G S i = some (ks, es)) (hi : ks.length ≤ i) : ∀ d, autoF G S (i + d) = some (ks, es)
  | 0 => h
  | d + 1 => by
    have := autoF_stay h hi d
    show autoF G S ((i + d) + 1) = some (ks, es)
    unfold autoF
    rw [this]
    simp only
    rw [if_neg (by omega)]
theorem autoF_step {G : List It → Nat → List It} {S i : Nat} {ks : List (List It)} {es : List (List (Nat × Nat))} (h : autoF G S i = some (ks, es)) (hi : i < ks.length) : autoF G S (i + 1) = match leaveF (G (ks.getD i [])) ks S with | none => none | some (ks', ed) => some (ks', es ++ [ed]) := by
  show (match autoF G S i with | none => none | some (ks, es) => _) = _
  rw [h]
  simp only
  rw [if_pos hi]

/-- What always holds of the kernels: none twice, 256 at most; each is in P. -/
structure KsOK (P : Nat → List It → Prop) (ks : List (List It)) : Prop where
  nodup : ks.Nodup
  le : ks.length ≤ 256
  each : ∀ j, j < ks.length → P j (ks.getD j [])

theorem getD_snoc_old {α : Type} {l : List α} {x d : α} {j : Nat} (h : j < l.length) : (l ++ [x]).getD j d = l.getD j d := by
  rw [List.getD_eq_getElem?_getD, List.getD_eq_getElem?_getD, List.getElem?_append_left h]
theorem getD_snoc_new {α : Type} {l : List α} {x d : α} : (l ++ [x]).getD l.length d = x := by
  rw [List.getD_eq_getElem?_getD, List.getElem?_append_right (Nat.le_refl _), Nat.sub_self]; rfl

theorem getD_prefix {α : Type} {l m : List α} {d : α} {j : Nat} (h : l <+: m) (hj : j < l.length) : m.getD j d = l.getD j d := by
  obtain ⟨t, rfl⟩ := h
  rw [List.getD_eq_getElem?_getD, List.getD_eq_getElem?_getD, List.getElem?_append_left hj]

theorem KsOK.ask {P : Nat → List It → Prop} {ks ks' : List (List It)} {k : List It} {t : Nat} (h : KsOK P ks) (hP : P ks.length k) (e : askF ks k = some (t, ks')) : KsOK P ks' ∧ ks <+: ks' ∧ t < ks'.length ∧ ks'.getD t [] = k := by
  unfold askF at e
  by_cases hk : k ∈ ks
  · rw [if_pos hk] at e
    cases e
    have h1 := List.idxOf_lt_length_iff.2 hk
    refine ⟨h, List.prefix_refl _, h1, ?_⟩
    rw [List.getD_eq_getElem?_getD, List.getElem?_eq_getElem h1]
    simp
  · rw [if_neg hk] at e
    by_cases hl : ks.length < 256
    · rw [if_pos hl] at e
      cases e
      refine ⟨⟨?_, by rw [List.length_append]; exact hl, fun j hj => ?_⟩, List.prefix_append _ _, by rw [List.length_append]; exact Nat.lt_succ_self _, getD_snoc_new⟩
      · rw [List.nodup_append]
        exact ⟨h.nodup, by simp, fun a ha b hb => by rw [List.mem_singleton.1 hb]; intro e; exact hk (e ▸ ha)⟩
      · rw [List.length_append] at hj
        simp only [List.length_singleton] at hj
        by_cases e : j < ks.length
        · rw [getD_snoc_old e]; exact h.each j e
        · have : j = ks.length := by omega
          subst this
          rw [getD_snoc_new]; exact hP
    · rw [if_neg hl] at e; cases e

theorem KsOK.leave {P : Nat → List It → Prop} {G : Nat → List It} {ks : List (List It)} (h : KsOK P ks) (hP : ∀ m s, ks.length ≤ m → P m (G s)) : ∀ (s : Nat) {ks' : List (List It)} {ed : List (Nat × Nat)}, leaveF G ks s = some (ks', ed) → KsOK P ks' ∧ ks <+: ks' ∧ ed.length ≤ s ∧ ∀ x ∈ ed, x.1 < s ∧ x.2 < ks'.length ∧ ks'.getD x.2 [] = G x.1
  | 0, ks', ed, e => by
    unfold leaveF at e
    cases e
    exact ⟨h, List.prefix_refl _, Nat.le_refl _, fun x hx => by cases hx⟩
  | s + 1, ks', ed, e => by
    unfold leaveF at e
    cases h1 : leaveF G ks s with
    | none => rw [h1] at e; cases e
    | some q =>
      obtain ⟨k1, e1⟩ := q
      obtain ⟨i1, i2, i3, i4⟩ := KsOK.leave h hP s h1
      rw [h1] at e
      simp only at e
      by_cases hg : G s = []
      · rw [if_pos hg] at e
        cases e
        exact ⟨i1, i2, by omega, fun x hx => ⟨by have := (i4 x hx).1; omega, (i4 x hx).2⟩⟩
      · rw [if_neg hg] at e
        cases h2 : askF k1 (G s) with
        | none => rw [h2] at e; cases e
        | some q2 =>
          obtain ⟨t, k2⟩ := q2
          rw [h2] at e
          cases e
          obtain ⟨j1, j2, j3, j4⟩ := i1.ask (hP _ s i2.length_le) h2
          refine ⟨j1, i2.trans j2, by rw [List.length_append]; exact Nat.succ_le_succ i3, fun x hx => ?_⟩
          rcases List.mem_append.1 hx with hx | hx
          · obtain ⟨q1, q2, q3⟩ := i4 x hx
            refine ⟨by omega, Nat.lt_of_lt_of_le q2 j2.length_le, ?_⟩
            rw [← q3, getD_prefix j2 q2]
          · rw [List.mem_singleton.1 hx]
            exact ⟨Nat.lt_succ_self _, j3, j4⟩

/-- What always holds of the automaton under way. -/
structure AuOK (P : Nat → List It → Prop) (G : List It → Nat → List It) (S i : Nat) (ks : List (List It)) (es : List (List (Nat × Nat))) : Prop where
  kok : KsOK P ks
  pos : 0 < ks.length
  head : ks.getD 0 [] = [(0, 0)]
  len : es.length = min i ks.length
  edges : ∀ q, q < es.length → (es.getD q []).length ≤ S ∧ ∀ x ∈ es.getD q [], x.1 < S ∧ x.2 < ks.length ∧ ks.getD x.2 [] = G (ks.getD q []) x.1

theorem autoOK {P : Nat → List It → Prop} {G : List It → Nat → List It} {S : Nat} (h0 : P 0 [(0, 0)]) (hG : ∀ i m k s, P i k → i < m → P m (G k s)) : ∀ (i : Nat) {ks : List (List It)} {es : List (List (Nat × Nat))}, autoF G S i = some (ks, es) → AuOK P G S i ks es
  | 0, ks, es, e => by
    unfold autoF at e
    cases e
    refine ⟨⟨by simp, by simp, fun j hj => ?_⟩, by simp, rfl, by simp, fun q hq => absurd hq (Nat.not_lt_zero _)⟩
    have : j = 0 := by simpa using hj
    subst this
    exact h0
  | i + 1, ks', es', e => by
    cases h1 : autoF G S i with
    | none =>
      have := autoF_none h1 1
      rw [this] at e; cases e
    | some q =>
      obtain ⟨ks, es⟩ := q
      have ih := autoOK h0 hG i h1
      by_cases hi : i < ks.length
      · rw [autoF_step h1 hi] at e
        cases h2 : leaveF (G (ks.getD i [])) ks S with
        | none => rw [h2] at e; cases e
        | some q2 =>
          obtain ⟨k2, ed⟩ := q2
          rw [h2] at e
          cases e
          obtain ⟨j1, j2, j3, j4⟩ := ih.kok.leave (fun m s hm => hG i m _ s (ih.kok.each i hi) (by omega)) S h2
          have hle := j2.length_le
          have hes : es.length = i := by rw [ih.len]; omega
          refine ⟨j1, by have := ih.pos; omega, by rw [getD_prefix j2 ih.pos]; exact ih.head, by rw [List.length_append, hes]; simp; omega, fun q hq => ?_⟩
          rw [List.length_append] at hq
          simp only [List.length_singleton] at hq
          by_cases e : q < es.length
          · rw [getD_snoc_old e]
            obtain ⟨a1, a2⟩ := ih.edges q e
            refine ⟨a1, fun x hx => ?_⟩
            obtain ⟨b1, b2, b3⟩ := a2 x hx
            refine ⟨b1, by omega, ?_⟩
            rw [getD_prefix j2 b2, getD_prefix j2 (by omega), b3]
          · have : q = es.length := by omega
            subst this
            rw [getD_snoc_new, hes, getD_prefix j2 hi]
            exact ⟨j3, j4⟩
      · have := autoF_stay h1 (Nat.le_of_not_lt hi) 1
        rw [this] at e
        cases e
        exact ⟨ih.kok, ih.pos, ih.head, by rw [ih.len]; omega, ih.edges⟩

end Go.Proofs.YthoamlahbnphkaaGreat.J
