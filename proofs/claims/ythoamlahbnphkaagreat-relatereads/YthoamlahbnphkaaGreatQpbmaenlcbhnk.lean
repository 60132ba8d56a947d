import Derived.Test.YthoamlahbnphkaaGreatQbiejoknkfead
import Derived.Test.YthoamlahbnphkaaGreatQfpejkjhamhib
import Derived.Test.YthoamlahbnphkaaGreatQppfekmlmdkck
import Derived.Deep.RegionHeld3

/-
  lr0: kernels, walked.
-/
namespace Go.Proofs.YthoamlahbnphkaaGreat.J
open Go.RowKit Go.Maps Go.Shelf

attribute [local go_sem] Oper.semAt_some

theorem infoItems : (Tryz.prog.info? 62).map (fun i => (i.zero, i.size, i.bytes)) = some (some (.slice none 0 0), 1, 24) := by kernel_rfl

/-- What kernels tells. -/
def KerTold (tn n S : Nat) (L : Nat → Int) (R : Nat → List Int) (I : List It) (w : World) (e : Ending) (y : World) : Prop := ∃ (l : List It) (rb : Nat) (ua : Nat → Option Addr) (uc : Nat → Nat), IsClo tn n L R I l ∧ l.length ≤ I.length + 13000 ∧ e = .returned (.slice (some ⟨rb, 0, none⟩) S S) ∧ w.heap.size ≤ rb ∧ ValAt y rb S 62 (fun s => .slice (ua s) (kerT R l (s : Int)).length (uc s)) ∧ (∀ s, s < S → y.ownsRow w.heap.size 69 2 (.slice (ua s) (kerT R l (s : Int)).length (uc s)) (kerT R l (s : Int)).length (itsV (kerT R l (s : Int)))) ∧ w.grownBy y none

set_option maxRecDepth 100000 in
set_option maxHeartbeats 4000000 in
theorem kernels_any (ta na la pa : Option Addr) (tc nc lc pc : Nat) (n : Nat) (L : Nat → Int) (R : Nat → List Int) (ra : Nat → Option Addr) (rc : Nat → Nat) (V : Nat → Int) (st : Int) (w : World) (tn nn ln : Nat) (hP : ProdsAt w pa n L R ra rc V) (hn : n ≤ 97) (hn0 : 0 < n) (htn : tn ≤ 65) (hnn : nn ≤ 65) (hR : ∀ k, k < n → ∀ x ∈ R k, (0 : Int) ≤ x ∧ x < ((tn + nn : Nat) : Int)) (hRb : ∀ k, k < n → (R k).length ≤ 17592186044416) (a : Option Addr) (cap : Nat) (I : List It) (hI : ItsAt w a I) (hnil : a = none → I.length = 0 ∧ cap = 0) (hIb : I.length ≤ 8796093072208) (hit : ∀ x ∈ I, itB n R x = true) :
    Calls Tryz.prog 113 #[.agg #[.slice ta tn tc, .slice na nn nc, .slice la ln lc, .int .i64 st, .slice pa n pc], .slice a I.length cap] w fun e y => KerTold tn n (tn + nn) L R I w e y := by
  obtain ⟨S, hS⟩ : ∃ S, S = tn + nn := ⟨_, rfl⟩
  rw [← hS]
  have hSz : S ≤ 130 := by omega
  have HSY : Hid (∀ X, Calls Tryz.prog 77 #[.agg #[.slice ta tn tc, .slice na nn nc, .slice la ln lc, .int .i64 st, .slice pa n pc]] X fun e y => e = .returned (.int .i64 (S : Int)) ∧ X.grownBy y none) := fun X => by
    refine (symbols_any ta na la pa tc nc lc pc n st X tn nn ln (by omega) (by omega)).mono ?_
    rintro e y ⟨rfl, hg⟩
    exact ⟨by rw [hS, Int.natCast_add], hg⟩
  have HAH : Hid (∀ X x, w.grownBy X none → itB n R x = true → Calls Tryz.prog 78 #[.agg #[.slice ta tn tc, .slice na nn nc, .slice la ln lc, .int .i64 st, .slice pa n pc], .agg #[.int .i64 x.1, .int .i64 x.2]] X fun e y => e = .returned (.int .i64 (aheadV R x)) ∧ X.grownBy y none) := fun X x hX hx => ahead_any ta na la pa tc nc lc pc n L R ra rc V st X tn nn ln (prods_kept hP hX) x hx
  have HCL : Hid (∀ X, w.grownBy X none → Calls Tryz.prog 48 #[.agg #[.slice ta tn tc, .slice na nn nc, .slice la ln lc, .int .i64 st, .slice pa n pc], .slice a I.length cap] X fun e y => CloTold tn n L R I X e y) := fun X hX => closure_any ta na la pa tc nc lc pc n L R ra rc V st X tn nn ln (prods_kept hP hX) hn hn0 htn hnn hR a cap I (hI.kept hX) hnil hIb hit
  have HAR : Hid (∀ x, itB n R x = true → aheadV R x = -1 ∨ ((0 : Int) ≤ aheadV R x ∧ aheadV R x < (S : Int))) := fun x hx => aheadV_range (by rw [hS]; exact hR) hx
  have HIT : Hid (∀ x ∈ I, itB n R x = true) := hit
  have HRB : Hid (∀ x, itB n R x = true → (0 : Int) ≤ x.2 ∧ x.2 ≤ 17592186044416) := fun x hx => by
    unfold itB at hx
    simp only [Bool.and_eq_true, decide_eq_true_eq] at hx
    have := hRb x.1.toNat (by omega)
    omega
  obtain ⟨ll, hle⟩ : ∃ m, m = I.length := ⟨_, rfl⟩
  have HLE : Hid (ll = I.length) := hle
  rw [← hle] at hIb HCL
  rw [← hle]
  have HX0 : Hid (PhAt w (w.alloc (.cells #[.slice ta tn tc, .slice na nn nc, .slice la ln lc, .int .i64 st, .slice pa n pc] 27)) w.heap.size #[.slice ta tn tc, .slice na nn nc, .slice la ln lc, .int .i64 st, .slice pa n pc]) := ⟨World.grownBy_alloc _ _ none, heap_alloc_last w _⟩
  obtain ⟨i0, hi0, hz0, hz1, hz2⟩ := info_parts infoItem
  obtain ⟨i1, hi1, hy0, hy1, hy2⟩ := info_parts infoItems
  clear hP hR hI hit hle hS hnil hRb
  go_enter Tryz.func113, Tryz.ntmps113
  go_wp2_with fail
  refine Calls.mono (HSY.out _) ?_
  rintro e w1 ⟨rfl, hg1⟩
  have HX1 : Hid (PhAt w w1 w.heap.size #[.slice ta tn tc, .slice na nn nc, .slice la ln lc, .int .i64 st, .slice pa n pc]) := HX0.out.kept hg1
  clear hg1 HX0
  go_wp2_with (at_make; refine wpList_make_full _ rfl _ _ 163 rfl w1.heap.size 62 i1 (.slice none 0 0) 1 Tryz.underlying163 hi1 hy0 hy1 .i64 .i64 _ _ S rfl rfl (by simp) (by simp) (by rw [hy2]; omega) (by unfold maxLen; omega) (by simp) ?_)
  intro w2 hown hgrow
  have hval : ValAt w2 w1.heap.size S 62 (fun _ => .slice none 0 0) := made_rowK (B := w1.heap.size) rfl (by simpa [Value.cells] using hown)
  obtain ⟨rb, hrb⟩ : ∃ rb, rb = w1.heap.size := ⟨_, rfl⟩
  rw [← hrb] at hval
  rw [← hrb]
  have HX2 : Hid (PhAt w w2 w.heap.size #[.slice ta tn tc, .slice na nn nc, .slice la ln lc, .int .i64 st, .slice pa n pc]) := HX1.out.kept hgrow
  have HV2 : Hid (ValAt w2 rb S 62 (fun _ => .slice none 0 0)) := hval
  have HRL : Hid (w.heap.size < rb) := by show _ < _; have := (Array.getElem?_eq_some_iff.1 HX1.out.box).1; omega
  clear hown hgrow hval hrb HX1
  obtain ⟨k0, k1, k2, k3, k4⟩ := HX2.out.cells
  go_wp2_with fail
  refine Calls.mono (HCL.out _ HX2.out.grown) ?_
  rintro e P ⟨l, hIC, hll, a3, c3, rfl, ho3, hg3⟩
  have HIC : Hid (IsClo tn n L R I l) := hIC
  have HLL : Hid (l.length ≤ ll + 13000) := by rw [HLE.out]; exact hll
  have HO3 : Hid (P.ownsRow w2.heap.size 69 2 (.slice a3 l.length c3) l.length (itsV l)) := ho3
  have HVP : Hid (ValAt P rb S 62 (fun _ => .slice none 0 0)) := HV2.out.kept hg3
  have HK0 : Hid (KnAt w P P #[.slice ta tn tc, .slice na nn nc, .slice la ln lc, .int .i64 st, .slice pa n pc] rb S (fun s => kerT R (l.take 0) (s : Int)) (fun _ => none) (fun _ => 0)) := by
    refine ⟨grown_trans HX2.out.grown hg3, ⟨rfl, rfl, rfl, Nat.le_refl _, fun _ _ _ => rfl⟩, box_kept HX2.out.box hg3, HVP.out, fun s hs => World.ownsRow_nil _ _ _ _, fun s t _ _ _ => .inl rfl, HRL.out, HVP.out.lt⟩
  have HIM : Hid (∀ x ∈ l, itB n R x = true) := fun x hx => ((hIC.mem x).1 hx).item HIT.out
  obtain ⟨lm, hlm⟩ : ∃ m, m = l.length := ⟨_, rfl⟩
  have HLM : Hid (lm = l.length) := hlm
  rw [← hlm] at HO3 HLL
  rw [← hlm]
  have hlmb : lm ≤ 8796093085208 := by have := HLL.out; omega
  clear hIC hll ho3 hg3 hlm k0 k1 k2 k3 k4 HX2 HV2 HCL
  go_wp2_with fail
  go_loopg [16] lm (fun gk v16 wr => ∃ (k : Nat) (ua : Nat → Option Addr) (uc : Nat → Nat), k ≤ lm ∧ gk = lm - k ∧ v16 = .int .i64 k ∧ KnAt w P wr #[.slice ta tn tc, .slice na nn nc, .slice la ln lc, .int .i64 st, .slice pa n pc] rb S (fun s => kerT R (l.take k) (s : Int)) ua uc)
  case atStart => exact ⟨0, _, _, Nat.zero_le _, rfl, rfl, HK0.out⟩
  case round =>
    obtain ⟨k, ua, uc, hk, hgk, rfl, hK⟩ := hrel
    have HGK : Hid (gk = lm - k) := hgk
    have HK : Hid (KnAt w P wr #[.slice ta tn tc, .slice na nn nc, .slice la ln lc, .int .i64 st, .slice pa n pc] rb S (fun s => kerT R (l.take k) (s : Int)) ua uc) := hK
    clear hgk hK HK0
    by_cases hlt : k < lm
    · have hk0 : (0 : Int) ≤ (k : Int) := by omega
      have hk1 : (k : Int) < (lm : Int) := by omega
      have hkd : decide (k < lm) = true := decide_eq_true hlt
      have hkl : k < l.length := by rw [← HLM.out]; exact hlt
      obtain ⟨gb, rfl, c0, c1⟩ : ∃ gb, a3 = some ⟨gb, 0, none⟩ ∧ wr.cell? ⟨gb, k * 2, none⟩ = some (.int .i64 (l.getD k (0, 0)).1) ∧ wr.cell? ⟨gb, k * 2 + 1, none⟩ = some (.int .i64 (l.getD k (0, 0)).2) := by
        have ho := HK.out.lst HO3.out ⟨_, HVP.out⟩
        rcases ho.2 with ⟨_, h⟩ | ⟨g, cap, cur, hv, hB, hh, _, _, hs, ht⟩
        · omega
        · simp only [Value.slice.injEq] at hv
          refine ⟨g, hv.1, ?_⟩
          obtain ⟨h3, h4⟩ := itsV_at l k hkl
          rw [← ht, List.getElem?_take, if_pos (by omega)] at h3 h4
          rw [cell_of_row _ _ _ _ _ _ hh, cell_of_row _ _ _ _ _ _ hh]
          exact ⟨by simpa using h3, by simpa using h4⟩
      have hmem : l.getD k (0, 0) ∈ l := by rw [List.getD_eq_getElem?_getD, List.getElem?_eq_getElem hkl]; exact List.getElem_mem hkl
      have hxi := HIM.out _ hmem
      have hrg := HAR.out _ hxi
      have hdb := HRB.out _ hxi
      have HTK : Hid (∀ s : Int, kerT R (l.take (k + 1)) s = kerT R (l.take k) s ++ (if aheadV R (l.getD k (0, 0)) = s then [((l.getD k (0, 0)).1, (l.getD k (0, 0)).2 + 1)] else [])) := fun s => by rw [take_at hkl, kerT_append, kerT_one]
      have HAC : Hid (∀ X, wr.grownBy X none → Calls Tryz.prog 78 #[.agg #[.slice ta tn tc, .slice na nn nc, .slice la ln lc, .int .i64 st, .slice pa n pc], .agg #[.int .i64 (l.getD k (0, 0)).1, .int .i64 (l.getD k (0, 0)).2]] X fun e y => e = .returned (.int .i64 (aheadV R (l.getD k (0, 0)))) ∧ X.grownBy y none) := fun X hX => HAH.out X _ (grown_trans HK.out.grown hX) hxi
      obtain ⟨sv, hsv⟩ : ∃ s, s = aheadV R (l.getD k (0, 0)) := ⟨_, rfl⟩
      rw [← hsv] at HAC hrg HTK
      obtain ⟨x, hx⟩ : ∃ x, x = l.getD k (0, 0) := ⟨_, rfl⟩
      rw [← hx] at HAC c0 c1 HTK hdb
      clear hsv hx hxi hmem
      obtain ⟨p, d⟩ := x
      simp only at HAC c0 c1 HTK hdb
      obtain ⟨k0, k1, k2, k3, k4⟩ := (HK.out.kept (World.grownBy_alloc wr (.cells #[.int .i64 p, .int .i64 d] 69) none)).ph.cells
      go_wp2_with fail
      refine Calls.mono (HAC.out _ (World.grownBy_alloc _ _ none)) ?_
      rintro e w5 ⟨rfl, hg5⟩
      have HG5 : Hid (wr.grownBy w5 none) := grown_trans (World.grownBy_alloc _ _ none) hg5
      have HBX : Hid (w5.heap[wr.heap.size]? = some (.cells #[.int .i64 p, .int .i64 d] 69 (0, 0))) := box_kept (heap_alloc_last wr _) hg5
      have HK5 : Hid (KnAt w P w5 #[.slice ta tn tc, .slice na nn nc, .slice la ln lc, .int .i64 st, .slice pa n pc] rb S (fun s => kerT R (l.take k) (s : Int)) ua uc) := HK.out.kept HG5.out
      clear hg5 k0 k1 k2 k3 k4 c0 c1 HAC
      by_cases hs1 : sv = -1
      · subst hs1
        have HNX : Hid (∀ s : Nat, kerT R (l.take (k + 1)) (s : Int) = kerT R (l.take k) (s : Int)) := fun s => by rw [HTK.out, if_neg (by omega), List.append_nil]
        go_wp2_with fail
        go_roundg (lm - (k + 1))
        case measure => have := HGK.out; omega
        case rel =>
          refine ⟨k + 1, ua, uc, by omega, rfl, by go_num, ?_⟩
          have e9 : (fun s : Nat => kerT R (l.take (k + 1)) (s : Int)) = fun s : Nat => kerT R (l.take k) (s : Int) := funext HNX.out
          rw [e9]; exact HK5.out
      · obtain ⟨s, rfl⟩ : ∃ s : Nat, sv = (s : Int) := ⟨sv.toNat, by omega⟩
        have hsS : s < S := by omega
        have hne : ((s : Int) != -1) = true := bne_iff_ne.2 (by omega)
        have hs0 : (0 : Int) ≤ (s : Int) := by omega
        have hsi : (s : Int) < (S : Int) := by omega
        obtain ⟨d2, hd2⟩ : ∃ d2 : Nat, d = (d2 : Int) := ⟨d.toNat, by omega⟩
        subst hd2
        have hd3 : d2 ≤ 17592186044416 := by omega
        have hwr : IntKind.i64.wrap ((d2 : Int) + 1) = (d2 : Int) + 1 := by rw [IntKind.wrap_i64]; omega
        obtain ⟨ks, hks⟩ : ∃ m, m = (kerT R (l.take k) (s : Int)).length := ⟨_, rfl⟩
        have HKS : Hid (ks = (kerT R (l.take k) (s : Int)).length) := hks
        have hksb : ks ≤ 8796093085208 := by
          have h1 := kerT_len R (l.take k) (s : Int)
          have h2 : (l.take k).length ≤ k := by rw [List.length_take]; omega
          omega
        obtain ⟨us, hus⟩ : ∃ m, m = ua s := ⟨_, rfl⟩
        obtain ⟨cs, hcs⟩ : ∃ m, m = uc s := ⟨_, rfl⟩
        have HRC : Hid (∀ X, w5.grownBy X none → X.cell? ⟨rb, s, none⟩ = some (.slice us ks cs) ∧ X.cell? ⟨wr.heap.size, 0, none⟩ = some (.int .i64 p) ∧ X.cell? ⟨wr.heap.size, 1, none⟩ = some (.int .i64 (d2 : Int))) := fun X hX => by
          refine ⟨?_, ?_, ?_⟩
          · rw [hks, hus, hcs]; exact (HK5.out.kept hX).row.cell s hsS
          · rw [cell_of_row _ _ _ _ _ _ (box_kept HBX.out hX)]; rfl
          · rw [cell_of_row _ _ _ _ _ _ (box_kept HBX.out hX)]; rfl
        have HOW : Hid (∀ X, w5.grownBy X none → X.ownsRow P.heap.size 69 2 (.slice us ks cs) ks (itsV (kerT R (l.take k) (s : Int)))) := fun X hX => by
          have := (HK5.out.kept hX).own s hsS
          rwa [← hks, ← hus, ← hcs] at this
        have HPS : Hid (∀ X, w5.grownBy X none → P.heap.size ≤ X.heap.size) := fun X hX => (HK5.out.kept hX).from_.size
        have HFIN : Hid (∀ (Y Z : World) (g c : Nat), w5.grownBy Y none → Y.grownBy Z (Value.slice us ks cs).ownBlock → Z.ownsRow P.heap.size 69 2 (.slice (some ⟨g, 0, none⟩) (ks + 1) c) (ks + 1) (itsV (kerT R (l.take k) (s : Int)) ++ [.int .i64 p, .int .i64 ((d2 : Int) + 1)]) → ((Value.slice us ks cs).ownBlock = some g ∨ g = Y.heap.size) →
            (∃ ua' uc', KnAt w P (Z.setCell ⟨rb, s, none⟩ (.slice (some ⟨g, 0, none⟩) (ks + 1) c)) #[.slice ta tn tc, .slice na nn nc, .slice la ln lc, .int .i64 st, .slice pa n pc] rb S (fun s => kerT R (l.take (k + 1)) (s : Int)) ua' uc') ∧ Z.cell? ⟨rb, s, none⟩ = some (.slice us ks cs) ∧ Z.frozen? ⟨rb, s, none⟩ = false) := fun Y Z g c hY hg ho hat => by
          rw [hks, hus, hcs] at hg hat
          rw [hks] at ho
          obtain ⟨q1, q2, q3⟩ := HK5.out.push (x := (p, (d2 : Int) + 1)) hsS hY hg ho hat
          refine ⟨⟨updL ua s (some ⟨g, 0, none⟩), updL uc s c, ?_⟩, by rw [hks, hus, hcs]; exact q2, q3⟩
          rw [← hks] at q1
          have e9 : updL (fun s : Nat => kerT R (l.take k) (s : Int)) s (kerT R (l.take k) (s : Int) ++ [(p, (d2 : Int) + 1)]) = fun s : Nat => kerT R (l.take (k + 1)) (s : Int) := funext fun t => by
            rw [HTK.out]
            by_cases e : t = s
            · subst e; rw [updL_same, if_pos rfl]
            · rw [updL_other _ _ e, if_neg (by omega), List.append_nil]
          rw [e9] at q1
          exact q1
        obtain ⟨y0, y1, y2⟩ := HRC.out w5 (grown_refl _ _)
        have y3 : ∀ o, (w5.alloc o).cell? ⟨rb, s, none⟩ = some (.slice us ks cs) := fun o => (HRC.out _ (World.grownBy_alloc _ _ none)).1
        obtain ⟨xs, hxs⟩ : ∃ xs, xs = itsV (kerT R (l.take k) (s : Int)) := ⟨_, rfl⟩
        rw [← hxs] at HOW HFIN
        clear hus hcs hks hxs HTK hdb hrg
        go_wp2_with fail
        go_region_law (first
          | (refine step_append_liesW _ rfl (.tmp 30) (.tmp 37) 62 rfl P.heap.size 69 i0 (.agg #[.int .i64 0, .int .i64 0]) 2 16 Tryz.underlying62 hi0 hz0 hz1 hz2 rfl (by decide) (.slice us ks cs) ks xs (by simp [Act.eval]) (HOW.out _ (grown_trans (World.grownBy_alloc _ _ none) (grown_drewN _ 1))) ⟨w5.heap.size, 0, none⟩ 1 1 [.int .i64 p, .int .i64 ((d2 : Int) + 1)] (by simp [Act.eval]) rfl (World.news_of_block (heap_alloc_last w5 _)) (by simp [Value.oneCell']) (by decide) (by unfold maxLen; omega) (by omega) (HPS.out _ (grown_trans (World.grownBy_alloc _ _ none) (grown_drewN _ 1))) ?_; intro g7 c7 wB hoB hgB hat; obtain ⟨q1, q2, q3⟩ := HFIN.out _ wB g7 c7 (grown_trans (World.grownBy_alloc _ _ none) (grown_drewN _ 1)) hgB hoB hat; have HQ1 := show Hid _ from q1; clear q1 hoB hgB hat)
          | fail)
        all_goals go_wp2_with fail
        all_goals go_roundg (lm - (k + 1))
        all_goals first
          | exact (show ∃ (k' : Nat) (ua' : Nat → Option Addr) (uc' : Nat → Nat), _ from (by obtain ⟨ua', uc', h9⟩ := HQ1.out; exact ⟨k + 1, ua', uc', by omega, rfl, by go_num, h9⟩))
          | (have := HGK.out; omega)
    · have hkn : lm = k := by omega
      subst hkn
      have hkd : decide (lm < lm) = false := decide_eq_false (by omega)
      have HTL : Hid (l.take lm = l) := by show _ = _; rw [HLM.out]; exact List.take_length
      rw [HTL.out] at HK
      go_wp2_with fail
      go_ret
      exact ⟨l, rb, ua, uc, HIC.out, by rw [← HLM.out, ← HLE.out]; exact HLL.out, rfl, by have := HRL.out; omega, HK.out.row, fun s hs => by
        have h1 := HK.out.own s hs
        refine ⟨h1.1, ?_⟩
        rcases h1.2 with h | ⟨g, cap, cur, hv, hB, hr⟩
        · exact .inl h
        · exact .inr ⟨g, cap, cur, hv, by have h2 := HK.out.lo; omega, hr⟩, HK.out.grown⟩

end Go.Proofs.YthoamlahbnphkaaGreat.J

/-
  lr0: Closure and Goto.
-/
namespace Go.Proofs.YthoamlahbnphkaaGreat.J
open Go.RowKit Go.Maps Go.Shelf

attribute [local go_sem] Oper.semAt_some

structure MayOK (tn nn n : Nat) (st : Int) (L : Nat → Int) (R : Nat → List Int) (cl : Bool) : Prop where
  t0 : 0 < tn
  tmax : tn ≤ 65
  n0 : 0 < nn
  nmax : nn ≤ 65
  pmax : n ≤ 97
  p0 : 0 < n
  left : ∀ k, k < n → (tn : Int) ≤ L k ∧ L k < ((tn + nn : Nat) : Int)
  right : ∀ k, k < n → ∀ x ∈ R k, (0 : Int) < x ∧ x < ((tn + nn : Nat) : Int)
  start : (tn : Int) ≤ st ∧ st < ((tn + nn : Nat) : Int)
  added : cl = true → L 0 = tn ∧ R 0 = [st]

theorem mayOK_closed {ts : List (ByteArray × Int)} {ns : List ByteArray} {lv : List Int} {st : Int} {n : Nat} {L : Nat → Int} {R : Nat → List Int} {V : Nat → Int} (h : closedOK ts ns lv st n L R V) : MayOK ts.length ns.length n st L R true := by
  obtain ⟨ha, hf⟩ := h
  have hs := hf.start
  unfold isNonI at hs
  refine ⟨hf.terms.1.1, hf.tn, ha.nn, by have := hf.nn; omega, by have := hf.pn; omega, ha.pn, fun k hk => ?_, fun k hk x hx => ?_, by omega, fun _ => ⟨ha.left, ha.right⟩⟩
  · by_cases h0 : k = 0
    · subst h0
      have := ha.left
      have := ha.nn
      omega
    · have := (hf.prods k (by omega) hk).1
      unfold isNonI at this
      omega
  · by_cases h0 : k = 0
    · subst h0
      rw [ha.right] at hx
      simp at hx
      have := hf.terms.1.1
      omega
    · have := (hf.prods k (by omega) hk).2.2 x hx
      unfold isSymI isNonI at this
      have := hf.terms.1.1
      omega

theorem gright {w : World} {pa : Option Addr} {n : Nat} {L : Nat → Int} {R : Nat → List Int} {ra : Nat → Option Addr} {rc : Nat → Nat} {V : Nat → Int} (h : ProdsAt w pa n L R ra rc V) : ∀ k, k < n → (R k).length ≤ 17592186044416 := fun k hk => by
  rcases h with h | ⟨b, off, e, h⟩
  · omega
  · exact (h k hk).2.2.2.2.2

/-- Is x one of S symbols? -/
def symB (S : Nat) (x : Int) : Bool := decide (0 ≤ x) && decide (x < (S : Int))
/-- The answer of Closure and of Goto: a list of items and an error's number. -/
def ItsErr (l : List It) (ec : Int) (w : World) (e : Ending) (y : World) : Prop := ∃ (a : Option Addr) (c : Nat), e = .returned (.tuple #[.slice a l.length c, .int .i64 ec]) ∧ y.ownsRow w.heap.size 69 2 (.slice a l.length c) l.length (itsV l) ∧ w.grownBy y none

section
variable (ta na la pa : Option Addr) (tc nc lc pc : Nat) (ts : List (ByteArray × Int)) (ns : List ByteArray) (lv : List Int) (n : Nat) (L : Nat → Int) (R : Nat → List Int) (ra : Nat → Option Addr) (rc : Nat → Nat) (V : Nat → Int) (st : Int) (w : World) (tn nn ln : Nat) (hlen : ts.length = tn ∧ ns.length = nn ∧ lv.length = ln) (hG : GAt w ta na la pa tc nc lc pc ts ns lv n L R ra rc V) (a : Option Addr) (cap : Nat) (I : List It) (hI : ItsAt w a I)
include hlen hG hI
set_option maxRecDepth 100000 in
theorem closureOk (hIb : I.length ≤ 8796093072208) (hnil : a = none → I.length = 0 ∧ cap = 0) (hc : closedOK ts ns lv st n L R V) (hit : ∀ x ∈ I, itB n R x = true) : Calls Tryz.prog 23 #[.agg #[.slice ta tn tc, .slice na nn nc, .slice la ln lc, .int .i64 st, .slice pa n pc], .slice a I.length cap] w fun e y => ∃ l, IsClo tn n L R I l ∧ l.length ≤ I.length + 13000 ∧ ItsErr l 0 w e y := by
  have hM : MayOK tn nn n st L R true := by obtain ⟨rfl, rfl, rfl⟩ := hlen; exact mayOK_closed hc
  have HCL : Hid (∀ X, w.grownBy X none → Calls Tryz.prog 44 #[.agg #[.slice ta tn tc, .slice na nn nc, .slice la ln lc, .int .i64 st, .slice pa n pc]] X fun e w' => e = .returned (.bool true) ∧ X.grownBy w' none) := fun X hX => by
    have := closed_any ta na la pa tc nc lc pc ts ns lv n L R ra rc V st X (hG.kept hX) true ⟨fun _ => hc, fun _ => rfl⟩
    rwa [hlen.1, hlen.2.1, hlen.2.2] at this
  have HAR : Hid (∀ X, w.grownBy X none → Calls Tryz.prog 47 #[.agg #[.slice ta tn tc, .slice na nn nc, .slice la ln lc, .int .i64 st, .slice pa n pc], .slice a I.length cap] X fun e w' => e = .returned (.bool true) ∧ X.grownBy w' none) := fun X hX => areItems_any ta na la pa tc nc lc pc n L R ra rc V st X tn nn ln (prods_kept hG.prods hX) a cap I (hI.kept hX) (by omega) true ⟨fun _ => hit, fun _ => rfl⟩
  have HCS : Hid (∀ X, w.grownBy X none → Calls Tryz.prog 48 #[.agg #[.slice ta tn tc, .slice na nn nc, .slice la ln lc, .int .i64 st, .slice pa n pc], .slice a I.length cap] X fun e y => CloTold tn n L R I X e y) := fun X hX => closure_any ta na la pa tc nc lc pc n L R ra rc V st X tn nn ln (prods_kept hG.prods hX) hM.pmax hM.p0 hM.tmax hM.nmax (fun k hk x hx => ⟨by have := hM.right k hk x hx; omega, (hM.right k hk x hx).2⟩) a cap I (hI.kept hX) hnil hIb hit
  obtain ⟨m, hm⟩ : ∃ m, m = I.length := ⟨_, rfl⟩
  have HM : Hid (m = I.length) := hm
  rw [← hm] at HAR HCS
  rw [← hm]
  have HX0 : Hid (PhAt w (w.alloc (.cells #[.slice ta tn tc, .slice na nn nc, .slice la ln lc, .int .i64 st, .slice pa n pc] 27)) w.heap.size #[.slice ta tn tc, .slice na nn nc, .slice la ln lc, .int .i64 st, .slice pa n pc]) := ⟨World.grownBy_alloc _ _ none, heap_alloc_last w _⟩
  clear hlen hG hI hIb hc hit hm hnil hM
  go_enter Tryz.func23, Tryz.ntmps23
  go_wp2_with fail
  refine Calls.mono (HCL.out _ HX0.out.grown) ?_
  rintro e w1 ⟨rfl, hg1⟩
  have HX1 : Hid (PhAt w w1 w.heap.size #[.slice ta tn tc, .slice na nn nc, .slice la ln lc, .int .i64 st, .slice pa n pc]) := HX0.out.kept hg1
  clear hg1 HX0
  obtain ⟨k0, k1, k2, k3, k4⟩ := HX1.out.cells
  go_wp2_with fail
  refine Calls.mono (HAR.out _ HX1.out.grown) ?_
  rintro e w2 ⟨rfl, hg2⟩
  have HX2 : Hid (PhAt w w2 w.heap.size #[.slice ta tn tc, .slice na nn nc, .slice la ln lc, .int .i64 st, .slice pa n pc]) := HX1.out.kept hg2
  clear hg2 HX1 k0 k1 k2 k3 k4
  obtain ⟨k0, k1, k2, k3, k4⟩ := HX2.out.cells
  go_wp2_with fail
  refine Calls.mono (HCS.out _ HX2.out.grown) ?_
  rintro e w3 ⟨l, hIC, hll, a3, c3, rfl, ho3, hg3⟩
  have HQ : Hid (IsClo tn n L R I l ∧ l.length ≤ I.length + 13000) := ⟨hIC, hll⟩
  have HO3 : Hid (w3.ownsRow w2.heap.size 69 2 (.slice a3 l.length c3) l.length (itsV l)) := ho3
  have HG3 : Hid (w.grownBy w3 none) := grown_trans HX2.out.grown hg3
  obtain ⟨q, hq⟩ : ∃ q, q = l.length := ⟨_, rfl⟩
  have HQL : Hid (q = l.length) := hq
  rw [← hq]
  clear hIC hll ho3 hg3 hq k0 k1 k2 k3 k4
  go_wp2_with fail
  go_ret2
  refine ⟨l, HQ.out.1, by rw [HM.out]; exact HQ.out.2, a3, c3, by rw [← HQL.out]; rfl, ?_, HG3.out⟩
  have h1 := HO3.out
  have h2 := HX2.out.grown.size
  refine ⟨h1.1, ?_⟩
  rcases h1.2 with h | ⟨g, cap, cur, hv, hB, hr⟩
  · exact .inl h
  · exact .inr ⟨g, cap, cur, hv, by omega, hr⟩

end

end Go.Proofs.YthoamlahbnphkaaGreat.J

/-
  lr0: the maker's leave, walked.
-/
namespace Go.Proofs.YthoamlahbnphkaaGreat.J
open Go.RowKit Go.Maps Go.Shelf

attribute [local go_sem] Oper.semAt_some

theorem infoEdge : (Tryz.prog.info? 115).map (fun i => (i.zero, i.size, i.bytes)) = some (some (.agg #[.int .i64 0, .int .i64 0]), 2, 16) := by kernel_rfl

/-- Edges as pairs of numbers. -/
def edI (ed : List (Nat × Nat)) : List It := ed.map fun x => ((x.1 : Int), (x.2 : Int))
theorem edI_len (ed : List (Nat × Nat)) : (edI ed).length = ed.length := by unfold edI; rw [List.length_map]
theorem edI_snoc (ed : List (Nat × Nat)) (s t : Nat) : edI (ed ++ [(s, t)]) = edI ed ++ [((s : Int), (t : Int))] := by unfold edI; rw [List.map_append]; rfl

/-- What a kernel that is the j-th at most is. -/
def PJ (n : Nat) (R : Nat → List Int) (j : Nat) (k : List It) : Prop := (∀ x ∈ k, itB n R x = true) ∧ k.length ≤ 1 + 13000 * j
theorem kerT_item {n : Nat} {R : Nat → List Int} {l : List It} (h : ∀ x ∈ l, itB n R x = true) {s : Nat} : ∀ x ∈ kerT R l (s : Int), itB n R x = true := by
  intro x hx
  unfold kerT at hx
  obtain ⟨y, hy, rfl⟩ := List.mem_map.1 hx
  obtain ⟨hy1, hy2⟩ := List.mem_filter.1 hy
  have h1 := h y hy1
  have h2 : aheadV R y = (s : Int) := by simpa using hy2
  unfold itB at h1 ⊢
  simp only [Bool.and_eq_true, decide_eq_true_eq] at h1 ⊢
  obtain ⟨⟨⟨a1, a2⟩, a3⟩, a4⟩ := h1
  refine ⟨⟨⟨a1, a2⟩, by omega⟩, ?_⟩
  unfold aheadV at h2
  by_cases e : y.2 = ((R y.1.toNat).length : Int)
  · rw [if_pos e] at h2; omega
  · omega
theorem i64_of {n : Nat} {R : Nat → List Int} {x : It} (hn : n ≤ 97) (hR : ∀ k, k < n → (R k).length ≤ 17592186044416) (h : itB n R x = true) : I64 x := by
  unfold itB at h
  simp only [Bool.and_eq_true, decide_eq_true_eq] at h
  obtain ⟨⟨⟨a1, a2⟩, a3⟩, a4⟩ := h
  have := hR x.1.toNat (by omega)
  constructor
  · exact WalkArith.wf_i64 ⟨by omega, by omega⟩
  · exact WalkArith.wf_i64 ⟨by omega, by omega⟩
theorem PJ.ker {n : Nat} {R : Nat → List Int} {i m : Nat} {l I : List It} {s : Nat} (hI : PJ n R i I) (hl : ∀ x ∈ l, itB n R x = true) (hll : l.length ≤ I.length + 13000) (hm : i < m) : PJ n R m (kerT R l (s : Int)) := by
  refine ⟨kerT_item hl, ?_⟩
  have h1 := kerT_len R l (s : Int)
  have h2 := hI.2
  have h3 : 13000 * (i + 1) ≤ 13000 * m := Nat.mul_le_mul_left _ hm
  omega
theorem leaveF_skip {G : Nat → List It} {ks ks' : List (List It)} {ed : List (Nat × Nat)} {s : Nat} (h : leaveF G ks s = some (ks', ed)) (h0 : G s = []) : leaveF G ks (s + 1) = some (ks', ed) := by
  unfold leaveF
  rw [h]
  simp only
  rw [if_pos h0]
theorem leaveF_push {G : Nat → List It} {ks ks' ks2 : List (List It)} {ed : List (Nat × Nat)} {s t : Nat} (h : leaveF G ks s = some (ks', ed)) (h0 : G s ≠ []) (ha : askF ks' (G s) = some (t, ks2)) : leaveF G ks (s + 1) = some (ks2, ed ++ [(s, t)]) := by
  unfold leaveF
  rw [h]
  simp only
  rw [if_neg h0, ha]
theorem leaveF_full {G : Nat → List It} {ks ks' : List (List It)} {ed : List (Nat × Nat)} {s S : Nat} (h : leaveF G ks s = some (ks', ed)) (h0 : G s ≠ []) (ha : askF ks' (G s) = none) (hs : s < S) : leaveF G ks S = none := by
  have h1 : leaveF G ks (s + 1) = none := by
    unfold leaveF
    rw [h]
    simp only
    rw [if_neg h0, ha]
  have h2 := leaveF_none h1 (S - (s + 1))
  rwa [show s + 1 + (S - (s + 1)) = S by omega] at h2

theorem MkAt.up {w X : World} {mb bm : Nat} {c0 c1 c2 c3 c4 : Value} {ks : List (List It)} {asked : Int} {el : Nat → List It} {E : Nat} (h : MkAt w X mb bm c0 c1 c2 c3 c4 ks asked el E) : MkAt w X mb bm c0 c1 c2 c3 c4 ks asked el X.heap.size := by
  obtain ⟨sa, sc, kv, ev, m, fv, h1, h2⟩ := h
  exact ⟨sa, sc, kv, ev, m, fv, h1.up, h2⟩
theorem MkAt.edged {w X Y : World} {mb bm : Nat} {c0 c1 c2 c3 c4 : Value} {ks : List (List It)} {asked : Int} {el : Nat → List It} {E : Nat} (h : MkAt w X mb bm c0 c1 c2 c3 c4 ks asked el E) {B n : Nat} {v : Value} {xs : List Value} (ho : X.ownsRow B 115 2 v n xs) (hB : E ≤ B) (hw : w.heap.size ≤ B) (hg : X.grownBy Y v.ownBlock) : MkAt w Y mb bm c0 c1 c2 c3 c4 ks asked el E := by
  obtain ⟨sa, sc, kv, ev, m, fv, h1, h2⟩ := h
  exact ⟨sa, sc, kv, ev, m, fv, h1.edged ho hB hw hg, h2⟩
theorem owns_base {X : World} {B B' e s n : Nat} {v : Value} {xs : List Value} (h : X.ownsRow B e s v n xs) (hb : B' ≤ B) : X.ownsRow B' e s v n xs := by
  refine ⟨h.1, ?_⟩
  rcases h.2 with h1 | ⟨g, cap, cur, hv, hB, hr⟩
  · exact .inl h1
  · exact .inr ⟨g, cap, cur, hv, by omega, hr⟩

/-- What leave tells. -/
def LeaveTold (w X : World) (mb bm : Nat) (c0 c1 c2 c3 c4 : Value) (tn n S : Nat) (L : Nat → Int) (R : Nat → List Int) (ks : List (List It)) (asked : Int) (el : Nat → List It) (i : Nat) (e : Ending) (y : World) : Prop :=
  ∃ l, IsClo tn n L R (ks.getD i []) l ∧ l.length ≤ (ks.getD i []).length + 13000 ∧
  ((∃ (ks' : List (List It)) (ed : List (Nat × Nat)) (E : Nat), leaveF (fun s => kerT R l (s : Int)) ks S = some (ks', ed) ∧ e = .returned (.bool true) ∧ MkAt w y mb bm c0 c1 c2 c3 c4 ks' (asked + ed.length) (updL el i (edI ed)) E ∧ KeepT X y)
  ∨ (leaveF (fun s => kerT R l (s : Int)) ks S = none ∧ e = .returned (.bool false) ∧ w.grownBy y none ∧ KeepT X y))

set_option maxRecDepth 100000 in
set_option maxHeartbeats 4000000 in
theorem leave_any (ta na la pa : Option Addr) (tc nc lc pc : Nat) (n : Nat) (L : Nat → Int) (R : Nat → List Int) (ra : Nat → Option Addr) (rc : Nat → Nat) (V : Nat → Int) (st : Int) (w X : World) (tn nn ln : Nat) (hP : ProdsAt w pa n L R ra rc V) (hn : n ≤ 97) (hn0 : 0 < n) (htn : tn ≤ 65) (hnn : nn ≤ 65) (hR : ∀ k, k < n → ∀ x ∈ R k, (0 : Int) ≤ x ∧ x < ((tn + nn : Nat) : Int)) (hRb : ∀ k, k < n → (R k).length ≤ 17592186044416)
    (mb bm : Nat) (ks : List (List It)) (asked : Int) (el : Nat → List It) (E : Nat) (i : Nat) (hM : MkAt w X mb bm (.slice ta tn tc) (.slice na nn nc) (.slice la ln lc) (.int .i64 st) (.slice pa n pc) ks asked el E) (hK : KsOK (PJ n R) ks) (hi : i < ks.length) (ha0 : 0 ≤ asked) (ha1 : asked ≤ 549755813888) (hel : ∀ j, i ≤ j → el j = []) :
    Calls Tryz.prog 73 #[.pointer (some ⟨mb, 0, none⟩), .int .i64 (i : Int)] X fun e y => LeaveTold w X mb bm (.slice ta tn tc) (.slice na nn nc) (.slice la ln lc) (.int .i64 st) (.slice pa n pc) tn n (tn + nn) L R ks asked el i e y := by
  obtain ⟨S, hS⟩ : ∃ S, S = tn + nn := ⟨_, rfl⟩
  rw [← hS]
  have hSz : S ≤ 130 := by omega
  obtain ⟨sa, sc, kv, ev, m, fv, hMP, hmm⟩ := hM
  have hMX := hMP
  obtain ⟨sb, sc2, hse, hscell⟩ := owns_at hMP.row (by omega)
  simp only [Value.slice.injEq] at hse
  obtain ⟨rfl, _, rfl⟩ := hse
  have hr1 := hscell _ _ (stV_at kv ev ks.length i hi).1
  obtain ⟨ka, kc, hkv⟩ := owns_cut (hMP.ker i hi)
  have hkr := hMP.ker i hi
  rw [hkv] at hr1 hkr
  obtain ⟨N, hN⟩ : ∃ n, n = ks.length := ⟨_, rfl⟩
  obtain ⟨q, hq⟩ : ∃ q, q = (ks.getD i []).length := ⟨_, rfl⟩
  have HQ0 : Hid (q = (ks.getD i []).length) := hq
  have hqb : (ks.getD i []).length ≤ 3328001 := by
    have h1 := (hK.each i hi).2
    have h2 := hK.le
    have h3 : 13000 * i ≤ 13000 * 256 := Nat.mul_le_mul_left _ (by omega)
    omega
  have HKE : Hid (∀ Y, X.grownBy Y none → Calls Tryz.prog 113 #[.agg #[.slice ta tn tc, .slice na nn nc, .slice la ln lc, .int .i64 st, .slice pa n pc], .slice ka q kc] Y fun e y => KerTold tn n S L R (ks.getD i []) Y e y) := fun Y hY => by
    rw [hq, hS]
    exact kernels_any ta na la pa tc nc lc pc n L R ra rc V st Y tn nn ln (prods_kept hP (grown_trans hMP.grown hY)) hn hn0 htn hnn hR hRb ka kc (ks.getD i []) (ItsAt.of (keep0 hkr hY)) (fun e => by
      rcases hkr.2 with ⟨h1, h2⟩ | ⟨g, cap, cur, h1, _⟩
      · simp only [Value.slice.injEq] at h1
        exact ⟨h2, h1.2.2⟩
      · simp only [Value.slice.injEq] at h1
        rw [e] at h1
        cases h1.1) (by omega) (hK.each i hi).1
  have HKS : Hid (∀ Y, X.grownBy Y none → (Y.cell? ⟨mb, 0, none⟩ = some (.slice ta tn tc) ∧ Y.cell? ⟨mb, 1, none⟩ = some (.slice na nn nc) ∧ Y.cell? ⟨mb, 2, none⟩ = some (.slice la ln lc) ∧ Y.cell? ⟨mb, 3, none⟩ = some (.int .i64 st) ∧ Y.cell? ⟨mb, 4, none⟩ = some (.slice pa n pc)) ∧ Y.cell? ⟨mb, 5, none⟩ = some (.slice (some ⟨sb, 0, none⟩) N sc) ∧ Y.cell? ⟨sb, i * 2, none⟩ = some (.slice ka q kc)) := fun Y hY => by
    obtain ⟨y0, y1, y2, y3, y4, y5, _⟩ := (hMP.kept hY).cells
    exact ⟨⟨y0, y1, y2, y3, y4⟩, by rw [hN]; exact y5, by rw [hq]; exact hY.cell hr1 (by simp)⟩
  have HMA : Hid (MkAt w X mb bm (.slice ta tn tc) (.slice na nn nc) (.slice la ln lc) (.int .i64 st) (.slice pa n pc) ks asked el X.heap.size) := ⟨_, _, kv, ev, m, fv, hMX.up, hmm⟩
  have HIN : Hid (i < ks.length) := hi
  have hiN : i < N := by rw [hN]; exact hi
  have hi0 : (0 : Int) ≤ (i : Int) := by omega
  have hi1 : (i : Int) < (N : Int) := by omega
  have HK : Hid (KsOK (PJ n R) ks) := hK
  have HEL : Hid (∀ j, i ≤ j → el j = []) := hel
  have HRB : Hid (∀ k, k < n → (R k).length ≤ 17592186044416) := hRb
  have HUP : Hid (X.grownBy X.drew none) := grown_drewN _ 1
  have hN256 : N ≤ 256 := by rw [hN]; exact hK.le
  have HWX : Hid (w.heap.size ≤ X.heap.size) := hMP.grown.size
  clear hP hR hK hel hRb hMP hMX hscell hkr hr1 hkv hq hN hS hi hmm hqb
  go_enter Tryz.func73, Tryz.ntmps73
  go_wp2_with fail
  go_region_held3 (fun Y => (Y.cell? ⟨mb, 0, none⟩ = some (.slice ta tn tc) ∧ Y.cell? ⟨mb, 1, none⟩ = some (.slice na nn nc) ∧ Y.cell? ⟨mb, 2, none⟩ = some (.slice la ln lc) ∧ Y.cell? ⟨mb, 3, none⟩ = some (.int .i64 st) ∧ Y.cell? ⟨mb, 4, none⟩ = some (.slice pa n pc)) ∧ Y.cell? ⟨mb, 5, none⟩ = some (.slice (some ⟨sb, 0, none⟩) N sc) ∧ Y.cell? ⟨sb, i * 2, none⟩ = some (.slice ka q kc)) (first | exact HKS.out _ HUP.out | exact HKS.out _ HG4.out | go_keep)
    ((first
      | (go_at_call 113; refine Calls.mono (HKE.out _ HUP.out) ?_; rintro e P ⟨l, rb, ua, uc, hIC, hll, rfl, hrb, hv, ho, hgP⟩; have HG4 : Hid (X.grownBy P none) := grown_trans HUP.out hgP; have HIC : Hid (IsClo tn n L R (ks.getD i []) l ∧ l.length ≤ (ks.getD i []).length + 13000) := ⟨hIC, hll⟩; have HV : Hid (ValAt P rb S 62 (fun s => .slice (ua s) (kerT R l (s : Int)).length (uc s))) := hv; have HO : Hid (∀ s, s < S → P.ownsRow X.heap.size 69 2 (.slice (ua s) (kerT R l (s : Int)).length (uc s)) (kerT R l (s : Int)).length (itsV (kerT R l (s : Int)))) := ho; clear hIC hll hrb hv ho hgP)
      | fail))
  have HIM : Hid (∀ x ∈ l, itB n R x = true) := fun x hx => ((HIC.out.1.mem x).1 hx).item (HK.out.each i HIN.out).1
  have HLV : Hid (∀ s ks' ed, leaveF (fun s => kerT R l (s : Int)) ks s = some (ks', ed) → KsOK (PJ n R) ks' ∧ ks <+: ks' ∧ ed.length ≤ s) := fun s ks' ed h => by
    obtain ⟨h1, h2, h3, _⟩ := HK.out.leave (G := fun s => kerT R l (s : Int)) (fun m t hm => PJ.ker (HK.out.each i HIN.out) HIM.out HIC.out.2 (Nat.lt_of_lt_of_le HIN.out hm)) s h
    exact ⟨h1, h2, h3⟩
  have HXP : Hid (w.heap.size ≤ P.heap.size) := Nat.le_trans HWX.out HG4.out.size
  have HMP : Hid (MkAt w P mb bm (.slice ta tn tc) (.slice na nn nc) (.slice la ln lc) (.int .i64 st) (.slice pa n pc) ks asked el P.heap.size) := (HMA.out.kept HG4.out).up
  obtain ⟨i3, hi3, hv0, hv1, hv2⟩ := info_parts infoEdge
  go_wp2_with fail
  go_loopg [5, 25] S (fun gk v5 v25 wr => ∃ (s : Nat) (ks' : List (List It)) (ed : List (Nat × Nat)) (em : Nat) (ea : Option Addr) (ec : Nat), s ≤ S ∧ gk = S - s ∧ v25 = .int .i64 s ∧ v5 = .slice ea em ec ∧ em = ed.length ∧ leaveF (fun s => kerT R l (s : Int)) ks s = some (ks', ed) ∧ wr.ownsRow P.heap.size 115 2 (.slice ea em ec) em (itsV (edI ed)) ∧ MkAt w wr mb bm (.slice ta tn tc) (.slice na nn nc) (.slice la ln lc) (.int .i64 st) (.slice pa n pc) ks' (asked + em) el P.heap.size ∧ KeepT P wr)
  case atStart => exact ⟨0, ks, [], 0, none, 0, Nat.zero_le _, rfl, rfl, rfl, rfl, rfl, World.ownsRow_nil _ _ _ _, by simpa using HMP.out, .refl _⟩
  case round =>
    obtain ⟨s, ks', ed, em, ea, ec, hs, hgs, rfl, rfl, hem, hlv, hoe, hmk, hkt⟩ := hrel
    have HGS : Hid (gk = S - s) := hgs
    have HEM : Hid (em = ed.length) := hem
    have HLF : Hid (leaveF (fun s => kerT R l (s : Int)) ks s = some (ks', ed)) := hlv
    have HOE : Hid (wr.ownsRow P.heap.size 115 2 (.slice ea em ec) em (itsV (edI ed))) := hoe
    have HMK : Hid (MkAt w wr mb bm (.slice ta tn tc) (.slice na nn nc) (.slice la ln lc) (.int .i64 st) (.slice pa n pc) ks' (asked + em) el P.heap.size) := hmk
    have HKT : Hid (KeepT P wr) := hkt
    have hems : em ≤ s := by rw [hem]; exact (HLV.out _ _ _ hlv).2.2
    clear hgs hem hlv hoe hmk hkt HMP HMA
    by_cases hlt : s < S
    · have hs0 : (0 : Int) ≤ (s : Int) := by omega
      have hs1 : (s : Int) < (S : Int) := by omega
      have hsd : decide (s < S) = true := decide_eq_true hlt
      have r0 := (HKT.out.val HV.out (by decide) (by decide) (by decide)).cell s hlt
      have hko := HKT.out.owns (HO.out s hlt) (by decide) (by decide) (by decide)
      obtain ⟨K, hK⟩ : ∃ K, K = kerT R l (s : Int) := ⟨_, rfl⟩
      have HKK : Hid (K = kerT R l (s : Int)) := hK
      have hKi : ∀ x ∈ K, itB n R x = true := by rw [hK]; exact kerT_item HIM.out
      have hKl : K.length ≤ 3341001 := by
        rw [hK]
        have h1 := kerT_len R l (s : Int)
        have h2 := HIC.out.2
        have h3 := (HK.out.each i HIN.out).2
        have h4 : 13000 * i ≤ 13000 * 256 := Nat.mul_le_mul_left _ (by omega)
        omega
      rw [← hK] at r0 hko
      clear hK
      cases K with
      | nil =>
        have HLF2 : Hid (leaveF (fun s => kerT R l (s : Int)) ks (s + 1) = some (ks', ed)) := leaveF_skip HLF.out HKK.out.symm
        simp only [List.length_nil] at r0
        clear hko hKi hKl
        go_wp2_with fail
        go_roundg (S - (s + 1))
        case measure => have := HGS.out; omega
        case rel => exact ⟨s + 1, ks', ed, em, ea, ec, by omega, rfl, by go_num, rfl, HEM.out, HLF2.out, HOE.out, HMK.out, HKT.out⟩
      | cons x0 K' =>
        have hI64 : I64 x0 := i64_of hn HRB.out (hKi x0 List.mem_cons_self)
        obtain ⟨hk1, hk2, _⟩ := HLV.out _ _ _ HLF.out
        have hle := hk2.length_le
        obtain ⟨p, d⟩ := x0
        have HC : Hid (Calls Tryz.prog 72 #[.pointer (some ⟨mb, 0, none⟩), .slice (ua s) ((p, d) :: K').length (uc s)] wr fun e y => AskTold w wr mb bm (.slice ta tn tc) (.slice na nn nc) (.slice la ln lc) (.int .i64 st) (.slice pa n pc) ks' (asked + em) el P.heap.size ((p, d) :: K') e y) := by
          have hIL := HIN.out
          refine ask_any w wr mb bm _ _ _ _ _ ks' (asked + em) el P.heap.size ((p, d) :: K') (ua s) (uc s) p d HMK.out (owns_base hko HWX.out) rfl hI64 hk1.le hk1.nodup (fun j hj => ?_) (by omega) (by omega) (by omega) (fun j hj => HEL.out j (by omega))
          have h1 := (hk1.each j hj).2
          have h2 := hk1.le
          have h4 : 13000 * j ≤ 13000 * 256 := Nat.mul_le_mul_left _ (by omega)
          omega
        have HNE : Hid (kerT R l (s : Int) ≠ []) := by show _ ≠ _; rw [← HKK.out]; exact List.cons_ne_nil _ _
        obtain ⟨kl, hkl⟩ : ∃ k, k = ((p, d) :: K').length := ⟨_, rfl⟩
        have hkl0 : ((kl : Int) == 0) = false := beq_eq_false_iff_ne.2 (by rw [hkl, List.length_cons]; omega)
        have hkl1 : (kl == 0) = false := beq_eq_false_iff_ne.2 (by rw [hkl, List.length_cons]; omega)
        rw [← hkl] at r0 HC
        clear hko hKi hKl hI64 hk1 hk2 hle hkl
        go_wp2_with fail
        refine Calls.mono HC.out ?_
        rintro e w2 (⟨t, ks2, ha, rfl, hM2, hT2⟩ | ⟨ha, rfl, hg2, hT2⟩)
        · have HLF2 : Hid (leaveF (fun s => kerT R l (s : Int)) ks (s + 1) = some (ks2, ed ++ [(s, t)])) := leaveF_push HLF.out HNE.out (by show askF ks' (kerT R l (s : Int)) = _; rw [← HKK.out]; exact ha)
          have HM2 : Hid (MkAt w w2 mb bm (.slice ta tn tc) (.slice na nn nc) (.slice la ln lc) (.int .i64 st) (.slice pa n pc) ks2 (asked + em + 1) el P.heap.size) := hM2
          have HT2 : Hid (KeepT P w2) := HKT.out.trans hT2
          have HO2 : Hid (w2.ownsRow P.heap.size 115 2 (.slice ea em ec) em (itsV (edI ed))) := hT2.owns HOE.out (by decide) (by decide) (by decide)
          have hsz : P.heap.size ≤ w2.heap.size := HT2.out.size
          clear ha hM2 hT2 HC r0 HMK HKT HOE
          go_wp2_with (at_builtin; refine wpList_append_lies _ rfl (.tmp 41) (.tmp 45) 65 rfl P.heap.size 115 i3 (.agg #[.int .i64 0, .int .i64 0]) 2 16 Tryz.underlying65 hi3 hv0 hv1 hv2 rfl (by decide) (.slice ea em ec) em (itsV (edI ed)) rfl (HO2.out.alloc _) ⟨w2.heap.size, 0, none⟩ 1 1 [.int .i64 (s : Int), .int .i64 (t : Int)] rfl rfl (World.news_of_block (heap_alloc_last w2 _)) (by simp [Value.oneCell']) (by decide) (by unfold maxLen; omega) (by omega) (by simp; omega) _ rfl ?_)
          intro g7 c7 Z hoZ hgZ _ _
          have HMZ : Hid (MkAt w Z mb bm (.slice ta tn tc) (.slice na nn nc) (.slice la ln lc) (.int .i64 st) (.slice pa n pc) ks2 (asked + em + 1) el P.heap.size) := (HM2.out.kept (World.grownBy_alloc _ _ none)).edged (HO2.out.alloc _) (Nat.le_refl _) HXP.out hgZ
          have HTZ : Hid (KeepT P Z) := KeepT.young (HT2.out.trans (.none (World.grownBy_alloc _ _ none))) (HO2.out.alloc _) hgZ
          have HOZ : Hid (Z.ownsRow P.heap.size 115 2 (.slice (some ⟨g7, 0, none⟩) (em + 1) c7) (em + 1) (itsV (edI (ed ++ [(s, t)])))) := by
            rw [edI_snoc, itsV_append]; exact hoZ
          clear hoZ hgZ HM2 HT2 HO2
          go_wp2_with fail
          go_roundg (S - (s + 1))
          case measure => have := HGS.out; omega
          case rel => exact ⟨s + 1, ks2, ed ++ [(s, t)], em + 1, some ⟨g7, 0, none⟩, c7, by omega, rfl, by go_num, rfl, by rw [HEM.out, List.length_append]; rfl, HLF2.out, HOZ.out, by rw [show asked + ((em + 1 : Nat) : Int) = asked + em + 1 by omega]; exact HMZ.out, HTZ.out⟩
        · have HNO : Hid (leaveF (fun s => kerT R l (s : Int)) ks S = none) := leaveF_full HLF.out HNE.out (by show askF ks' (kerT R l (s : Int)) = _; rw [← HKK.out]; exact ha) hlt
          have HG2 : Hid (w.grownBy w2 none ∧ KeepT X w2) := ⟨hg2, (KeepT.none HG4.out).trans (HKT.out.trans hT2)⟩
          clear ha hg2 hT2 HC r0 HMK HKT HOE
          go_wp2_with fail
          go_ret
          exact ⟨l, HIC.out.1, HIC.out.2, .inr ⟨HNO.out, rfl, HG2.out.1, HG2.out.2⟩⟩
    · have hsS : S = s := by omega
      subst hsS
      have hsd : decide (S < S) = false := decide_eq_false (by omega)
      obtain ⟨hk1, hk2, _⟩ := HLV.out _ _ _ HLF.out
      have hle := hk2.length_le
      have HIL : Hid (i < ks'.length) := Nat.lt_of_lt_of_le HIN.out hle
      obtain ⟨sa9, sc9, kv9, ev9, m9, fv9, hM9, hm9⟩ := HMK.out
      obtain ⟨sb9, sc8, hse, hscell⟩ := owns_at hM9.row (by have := HIL.out; omega)
      simp only [Value.slice.injEq] at hse
      obtain ⟨rfl, _, rfl⟩ := hse
      have r1 := hscell _ _ (stV_at kv9 ev9 ks'.length i HIL.out).2
      have f1 : wr.frozen? ⟨sb9, i * 2 + 1, none⟩ = false := by
        rcases hM9.row.2 with ⟨h1, _⟩ | ⟨g, cap, cur, h1, _, hh, _⟩
        · cases h1
        · simp only [Value.slice.injEq, Option.some.injEq, Addr.mk.injEq] at h1
          obtain ⟨⟨rfl, _⟩, _⟩ := h1
          exact frozen_of_row _ _ _ _ _ hh
      obtain ⟨_, _, _, _, _, y5, _, _, _⟩ := hM9.cells
      have HFN : Hid (MkAt w (wr.setCell ⟨sb9, i * 2 + 1, none⟩ (.slice ea em ec)) mb bm (.slice ta tn tc) (.slice na nn nc) (.slice la ln lc) (.int .i64 st) (.slice pa n pc) ks' (asked + em) (updL el i (edI ed)) wr.heap.size ∧ KeepT X (wr.setCell ⟨sb9, i * 2 + 1, none⟩ (.slice ea em ec))) := by
        have h1 := owns_base HOE.out HXP.out
        have h2 := hM9.setE (ed := edI ed) (v := .slice ea em ec) rfl HIL.out (by rw [edI_len, ← HEM.out]; exact h1) HKT.out.size
        exact ⟨⟨_, _, kv9, _, m9, fv9, h2.1, hm9⟩, (KeepT.none HG4.out).trans (HKT.out.trans h2.2)⟩
      obtain ⟨N9, hN9⟩ : ∃ n, n = ks'.length := ⟨_, rfl⟩
      have hi9 : i < N9 := by rw [hN9]; exact HIL.out
      have hi91 : (i : Int) < (N9 : Int) := by omega
      rw [← hN9] at y5
      clear hk1 hk2 hle hM9 hm9 hscell hN9
      go_wp2_with fail
      go_ret
      exact ⟨l, HIC.out.1, HIC.out.2, .inl ⟨ks', ed, wr.heap.size, HLF.out, rfl, by rw [← HEM.out]; exact HFN.out.1, HFN.out.2⟩⟩

end Go.Proofs.YthoamlahbnphkaaGreat.J

/-
  lr0: the law's small grammar.
-/
namespace Go.Proofs.YthoamlahbnphkaaGreat.J
open Go.RowKit Go.Maps Go.Shelf

attribute [local go_sem] Oper.semAt_some

def kTs : List (ByteArray × Int) := [(⟨#[]⟩, 0), (⟨#[43]⟩, 0), (⟨#[110]⟩, 0)]
def kNs : List ByteArray := [⟨#[]⟩, ⟨#[101]⟩]
def kL (i : Nat) : Int := if i = 0 then 3 else 4
def kR (i : Nat) : List Int := if i = 0 then [4] else if i = 1 then [4, 1, 2] else [2]

theorem boxKept {X Y : World} {b : Nat} {o : Obj} (h : X.heap[b]? = some o) (hg : X.grownBy Y none) : Hid (Y.heap[b]? = some o) := box_kept h hg

theorem infoGramK : (Tryz.prog.info? 27).map (·.size) = some 5 := by kernel_rfl

end Go.Proofs.YthoamlahbnphkaaGreat.J

/-
  lr0: the law's small grammar is closed.
-/
namespace Go.Proofs.YthoamlahbnphkaaGreat.J
open Go.RowKit Go.Maps Go.Shelf

end Go.Proofs.YthoamlahbnphkaaGreat.J

/-
  lr0: the automaton of the law's small grammar, pure.
-/
namespace Go.Proofs.YthoamlahbnphkaaGreat.J
open Go.RowKit Go.Maps Go.Shelf

theorem isClo_mk {tn n : Nat} {L : Nat → Int} {R : Nat → List Int} {I l : List It} (hA : Asc l) (hI : ∀ x ∈ I, x ∈ l) (hl : ∀ x ∈ l, Clo tn n L R I x) (hc : ∀ y ∈ l, ∀ k, k < n → (tn : Int) ≤ aheadV R y → L k = aheadV R y → ((k : Int), (0 : Int)) ∈ l) : IsClo tn n L R I l :=
  ⟨hA, fun x => ⟨hl x, fun h => h (fun y => y ∈ l) hI fun y k hy ht hk hk2 => hc y hy k hk ht hk2⟩⟩
theorem isClo_self {tn n : Nat} {L : Nat → Int} {R : Nat → List Int} {l : List It} (hA : Asc l) (hc : ∀ y ∈ l, aheadV R y < (tn : Int)) : IsClo tn n L R l l :=
  isClo_mk hA (fun _ h => h) (fun _ h => Clo.base h) fun y hy k _ ht _ => absurd (hc y hy) (by omega)

def kCl (k : List It) : List It := if k = [(0, 0)] then [(0, 0), (1, 0), (2, 0)] else k
def kKs : List (List It) := [[(0, 0)], [(2, 1)], [(0, 1), (1, 1)], [(1, 2)], [(1, 3)]]
def kEs : List (List (Nat × Nat)) := [[(2, 1), (4, 2)], [], [(1, 3)], [(2, 4)], []]

end Go.Proofs.YthoamlahbnphkaaGreat.J
