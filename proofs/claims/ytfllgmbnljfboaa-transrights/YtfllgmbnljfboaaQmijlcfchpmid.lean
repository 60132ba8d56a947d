import Derived.Test.YtfllgmbnljfboaaQfmknjepdljbk
import Derived.Test.YtfllgmbnljfboaaQeldmolijcfej

/-
  lr0: kernels, walked.
-/
namespace Go.Proofs.Ytfllgmbnljfboaa.J
open Go.RowKit Go.Maps Go.Shelf

attribute [local go_sem] Oper.semAt_some

theorem infoItems : (Try.prog.info? 48).map (fun i => (i.zero, i.size, i.bytes)) = some (some (.slice none 0 0), 1, 24) := by kernel_rfl

/-- What kernels tells. -/
def KerTold (tn n S : Nat) (L : Nat → Int) (R : Nat → List Int) (I : List It) (w : World) (e : Ending) (y : World) : Prop := ∃ (l : List It) (rb : Nat) (ua : Nat → Option Addr) (uc : Nat → Nat), IsClo tn n L R I l ∧ l.length ≤ I.length + 13000 ∧ e = .returned (.slice (some ⟨rb, 0, none⟩) S S) ∧ w.heap.size ≤ rb ∧ ValAt y rb S 48 (fun s => .slice (ua s) (kerT R l (s : Int)).length (uc s)) ∧ (∀ s, s < S → y.ownsRow w.heap.size 55 2 (.slice (ua s) (kerT R l (s : Int)).length (uc s)) (kerT R l (s : Int)).length (itsV (kerT R l (s : Int)))) ∧ w.grownBy y none

set_option maxRecDepth 100000 in
set_option maxHeartbeats 4000000 in
theorem kernels_any (ta na la pa : Option Addr) (tc nc lc pc : Nat) (n : Nat) (L : Nat → Int) (R : Nat → List Int) (ra : Nat → Option Addr) (rc : Nat → Nat) (V : Nat → Int) (st : Int) (w : World) (tn nn ln : Nat) (hP : ProdsAt w pa n L R ra rc V) (hn : n ≤ 97) (hn0 : 0 < n) (htn : tn ≤ 65) (hnn : nn ≤ 65) (hR : ∀ k, k < n → ∀ x ∈ R k, (0 : Int) ≤ x ∧ x < ((tn + nn : Nat) : Int)) (hLr : ∀ k, k < n → (0 : Int) ≤ L k ∧ L k < ((tn + nn : Nat) : Int)) (hRb : ∀ k, k < n → (R k).length ≤ 17592186044416) (a : Option Addr) (cap : Nat) (I : List It) (hI : ItsAt w a I) (hnil : a = none → I.length = 0 ∧ cap = 0) (hIb : I.length ≤ 8796093072208) (hit : ∀ x ∈ I, itB n R x = true) :
    Calls Try.prog 63 #[.agg #[.slice ta tn tc, .slice na nn nc, .slice la ln lc, .int .i64 st, .slice pa n pc], .slice a I.length cap] w fun e y => KerTold tn n (tn + nn) L R I w e y := by
  obtain ⟨S, hS⟩ : ∃ S, S = tn + nn := ⟨_, rfl⟩
  rw [← hS]
  have hSz : S ≤ 130 := by omega
  have HSY : Hid (∀ X, Calls Try.prog 69 #[.agg #[.slice ta tn tc, .slice na nn nc, .slice la ln lc, .int .i64 st, .slice pa n pc]] X fun e y => e = .returned (.int .i64 (S : Int)) ∧ X.grownBy y none) := fun X => by
    refine (symbols_any ta na la pa tc nc lc pc n st X tn nn ln (by omega) (by omega)).mono ?_
    rintro e y ⟨rfl, hg⟩
    exact ⟨by rw [hS, Int.natCast_add], hg⟩
  have HAH : Hid (∀ X x, w.grownBy X none → itB n R x = true → Calls Try.prog 71 #[.agg #[.slice ta tn tc, .slice na nn nc, .slice la ln lc, .int .i64 st, .slice pa n pc], .agg #[.int .i64 x.1, .int .i64 x.2]] X fun e y => e = .returned (.int .i64 (aheadV R x)) ∧ X.grownBy y none) := fun X x hX hx => ahead_any ta na la pa tc nc lc pc n L R ra rc V st X tn nn ln (prods_kept hP hX) x hx
  have HCL : Hid (∀ X, w.grownBy X none → Calls Try.prog 31 #[.agg #[.slice ta tn tc, .slice na nn nc, .slice la ln lc, .int .i64 st, .slice pa n pc], .slice a I.length cap] X fun e y => CloTold tn n L R I X e y) := fun X hX => closure_any ta na la pa tc nc lc pc n L R ra rc V st X tn nn ln (prods_kept hP hX) hn hn0 htn hnn hR hLr a cap I (hI.kept hX) hnil hIb hit
  have HAR : Hid (∀ x, itB n R x = true → aheadV R x = -1 ∨ ((0 : Int) ≤ aheadV R x ∧ aheadV R x < (S : Int))) := fun x hx => aheadV_range (by rw [hS]; exact hR) hx
  have HIT : Hid (∀ x ∈ I, itB n R x = true) := hit
  have HRB : Hid (∀ x, itB n R x = true → (0 : Int) ≤ x.2 ∧ x.2 ≤ 17592186044416) := fun x hx => by
    unfold itB at hx
    simp only [Bool.and_eq_true, decide_eq_true_eq] at hx
    have := hRb x.1.toNat (by omega)
    omega
  obtain ⟨ll, hle⟩ : ∃ m, m = I.length := ⟨_, rfl⟩
  have HLE : Hid (ll = I.length) := hle
  rw [← hle] at hIb HCL
  rw [← hle]
  have HX0 : Hid (PhAt w (w.alloc (.cells #[.slice ta tn tc, .slice na nn nc, .slice la ln lc, .int .i64 st, .slice pa n pc] 27)) w.heap.size #[.slice ta tn tc, .slice na nn nc, .slice la ln lc, .int .i64 st, .slice pa n pc]) := ⟨World.grownBy_alloc _ _ none, heap_alloc_last w _⟩
  obtain ⟨i0, hi0, hz0, hz1, hz2⟩ := info_parts infoItem
  obtain ⟨i1, hi1, hy0, hy1, hy2⟩ := info_parts infoItems
  clear hP hR hLr hI hit hle hS hnil hRb
  go_enter Try.func63, Try.ntmps63
  go_wp2_with fail
  refine Calls.mono (HSY.out _) ?_
  rintro e w1 ⟨rfl, hg1⟩
  have HX1 : Hid (PhAt w w1 w.heap.size #[.slice ta tn tc, .slice na nn nc, .slice la ln lc, .int .i64 st, .slice pa n pc]) := HX0.out.kept hg1
  clear hg1 HX0
  go_wp2_with (at_make; refine wpList_make_full _ rfl _ _ 115 rfl w1.heap.size 48 i1 (.slice none 0 0) 1 Try.underlying115 hi1 hy0 hy1 .i64 .i64 _ _ S rfl rfl (by simp) (by simp) (by rw [hy2]; omega) (by unfold maxLen; omega) (by simp) ?_)
  intro w2 hown hgrow
  have hval : ValAt w2 w1.heap.size S 48 (fun _ => .slice none 0 0) := made_rowK (B := w1.heap.size) rfl (by simpa [Value.cells] using hown)
  obtain ⟨rb, hrb⟩ : ∃ rb, rb = w1.heap.size := ⟨_, rfl⟩
  rw [← hrb] at hval
  rw [← hrb]
  have HX2 : Hid (PhAt w w2 w.heap.size #[.slice ta tn tc, .slice na nn nc, .slice la ln lc, .int .i64 st, .slice pa n pc]) := HX1.out.kept hgrow
  have HV2 : Hid (ValAt w2 rb S 48 (fun _ => .slice none 0 0)) := hval
  have HRL : Hid (w.heap.size < rb) := by show _ < _; have := (Array.getElem?_eq_some_iff.1 HX1.out.box).1; omega
  clear hown hgrow hval hrb HX1
  obtain ⟨k0, k1, k2, k3, k4⟩ := HX2.out.cells
  go_wp2_with fail
  refine Calls.mono (HCL.out _ HX2.out.grown) ?_
  rintro e P ⟨l, hIC, hll, a3, c3, rfl, ho3, hg3⟩
  have HIC : Hid (IsClo tn n L R I l) := hIC
  have HLL : Hid (l.length ≤ ll + 13000) := by rw [HLE.out]; exact hll
  have HO3 : Hid (P.ownsRow w2.heap.size 55 2 (.slice a3 l.length c3) l.length (itsV l)) := ho3
  have HVP : Hid (ValAt P rb S 48 (fun _ => .slice none 0 0)) := HV2.out.kept hg3
  have HK0 : Hid (KnAt w P P #[.slice ta tn tc, .slice na nn nc, .slice la ln lc, .int .i64 st, .slice pa n pc] rb S (fun s => kerT R (l.take 0) (s : Int)) (fun _ => none) (fun _ => 0)) := by
    refine ⟨grown_trans HX2.out.grown hg3, ⟨rfl, rfl, rfl, Nat.le_refl _, fun _ _ _ => rfl⟩, box_kept HX2.out.box hg3, HVP.out, fun s hs => World.ownsRow_nil _ _ _ _, fun s t _ _ _ => .inl rfl, HRL.out, HVP.out.lt⟩
  have HIM : Hid (∀ x ∈ l, itB n R x = true) := fun x hx => ((hIC.mem x).1 hx).item HIT.out
  obtain ⟨lm, hlm⟩ : ∃ m, m = l.length := ⟨_, rfl⟩
  have HLM : Hid (lm = l.length) := hlm
  rw [← hlm] at HO3 HLL
  rw [← hlm]
  have hlmb : lm ≤ 8796093085208 := by have := HLL.out; omega
  clear hIC hll ho3 hg3 hlm k0 k1 k2 k3 k4 HX2 HV2 HCL
  go_wp2_with fail
  go_loopg [16] lm (fun gk v16 wr => ∃ (k : Nat) (ua : Nat → Option Addr) (uc : Nat → Nat), k ≤ lm ∧ gk = lm - k ∧ v16 = .int .i64 k ∧ KnAt w P wr #[.slice ta tn tc, .slice na nn nc, .slice la ln lc, .int .i64 st, .slice pa n pc] rb S (fun s => kerT R (l.take k) (s : Int)) ua uc)
  case atStart => exact ⟨0, _, _, Nat.zero_le _, rfl, rfl, HK0.out⟩
  case round =>
    obtain ⟨k, ua, uc, hk, hgk, rfl, hK⟩ := hrel
    have HGK : Hid (gk = lm - k) := hgk
    have HK : Hid (KnAt w P wr #[.slice ta tn tc, .slice na nn nc, .slice la ln lc, .int .i64 st, .slice pa n pc] rb S (fun s => kerT R (l.take k) (s : Int)) ua uc) := hK
    clear hgk hK HK0
    by_cases hlt : k < lm
    · have hk0 : (0 : Int) ≤ (k : Int) := by omega
      have hk1 : (k : Int) < (lm : Int) := by omega
      have hkd : decide (k < lm) = true := decide_eq_true hlt
      have hkl : k < l.length := by rw [← HLM.out]; exact hlt
      obtain ⟨gb, rfl, c0, c1⟩ : ∃ gb, a3 = some ⟨gb, 0, none⟩ ∧ wr.cell? ⟨gb, k * 2, none⟩ = some (.int .i64 (l.getD k (0, 0)).1) ∧ wr.cell? ⟨gb, k * 2 + 1, none⟩ = some (.int .i64 (l.getD k (0, 0)).2) := by
        have ho := HK.out.lst HO3.out ⟨_, HVP.out⟩
        rcases ho.2 with ⟨_, h⟩ | ⟨g, cap, cur, hv, hB, hh, _, _, hs, ht⟩
        · omega
        · simp only [Value.slice.injEq] at hv
          refine ⟨g, hv.1, ?_⟩
          obtain ⟨h3, h4⟩ := itsV_at l k hkl
          rw [← ht, List.getElem?_take, if_pos (by omega)] at h3 h4
          rw [cell_of_row _ _ _ _ _ _ hh, cell_of_row _ _ _ _ _ _ hh]
          exact ⟨by simpa using h3, by simpa using h4⟩
      have hmem : l.getD k (0, 0) ∈ l := by rw [List.getD_eq_getElem?_getD, List.getElem?_eq_getElem hkl]; exact List.getElem_mem hkl
      have hxi := HIM.out _ hmem
      have hrg := HAR.out _ hxi
      have hdb := HRB.out _ hxi
      have HTK : Hid (∀ s : Int, kerT R (l.take (k + 1)) s = kerT R (l.take k) s ++ (if aheadV R (l.getD k (0, 0)) = s then [((l.getD k (0, 0)).1, (l.getD k (0, 0)).2 + 1)] else [])) := fun s => by rw [take_at hkl, kerT_append, kerT_one]
      have HAC : Hid (∀ X, wr.grownBy X none → Calls Try.prog 71 #[.agg #[.slice ta tn tc, .slice na nn nc, .slice la ln lc, .int .i64 st, .slice pa n pc], .agg #[.int .i64 (l.getD k (0, 0)).1, .int .i64 (l.getD k (0, 0)).2]] X fun e y => e = .returned (.int .i64 (aheadV R (l.getD k (0, 0)))) ∧ X.grownBy y none) := fun X hX => HAH.out X _ (grown_trans HK.out.grown hX) hxi
      obtain ⟨sv, hsv⟩ : ∃ s, s = aheadV R (l.getD k (0, 0)) := ⟨_, rfl⟩
      rw [← hsv] at HAC hrg HTK
      obtain ⟨x, hx⟩ : ∃ x, x = l.getD k (0, 0) := ⟨_, rfl⟩
      rw [← hx] at HAC c0 c1 HTK hdb
      clear hsv hx hxi hmem
      obtain ⟨p, d⟩ := x
      simp only at HAC c0 c1 HTK hdb
      obtain ⟨k0, k1, k2, k3, k4⟩ := (HK.out.kept (World.grownBy_alloc wr (.cells #[.int .i64 p, .int .i64 d] 55) none)).ph.cells
      go_wp2_with fail
      refine Calls.mono (HAC.out _ (World.grownBy_alloc _ _ none)) ?_
      rintro e w5 ⟨rfl, hg5⟩
      have HG5 : Hid (wr.grownBy w5 none) := grown_trans (World.grownBy_alloc _ _ none) hg5
      have HBX : Hid (w5.heap[wr.heap.size]? = some (.cells #[.int .i64 p, .int .i64 d] 55 (0, 0))) := box_kept (heap_alloc_last wr _) hg5
      have HK5 : Hid (KnAt w P w5 #[.slice ta tn tc, .slice na nn nc, .slice la ln lc, .int .i64 st, .slice pa n pc] rb S (fun s => kerT R (l.take k) (s : Int)) ua uc) := HK.out.kept HG5.out
      clear hg5 k0 k1 k2 k3 k4 c0 c1 HAC
      by_cases hs1 : sv = -1
      · subst hs1
        have HNX : Hid (∀ s : Nat, kerT R (l.take (k + 1)) (s : Int) = kerT R (l.take k) (s : Int)) := fun s => by rw [HTK.out, if_neg (by omega), List.append_nil]
        go_wp2_with fail
        go_roundg (lm - (k + 1))
        case measure => have := HGK.out; omega
        case rel =>
          refine ⟨k + 1, ua, uc, by omega, rfl, by go_num, ?_⟩
          have e9 : (fun s : Nat => kerT R (l.take (k + 1)) (s : Int)) = fun s : Nat => kerT R (l.take k) (s : Int) := funext HNX.out
          rw [e9]; exact HK5.out
      · obtain ⟨s, rfl⟩ : ∃ s : Nat, sv = (s : Int) := ⟨sv.toNat, by omega⟩
        have hsS : s < S := by omega
        have hne : ((s : Int) != -1) = true := bne_iff_ne.2 (by omega)
        have hs0 : (0 : Int) ≤ (s : Int) := by omega
        have hsi : (s : Int) < (S : Int) := by omega
        obtain ⟨d2, hd2⟩ : ∃ d2 : Nat, d = (d2 : Int) := ⟨d.toNat, by omega⟩
        subst hd2
        have hd3 : d2 ≤ 17592186044416 := by omega
        have hwr : IntKind.i64.wrap ((d2 : Int) + 1) = (d2 : Int) + 1 := by rw [IntKind.wrap_i64]; omega
        obtain ⟨ks, hks⟩ : ∃ m, m = (kerT R (l.take k) (s : Int)).length := ⟨_, rfl⟩
        have HKS : Hid (ks = (kerT R (l.take k) (s : Int)).length) := hks
        have hksb : ks ≤ 8796093085208 := by
          have h1 := kerT_len R (l.take k) (s : Int)
          have h2 : (l.take k).length ≤ k := by rw [List.length_take]; omega
          omega
        obtain ⟨us, hus⟩ : ∃ m, m = ua s := ⟨_, rfl⟩
        obtain ⟨cs, hcs⟩ : ∃ m, m = uc s := ⟨_, rfl⟩
        have HRC : Hid (∀ X, w5.grownBy X none → X.cell? ⟨rb, s, none⟩ = some (.slice us ks cs) ∧ X.cell? ⟨wr.heap.size, 0, none⟩ = some (.int .i64 p) ∧ X.cell? ⟨wr.heap.size, 1, none⟩ = some (.int .i64 (d2 : Int))) := fun X hX => by
          refine ⟨?_, ?_, ?_⟩
          · rw [hks, hus, hcs]; exact (HK5.out.kept hX).row.cell s hsS
          · rw [cell_of_row _ _ _ _ _ _ (box_kept HBX.out hX)]; rfl
          · rw [cell_of_row _ _ _ _ _ _ (box_kept HBX.out hX)]; rfl
        have HOW : Hid (∀ X, w5.grownBy X none → X.ownsRow P.heap.size 55 2 (.slice us ks cs) ks (itsV (kerT R (l.take k) (s : Int)))) := fun X hX => by
          have := (HK5.out.kept hX).own s hsS
          rwa [← hks, ← hus, ← hcs] at this
        have HPS : Hid (∀ X, w5.grownBy X none → P.heap.size ≤ X.heap.size) := fun X hX => (HK5.out.kept hX).from_.size
        have HFIN : Hid (∀ (Y Z : World) (g c : Nat), w5.grownBy Y none → Y.grownBy Z (Value.slice us ks cs).ownBlock → Z.ownsRow P.heap.size 55 2 (.slice (some ⟨g, 0, none⟩) (ks + 1) c) (ks + 1) (itsV (kerT R (l.take k) (s : Int)) ++ [.int .i64 p, .int .i64 ((d2 : Int) + 1)]) → ((Value.slice us ks cs).ownBlock = some g ∨ g = Y.heap.size) →
            (∃ ua' uc', KnAt w P (Z.setCell ⟨rb, s, none⟩ (.slice (some ⟨g, 0, none⟩) (ks + 1) c)) #[.slice ta tn tc, .slice na nn nc, .slice la ln lc, .int .i64 st, .slice pa n pc] rb S (fun s => kerT R (l.take (k + 1)) (s : Int)) ua' uc') ∧ Z.cell? ⟨rb, s, none⟩ = some (.slice us ks cs) ∧ Z.frozen? ⟨rb, s, none⟩ = false) := fun Y Z g c hY hg ho hat => by
          rw [hks, hus, hcs] at hg hat
          rw [hks] at ho
          obtain ⟨q1, q2, q3⟩ := HK5.out.push (x := (p, (d2 : Int) + 1)) hsS hY hg ho hat
          refine ⟨⟨updL ua s (some ⟨g, 0, none⟩), updL uc s c, ?_⟩, by rw [hks, hus, hcs]; exact q2, q3⟩
          rw [← hks] at q1
          have e9 : updL (fun s : Nat => kerT R (l.take k) (s : Int)) s (kerT R (l.take k) (s : Int) ++ [(p, (d2 : Int) + 1)]) = fun s : Nat => kerT R (l.take (k + 1)) (s : Int) := funext fun t => by
            rw [HTK.out]
            by_cases e : t = s
            · subst e; rw [updL_same, if_pos rfl]
            · rw [updL_other _ _ e, if_neg (by omega), List.append_nil]
          rw [e9] at q1
          exact q1
        obtain ⟨y0, y1, y2⟩ := HRC.out w5 (grown_refl _ _)
        have y3 : ∀ o, (w5.alloc o).cell? ⟨rb, s, none⟩ = some (.slice us ks cs) := fun o => (HRC.out _ (World.grownBy_alloc _ _ none)).1
        obtain ⟨xs, hxs⟩ : ∃ xs, xs = itsV (kerT R (l.take k) (s : Int)) := ⟨_, rfl⟩
        rw [← hxs] at HOW HFIN
        clear hus hcs hks hxs HTK hdb hrg
        go_wp2_with fail
        go_region_law (first
          | (refine step_append_liesW _ rfl (.tmp 30) (.tmp 37) 48 rfl P.heap.size 55 i0 (.agg #[.int .i64 0, .int .i64 0]) 2 16 Try.underlying48 hi0 hz0 hz1 hz2 rfl (by decide) (.slice us ks cs) ks xs (by simp [Act.eval]) (HOW.out _ (grown_trans (World.grownBy_alloc _ _ none) (grown_drewN _ 1))) ⟨w5.heap.size, 0, none⟩ 1 1 [.int .i64 p, .int .i64 ((d2 : Int) + 1)] (by simp [Act.eval]) rfl (World.news_of_block (heap_alloc_last w5 _)) (by simp [Value.oneCell']) (by decide) (by unfold maxLen; omega) (by omega) (HPS.out _ (grown_trans (World.grownBy_alloc _ _ none) (grown_drewN _ 1))) ?_; intro g7 c7 wB hoB hgB hat; obtain ⟨q1, q2, q3⟩ := HFIN.out _ wB g7 c7 (grown_trans (World.grownBy_alloc _ _ none) (grown_drewN _ 1)) hgB hoB hat; have HQ1 := show Hid _ from q1; clear q1 hoB hgB hat)
          | fail)
        all_goals go_wp2_with fail
        all_goals go_roundg (lm - (k + 1))
        all_goals first
          | exact (show ∃ (k' : Nat) (ua' : Nat → Option Addr) (uc' : Nat → Nat), _ from (by obtain ⟨ua', uc', h9⟩ := HQ1.out; exact ⟨k + 1, ua', uc', by omega, rfl, by go_num, h9⟩))
          | (have := HGK.out; omega)
    · have hkn : lm = k := by omega
      subst hkn
      have hkd : decide (lm < lm) = false := decide_eq_false (by omega)
      have HTL : Hid (l.take lm = l) := by show _ = _; rw [HLM.out]; exact List.take_length
      rw [HTL.out] at HK
      go_wp2_with fail
      go_ret
      exact ⟨l, rb, ua, uc, HIC.out, by rw [← HLM.out, ← HLE.out]; exact HLL.out, rfl, by have := HRL.out; omega, HK.out.row, fun s hs => by
        have h1 := HK.out.own s hs
        refine ⟨h1.1, ?_⟩
        rcases h1.2 with h | ⟨g, cap, cur, hv, hB, hr⟩
        · exact .inl h
        · exact .inr ⟨g, cap, cur, hv, by have h2 := HK.out.lo; omega, hr⟩, HK.out.grown⟩

end Go.Proofs.Ytfllgmbnljfboaa.J

/-
  lr0: Closure and Goto.
-/
namespace Go.Proofs.Ytfllgmbnljfboaa.J
open Go.RowKit Go.Maps Go.Shelf

attribute [local go_sem] Oper.semAt_some

structure MayOK (tn nn n : Nat) (st : Int) (L : Nat → Int) (R : Nat → List Int) (cl : Bool) : Prop where
  t0 : 0 < tn
  tmax : tn ≤ 65
  n0 : 0 < nn
  nmax : nn ≤ 65
  pmax : n ≤ 97
  p0 : 0 < n
  left : ∀ k, k < n → (tn : Int) ≤ L k ∧ L k < ((tn + nn : Nat) : Int)
  right : ∀ k, k < n → ∀ x ∈ R k, (0 : Int) < x ∧ x < ((tn + nn : Nat) : Int)
  start : (tn : Int) ≤ st ∧ st < ((tn + nn : Nat) : Int)
  added : cl = true → L 0 = tn ∧ R 0 = [st]

theorem mayOK_closed {ts : List (ByteArray × Int)} {ns : List ByteArray} {lv : List Int} {st : Int} {n : Nat} {L : Nat → Int} {R : Nat → List Int} {V : Nat → Int} (h : closedOK ts ns lv st n L R V) : MayOK ts.length ns.length n st L R true := by
  obtain ⟨ha, hf⟩ := h
  have hs := hf.start
  unfold isNonI at hs
  refine ⟨hf.terms.1.1, hf.tn, ha.nn, by have := hf.nn; omega, by have := hf.pn; omega, ha.pn, fun k hk => ?_, fun k hk x hx => ?_, by omega, fun _ => ⟨ha.left, ha.right⟩⟩
  · by_cases h0 : k = 0
    · subst h0
      have := ha.left
      have := ha.nn
      omega
    · have := (hf.prods k (by omega) hk).1
      unfold isNonI at this
      omega
  · by_cases h0 : k = 0
    · subst h0
      rw [ha.right] at hx
      simp at hx
      have := hf.terms.1.1
      omega
    · have := (hf.prods k (by omega) hk).2.2 x hx
      unfold isSymI isNonI at this
      have := hf.terms.1.1
      omega

theorem gright {w : World} {pa : Option Addr} {n : Nat} {L : Nat → Int} {R : Nat → List Int} {ra : Nat → Option Addr} {rc : Nat → Nat} {V : Nat → Int} (h : ProdsAt w pa n L R ra rc V) : ∀ k, k < n → (R k).length ≤ 17592186044416 := fun k hk => by
  rcases h with h | ⟨b, off, e, h⟩
  · omega
  · exact (h k hk).2.2.2.2.2

/-- Is x one of S symbols? -/
def symB (S : Nat) (x : Int) : Bool := decide (0 ≤ x) && decide (x < (S : Int))
/-- The answer of Closure and of Goto: a list of items and an error's number. -/
def ItsErr (l : List It) (ec : Int) (w : World) (e : Ending) (y : World) : Prop := ∃ (a : Option Addr) (c : Nat), e = .returned (.tuple #[.slice a l.length c, .int .i64 ec]) ∧ y.ownsRow w.heap.size 55 2 (.slice a l.length c) l.length (itsV l) ∧ w.grownBy y none

section
variable (ta na la pa : Option Addr) (tc nc lc pc : Nat) (ts : List (ByteArray × Int)) (ns : List ByteArray) (lv : List Int) (n : Nat) (L : Nat → Int) (R : Nat → List Int) (ra : Nat → Option Addr) (rc : Nat → Nat) (V : Nat → Int) (st : Int) (w : World) (tn nn ln : Nat) (hlen : ts.length = tn ∧ ns.length = nn ∧ lv.length = ln) (hG : GAt w ta na la pa tc nc lc pc ts ns lv n L R ra rc V) (a : Option Addr) (cap : Nat) (I : List It) (hI : ItsAt w a I)
include hlen hG hI
set_option maxRecDepth 100000 in
theorem closureOk (hIb : I.length ≤ 8796093072208) (hnil : a = none → I.length = 0 ∧ cap = 0) (hc : closedOK ts ns lv st n L R V) (hit : ∀ x ∈ I, itB n R x = true) : Calls Try.prog 15 #[.agg #[.slice ta tn tc, .slice na nn nc, .slice la ln lc, .int .i64 st, .slice pa n pc], .slice a I.length cap] w fun e y => ∃ l, IsClo tn n L R I l ∧ l.length ≤ I.length + 13000 ∧ ItsErr l 0 w e y := by
  have hM : MayOK tn nn n st L R true := by obtain ⟨rfl, rfl, rfl⟩ := hlen; exact mayOK_closed hc
  have HCL : Hid (∀ X, w.grownBy X none → Calls Try.prog 26 #[.agg #[.slice ta tn tc, .slice na nn nc, .slice la ln lc, .int .i64 st, .slice pa n pc]] X fun e w' => e = .returned (.bool true) ∧ X.grownBy w' none) := fun X hX => by
    have := closed_any ta na la pa tc nc lc pc ts ns lv n L R ra rc V st X (hG.kept hX) true ⟨fun _ => hc, fun _ => rfl⟩
    rwa [hlen.1, hlen.2.1, hlen.2.2] at this
  have HAR : Hid (∀ X, w.grownBy X none → Calls Try.prog 30 #[.agg #[.slice ta tn tc, .slice na nn nc, .slice la ln lc, .int .i64 st, .slice pa n pc], .slice a I.length cap] X fun e w' => e = .returned (.bool true) ∧ X.grownBy w' none) := fun X hX => areItems_any ta na la pa tc nc lc pc n L R ra rc V st X tn nn ln (prods_kept hG.prods hX) a cap I (hI.kept hX) (by omega) true ⟨fun _ => hit, fun _ => rfl⟩
  have HCS : Hid (∀ X, w.grownBy X none → Calls Try.prog 31 #[.agg #[.slice ta tn tc, .slice na nn nc, .slice la ln lc, .int .i64 st, .slice pa n pc], .slice a I.length cap] X fun e y => CloTold tn n L R I X e y) := fun X hX => closure_any ta na la pa tc nc lc pc n L R ra rc V st X tn nn ln (prods_kept hG.prods hX) hM.pmax hM.p0 hM.tmax hM.nmax (fun k hk x hx => ⟨by have := hM.right k hk x hx; omega, (hM.right k hk x hx).2⟩) (fun k hk => ⟨by have := hM.left k hk; omega, (hM.left k hk).2⟩) a cap I (hI.kept hX) hnil hIb hit
  obtain ⟨m, hm⟩ : ∃ m, m = I.length := ⟨_, rfl⟩
  have HM : Hid (m = I.length) := hm
  rw [← hm] at HAR HCS
  rw [← hm]
  have HX0 : Hid (PhAt w (w.alloc (.cells #[.slice ta tn tc, .slice na nn nc, .slice la ln lc, .int .i64 st, .slice pa n pc] 27)) w.heap.size #[.slice ta tn tc, .slice na nn nc, .slice la ln lc, .int .i64 st, .slice pa n pc]) := ⟨World.grownBy_alloc _ _ none, heap_alloc_last w _⟩
  clear hlen hG hI hIb hc hit hm hnil hM
  go_enter Try.func15, Try.ntmps15
  go_wp2_with fail
  refine Calls.mono (HCL.out _ HX0.out.grown) ?_
  rintro e w1 ⟨rfl, hg1⟩
  have HX1 : Hid (PhAt w w1 w.heap.size #[.slice ta tn tc, .slice na nn nc, .slice la ln lc, .int .i64 st, .slice pa n pc]) := HX0.out.kept hg1
  clear hg1 HX0
  obtain ⟨k0, k1, k2, k3, k4⟩ := HX1.out.cells
  go_wp2_with fail
  refine Calls.mono (HAR.out _ HX1.out.grown) ?_
  rintro e w2 ⟨rfl, hg2⟩
  have HX2 : Hid (PhAt w w2 w.heap.size #[.slice ta tn tc, .slice na nn nc, .slice la ln lc, .int .i64 st, .slice pa n pc]) := HX1.out.kept hg2
  clear hg2 HX1 k0 k1 k2 k3 k4
  obtain ⟨k0, k1, k2, k3, k4⟩ := HX2.out.cells
  go_wp2_with fail
  refine Calls.mono (HCS.out _ HX2.out.grown) ?_
  rintro e w3 ⟨l, hIC, hll, a3, c3, rfl, ho3, hg3⟩
  have HQ : Hid (IsClo tn n L R I l ∧ l.length ≤ I.length + 13000) := ⟨hIC, hll⟩
  have HO3 : Hid (w3.ownsRow w2.heap.size 55 2 (.slice a3 l.length c3) l.length (itsV l)) := ho3
  have HG3 : Hid (w.grownBy w3 none) := grown_trans HX2.out.grown hg3
  obtain ⟨q, hq⟩ : ∃ q, q = l.length := ⟨_, rfl⟩
  have HQL : Hid (q = l.length) := hq
  rw [← hq]
  clear hIC hll ho3 hg3 hq k0 k1 k2 k3 k4
  go_wp2_with fail
  go_ret2
  refine ⟨l, HQ.out.1, by rw [HM.out]; exact HQ.out.2, a3, c3, by rw [← HQL.out]; rfl, ?_, HG3.out⟩
  have h1 := HO3.out
  have h2 := HX2.out.grown.size
  refine ⟨h1.1, ?_⟩
  rcases h1.2 with h | ⟨g, cap, cur, hv, hB, hr⟩
  · exact .inl h
  · exact .inr ⟨g, cap, cur, hv, by omega, hr⟩

end

end Go.Proofs.Ytfllgmbnljfboaa.J

/-
  lr0: the law's small grammar.
-/
namespace Go.Proofs.Ytfllgmbnljfboaa.J
open Go.RowKit Go.Maps Go.Shelf

attribute [local go_sem] Oper.semAt_some

def kTs : List (ByteArray × Int) := [(⟨#[]⟩, 0), (⟨#[43]⟩, 0), (⟨#[110]⟩, 0)]
def kNs : List ByteArray := [⟨#[]⟩, ⟨#[101]⟩]
def kL (i : Nat) : Int := if i = 0 then 3 else 4
def kR (i : Nat) : List Int := if i = 0 then [4] else if i = 1 then [4, 1, 2] else [2]

theorem boxKept {X Y : World} {b : Nat} {o : Obj} (h : X.heap[b]? = some o) (hg : X.grownBy Y none) : Hid (Y.heap[b]? = some o) := box_kept h hg

theorem k_gat {Z : World} {b1 b2 b3 b4 b5 b6 : Nat} (h1 : Z.heap[b1]? = some (.cells #[.string ⟨#[]⟩, .int .i64 0, .string ⟨#[43]⟩, .int .i64 0, .string ⟨#[110]⟩, .int .i64 0] 87 (0, 0))) (h2 : Z.heap[b2]? = some (.cells #[.string ⟨#[]⟩, .string ⟨#[101]⟩] 9 (0, 0))) (h3 : Z.heap[b3]? = some (.cells #[.int .i64 4] 3 (0, 0))) (h4 : Z.heap[b4]? = some (.cells #[.int .i64 4, .int .i64 1, .int .i64 2] 3 (0, 0))) (h5 : Z.heap[b5]? = some (.cells #[.int .i64 2] 3 (0, 0))) (h6 : Z.heap[b6]? = some (.cells #[.int .i64 3, .slice (some ⟨b3, 0, none⟩) 1 1, .int .i64 0, .int .i64 4, .slice (some ⟨b4, 0, none⟩) 3 3, .int .i64 0, .int .i64 4, .slice (some ⟨b5, 0, none⟩) 1 1, .int .i64 0] 57 (0, 0))) :
    ∃ ra rc, GAt Z (some ⟨b1, 0, none⟩) (some ⟨b2, 0, none⟩) none (some ⟨b6, 0, none⟩) 3 2 0 3 kTs kNs [] 3 kL kR ra rc (fun _ => 0) := by
  refine ⟨fun i => if i = 0 then some ⟨b3, 0, none⟩ else if i = 1 then some ⟨b4, 0, none⟩ else some ⟨b5, 0, none⟩, fun i => if i = 1 then 3 else 1, .inr ⟨_, 0, rfl, fun i hi => ?_⟩, .inr ⟨_, 0, rfl, fun i hi => ?_⟩, .inl rfl, .inr ⟨_, 0, rfl, fun k hk => ?_⟩, by decide, by decide, by decide, (fun h => by cases h), (fun h => by cases h), by decide, by decide, by decide, by decide⟩
  · have h2 : i = 0 ∨ i = 1 ∨ i = 2 := by simp [kTs] at hi; omega
    rcases h2 with rfl | rfl | rfl <;> exact ⟨by rw [cell_of_row _ _ _ _ _ _ h1]; rfl, by rw [cell_of_row _ _ _ _ _ _ h1]; rfl⟩
  · have h3 : i = 0 ∨ i = 1 := by simp [kNs] at hi; omega
    rcases h3 with rfl | rfl <;> (rw [cell_of_row _ _ _ _ _ _ h2]; rfl)
  · have h7 : k = 0 ∨ k = 1 ∨ k = 2 := by omega
    rcases h7 with rfl | rfl | rfl
    · refine ⟨by rw [cell_of_row _ _ _ _ _ _ h6]; rfl, by rw [cell_of_row _ _ _ _ _ _ h6]; rfl, by rw [cell_of_row _ _ _ _ _ _ h6]; rfl, .inr ⟨b3, 0, rfl, fun i hi => ?_⟩, (fun h => by cases h), by decide⟩
      have h8 : i = 0 := by simp [kR] at hi; omega
      subst h8
      rw [cell_of_row _ _ _ _ _ _ h3]; rfl
    · refine ⟨by rw [cell_of_row _ _ _ _ _ _ h6]; rfl, by rw [cell_of_row _ _ _ _ _ _ h6]; rfl, by rw [cell_of_row _ _ _ _ _ _ h6]; rfl, .inr ⟨b4, 0, rfl, fun i hi => ?_⟩, (fun h => by cases h), by decide⟩
      have h8 : i = 0 ∨ i = 1 ∨ i = 2 := by simp [kR] at hi; omega
      rcases h8 with rfl | rfl | rfl <;> (rw [cell_of_row _ _ _ _ _ _ h4]; rfl)
    · refine ⟨by rw [cell_of_row _ _ _ _ _ _ h6]; rfl, by rw [cell_of_row _ _ _ _ _ _ h6]; rfl, by rw [cell_of_row _ _ _ _ _ _ h6]; rfl, .inr ⟨b5, 0, rfl, fun i hi => ?_⟩, (fun h => by cases h), by decide⟩
      have h8 : i = 0 := by simp [kR] at hi; omega
      subst h8
      rw [cell_of_row _ _ _ _ _ _ h5]; rfl

theorem infoGramK : (Try.prog.info? 27).map (·.size) = some 5 := by kernel_rfl

/-- The blocks of the small grammar, one behind the other. -/
theorem k_chain (w : World) (cs : Array Value) : ((((((((w.alloc (.cells cs 27)).alloc (.cells #[.string ⟨#[]⟩, .int .i64 0, .string ⟨#[43]⟩, .int .i64 0, .string ⟨#[110]⟩, .int .i64 0] 87)).alloc (.cells #[.string ⟨#[]⟩, .string ⟨#[101]⟩] 9)).alloc (.cells #[.int .i64 4] 3)).alloc (.cells #[.int .i64 4, .int .i64 1, .int .i64 2] 3)).alloc (.cells #[.int .i64 2] 3)).alloc (.cells #[.int .i64 3, .slice (some ⟨w.heap.size + 1 + 1 + 1, 0, none⟩) 1 1, .int .i64 0, .int .i64 4, .slice (some ⟨w.heap.size + 1 + 1 + 1 + 1, 0, none⟩) 3 3, .int .i64 0, .int .i64 4, .slice (some ⟨w.heap.size + 1 + 1 + 1 + 1 + 1, 0, none⟩) 1 1, .int .i64 0] 57)).heap[w.heap.size]? = some (.cells cs 27 (0, 0)) ∧ (((((((w.alloc (.cells cs 27)).alloc (.cells #[.string ⟨#[]⟩, .int .i64 0, .string ⟨#[43]⟩, .int .i64 0, .string ⟨#[110]⟩, .int .i64 0] 87)).alloc (.cells #[.string ⟨#[]⟩, .string ⟨#[101]⟩] 9)).alloc (.cells #[.int .i64 4] 3)).alloc (.cells #[.int .i64 4, .int .i64 1, .int .i64 2] 3)).alloc (.cells #[.int .i64 2] 3)).alloc (.cells #[.int .i64 3, .slice (some ⟨w.heap.size + 1 + 1 + 1, 0, none⟩) 1 1, .int .i64 0, .int .i64 4, .slice (some ⟨w.heap.size + 1 + 1 + 1 + 1, 0, none⟩) 3 3, .int .i64 0, .int .i64 4, .slice (some ⟨w.heap.size + 1 + 1 + 1 + 1 + 1, 0, none⟩) 1 1, .int .i64 0] 57)).heap[w.heap.size + 1]? = some (.cells #[.string ⟨#[]⟩, .int .i64 0, .string ⟨#[43]⟩, .int .i64 0, .string ⟨#[110]⟩, .int .i64 0] 87 (0, 0)) ∧ (((((((w.alloc (.cells cs 27)).alloc (.cells #[.string ⟨#[]⟩, .int .i64 0, .string ⟨#[43]⟩, .int .i64 0, .string ⟨#[110]⟩, .int .i64 0] 87)).alloc (.cells #[.string ⟨#[]⟩, .string ⟨#[101]⟩] 9)).alloc (.cells #[.int .i64 4] 3)).alloc (.cells #[.int .i64 4, .int .i64 1, .int .i64 2] 3)).alloc (.cells #[.int .i64 2] 3)).alloc (.cells #[.int .i64 3, .slice (some ⟨w.heap.size + 1 + 1 + 1, 0, none⟩) 1 1, .int .i64 0, .int .i64 4, .slice (some ⟨w.heap.size + 1 + 1 + 1 + 1, 0, none⟩) 3 3, .int .i64 0, .int .i64 4, .slice (some ⟨w.heap.size + 1 + 1 + 1 + 1 + 1, 0, none⟩) 1 1, .int .i64 0] 57)).heap[w.heap.size + 1 + 1]? = some (.cells #[.string ⟨#[]⟩, .string ⟨#[101]⟩] 9 (0, 0)) ∧ (((((((w.alloc (.cells cs 27)).alloc (.cells #[.string ⟨#[]⟩, .int .i64 0, .string ⟨#[43]⟩, .int .i64 0, .string ⟨#[110]⟩, .int .i64 0] 87)).alloc (.cells #[.string ⟨#[]⟩, .string ⟨#[101]⟩] 9)).alloc (.cells #[.int .i64 4] 3)).alloc (.cells #[.int .i64 4, .int .i64 1, .int .i64 2] 3)).alloc (.cells #[.int .i64 2] 3)).alloc (.cells #[.int .i64 3, .slice (some ⟨w.heap.size + 1 + 1 + 1, 0, none⟩) 1 1, .int .i64 0, .int .i64 4, .slice (some ⟨w.heap.size + 1 + 1 + 1 + 1, 0, none⟩) 3 3, .int .i64 0, .int .i64 4, .slice (some ⟨w.heap.size + 1 + 1 + 1 + 1 + 1, 0, none⟩) 1 1, .int .i64 0] 57)).heap[w.heap.size + 1 + 1 + 1]? = some (.cells #[.int .i64 4] 3 (0, 0)) ∧ (((((((w.alloc (.cells cs 27)).alloc (.cells #[.string ⟨#[]⟩, .int .i64 0, .string ⟨#[43]⟩, .int .i64 0, .string ⟨#[110]⟩, .int .i64 0] 87)).alloc (.cells #[.string ⟨#[]⟩, .string ⟨#[101]⟩] 9)).alloc (.cells #[.int .i64 4] 3)).alloc (.cells #[.int .i64 4, .int .i64 1, .int .i64 2] 3)).alloc (.cells #[.int .i64 2] 3)).alloc (.cells #[.int .i64 3, .slice (some ⟨w.heap.size + 1 + 1 + 1, 0, none⟩) 1 1, .int .i64 0, .int .i64 4, .slice (some ⟨w.heap.size + 1 + 1 + 1 + 1, 0, none⟩) 3 3, .int .i64 0, .int .i64 4, .slice (some ⟨w.heap.size + 1 + 1 + 1 + 1 + 1, 0, none⟩) 1 1, .int .i64 0] 57)).heap[w.heap.size + 1 + 1 + 1 + 1]? = some (.cells #[.int .i64 4, .int .i64 1, .int .i64 2] 3 (0, 0)) ∧ (((((((w.alloc (.cells cs 27)).alloc (.cells #[.string ⟨#[]⟩, .int .i64 0, .string ⟨#[43]⟩, .int .i64 0, .string ⟨#[110]⟩, .int .i64 0] 87)).alloc (.cells #[.string ⟨#[]⟩, .string ⟨#[101]⟩] 9)).alloc (.cells #[.int .i64 4] 3)).alloc (.cells #[.int .i64 4, .int .i64 1, .int .i64 2] 3)).alloc (.cells #[.int .i64 2] 3)).alloc (.cells #[.int .i64 3, .slice (some ⟨w.heap.size + 1 + 1 + 1, 0, none⟩) 1 1, .int .i64 0, .int .i64 4, .slice (some ⟨w.heap.size + 1 + 1 + 1 + 1, 0, none⟩) 3 3, .int .i64 0, .int .i64 4, .slice (some ⟨w.heap.size + 1 + 1 + 1 + 1 + 1, 0, none⟩) 1 1, .int .i64 0] 57)).heap[w.heap.size + 1 + 1 + 1 + 1 + 1]? = some (.cells #[.int .i64 2] 3 (0, 0)) ∧ (((((((w.alloc (.cells cs 27)).alloc (.cells #[.string ⟨#[]⟩, .int .i64 0, .string ⟨#[43]⟩, .int .i64 0, .string ⟨#[110]⟩, .int .i64 0] 87)).alloc (.cells #[.string ⟨#[]⟩, .string ⟨#[101]⟩] 9)).alloc (.cells #[.int .i64 4] 3)).alloc (.cells #[.int .i64 4, .int .i64 1, .int .i64 2] 3)).alloc (.cells #[.int .i64 2] 3)).alloc (.cells #[.int .i64 3, .slice (some ⟨w.heap.size + 1 + 1 + 1, 0, none⟩) 1 1, .int .i64 0, .int .i64 4, .slice (some ⟨w.heap.size + 1 + 1 + 1 + 1, 0, none⟩) 3 3, .int .i64 0, .int .i64 4, .slice (some ⟨w.heap.size + 1 + 1 + 1 + 1 + 1, 0, none⟩) 1 1, .int .i64 0] 57)).heap[w.heap.size + 1 + 1 + 1 + 1 + 1 + 1]? = some (.cells #[.int .i64 3, .slice (some ⟨w.heap.size + 1 + 1 + 1, 0, none⟩) 1 1, .int .i64 0, .int .i64 4, .slice (some ⟨w.heap.size + 1 + 1 + 1 + 1, 0, none⟩) 3 3, .int .i64 0, .int .i64 4, .slice (some ⟨w.heap.size + 1 + 1 + 1 + 1 + 1, 0, none⟩) 1 1, .int .i64 0] 57 (0, 0))) ∧ w.grownBy (((((((w.alloc (.cells cs 27)).alloc (.cells #[.string ⟨#[]⟩, .int .i64 0, .string ⟨#[43]⟩, .int .i64 0, .string ⟨#[110]⟩, .int .i64 0] 87)).alloc (.cells #[.string ⟨#[]⟩, .string ⟨#[101]⟩] 9)).alloc (.cells #[.int .i64 4] 3)).alloc (.cells #[.int .i64 4, .int .i64 1, .int .i64 2] 3)).alloc (.cells #[.int .i64 2] 3)).alloc (.cells #[.int .i64 3, .slice (some ⟨w.heap.size + 1 + 1 + 1, 0, none⟩) 1 1, .int .i64 0, .int .i64 4, .slice (some ⟨w.heap.size + 1 + 1 + 1 + 1, 0, none⟩) 3 3, .int .i64 0, .int .i64 4, .slice (some ⟨w.heap.size + 1 + 1 + 1 + 1 + 1, 0, none⟩) 1 1, .int .i64 0] 57)) none := by
  have g0 := World.grownBy_alloc w (.cells cs 27) none
  have c0 := heap_alloc_last w (.cells cs 27)
  have g1 := World.grownBy_alloc (w.alloc (.cells cs 27)) (.cells #[.string ⟨#[]⟩, .int .i64 0, .string ⟨#[43]⟩, .int .i64 0, .string ⟨#[110]⟩, .int .i64 0] 87) none
  have c1 := heap_alloc_last (w.alloc (.cells cs 27)) (.cells #[.string ⟨#[]⟩, .int .i64 0, .string ⟨#[43]⟩, .int .i64 0, .string ⟨#[110]⟩, .int .i64 0] 87)
  rw [World.size_alloc] at c1
  have g2 := World.grownBy_alloc ((w.alloc (.cells cs 27)).alloc (.cells #[.string ⟨#[]⟩, .int .i64 0, .string ⟨#[43]⟩, .int .i64 0, .string ⟨#[110]⟩, .int .i64 0] 87)) (.cells #[.string ⟨#[]⟩, .string ⟨#[101]⟩] 9) none
  have c2 := heap_alloc_last ((w.alloc (.cells cs 27)).alloc (.cells #[.string ⟨#[]⟩, .int .i64 0, .string ⟨#[43]⟩, .int .i64 0, .string ⟨#[110]⟩, .int .i64 0] 87)) (.cells #[.string ⟨#[]⟩, .string ⟨#[101]⟩] 9)
  rw [World.size_alloc, World.size_alloc] at c2
  have g3 := World.grownBy_alloc (((w.alloc (.cells cs 27)).alloc (.cells #[.string ⟨#[]⟩, .int .i64 0, .string ⟨#[43]⟩, .int .i64 0, .string ⟨#[110]⟩, .int .i64 0] 87)).alloc (.cells #[.string ⟨#[]⟩, .string ⟨#[101]⟩] 9)) (.cells #[.int .i64 4] 3) none
  have c3 := heap_alloc_last (((w.alloc (.cells cs 27)).alloc (.cells #[.string ⟨#[]⟩, .int .i64 0, .string ⟨#[43]⟩, .int .i64 0, .string ⟨#[110]⟩, .int .i64 0] 87)).alloc (.cells #[.string ⟨#[]⟩, .string ⟨#[101]⟩] 9)) (.cells #[.int .i64 4] 3)
  rw [World.size_alloc, World.size_alloc, World.size_alloc] at c3
  have g4 := World.grownBy_alloc ((((w.alloc (.cells cs 27)).alloc (.cells #[.string ⟨#[]⟩, .int .i64 0, .string ⟨#[43]⟩, .int .i64 0, .string ⟨#[110]⟩, .int .i64 0] 87)).alloc (.cells #[.string ⟨#[]⟩, .string ⟨#[101]⟩] 9)).alloc (.cells #[.int .i64 4] 3)) (.cells #[.int .i64 4, .int .i64 1, .int .i64 2] 3) none
  have c4 := heap_alloc_last ((((w.alloc (.cells cs 27)).alloc (.cells #[.string ⟨#[]⟩, .int .i64 0, .string ⟨#[43]⟩, .int .i64 0, .string ⟨#[110]⟩, .int .i64 0] 87)).alloc (.cells #[.string ⟨#[]⟩, .string ⟨#[101]⟩] 9)).alloc (.cells #[.int .i64 4] 3)) (.cells #[.int .i64 4, .int .i64 1, .int .i64 2] 3)
  rw [World.size_alloc, World.size_alloc, World.size_alloc, World.size_alloc] at c4
  have g5 := World.grownBy_alloc (((((w.alloc (.cells cs 27)).alloc (.cells #[.string ⟨#[]⟩, .int .i64 0, .string ⟨#[43]⟩, .int .i64 0, .string ⟨#[110]⟩, .int .i64 0] 87)).alloc (.cells #[.string ⟨#[]⟩, .string ⟨#[101]⟩] 9)).alloc (.cells #[.int .i64 4] 3)).alloc (.cells #[.int .i64 4, .int .i64 1, .int .i64 2] 3)) (.cells #[.int .i64 2] 3) none
  have c5 := heap_alloc_last (((((w.alloc (.cells cs 27)).alloc (.cells #[.string ⟨#[]⟩, .int .i64 0, .string ⟨#[43]⟩, .int .i64 0, .string ⟨#[110]⟩, .int .i64 0] 87)).alloc (.cells #[.string ⟨#[]⟩, .string ⟨#[101]⟩] 9)).alloc (.cells #[.int .i64 4] 3)).alloc (.cells #[.int .i64 4, .int .i64 1, .int .i64 2] 3)) (.cells #[.int .i64 2] 3)
  rw [World.size_alloc, World.size_alloc, World.size_alloc, World.size_alloc, World.size_alloc] at c5
  have g6 := World.grownBy_alloc ((((((w.alloc (.cells cs 27)).alloc (.cells #[.string ⟨#[]⟩, .int .i64 0, .string ⟨#[43]⟩, .int .i64 0, .string ⟨#[110]⟩, .int .i64 0] 87)).alloc (.cells #[.string ⟨#[]⟩, .string ⟨#[101]⟩] 9)).alloc (.cells #[.int .i64 4] 3)).alloc (.cells #[.int .i64 4, .int .i64 1, .int .i64 2] 3)).alloc (.cells #[.int .i64 2] 3)) (.cells #[.int .i64 3, .slice (some ⟨w.heap.size + 1 + 1 + 1, 0, none⟩) 1 1, .int .i64 0, .int .i64 4, .slice (some ⟨w.heap.size + 1 + 1 + 1 + 1, 0, none⟩) 3 3, .int .i64 0, .int .i64 4, .slice (some ⟨w.heap.size + 1 + 1 + 1 + 1 + 1, 0, none⟩) 1 1, .int .i64 0] 57) none
  have c6 := heap_alloc_last ((((((w.alloc (.cells cs 27)).alloc (.cells #[.string ⟨#[]⟩, .int .i64 0, .string ⟨#[43]⟩, .int .i64 0, .string ⟨#[110]⟩, .int .i64 0] 87)).alloc (.cells #[.string ⟨#[]⟩, .string ⟨#[101]⟩] 9)).alloc (.cells #[.int .i64 4] 3)).alloc (.cells #[.int .i64 4, .int .i64 1, .int .i64 2] 3)).alloc (.cells #[.int .i64 2] 3)) (.cells #[.int .i64 3, .slice (some ⟨w.heap.size + 1 + 1 + 1, 0, none⟩) 1 1, .int .i64 0, .int .i64 4, .slice (some ⟨w.heap.size + 1 + 1 + 1 + 1, 0, none⟩) 3 3, .int .i64 0, .int .i64 4, .slice (some ⟨w.heap.size + 1 + 1 + 1 + 1 + 1, 0, none⟩) 1 1, .int .i64 0] 57)
  rw [World.size_alloc, World.size_alloc, World.size_alloc, World.size_alloc, World.size_alloc, World.size_alloc] at c6
  have c0 := (boxKept c0 g1).out
  have c0 := (boxKept c0 g2).out
  have c0 := (boxKept c0 g3).out
  have c0 := (boxKept c0 g4).out
  have c0 := (boxKept c0 g5).out
  have c0 := (boxKept c0 g6).out
  have c1 := (boxKept c1 g2).out
  have c1 := (boxKept c1 g3).out
  have c1 := (boxKept c1 g4).out
  have c1 := (boxKept c1 g5).out
  have c1 := (boxKept c1 g6).out
  have c2 := (boxKept c2 g3).out
  have c2 := (boxKept c2 g4).out
  have c2 := (boxKept c2 g5).out
  have c2 := (boxKept c2 g6).out
  have c3 := (boxKept c3 g4).out
  have c3 := (boxKept c3 g5).out
  have c3 := (boxKept c3 g6).out
  have c4 := (boxKept c4 g5).out
  have c4 := (boxKept c4 g6).out
  have c5 := (boxKept c5 g6).out
  exact ⟨⟨c0, c1, c2, c3, c4, c5, c6⟩, (grown_trans g0 (grown_trans g1 (grown_trans g2 (grown_trans g3 (grown_trans g4 (grown_trans g5 g6))))))⟩

set_option maxRecDepth 100000 in
set_option maxHeartbeats 1000000 in
theorem small_any (w : World) : Calls Try.prog 17 #[] w fun e y => ∃ b1 b2 b6 ra rc, e = .returned (.agg #[.slice (some ⟨b1, 0, none⟩) 3 3, .slice (some ⟨b2, 0, none⟩) 2 2, .slice none 0 0, .int .i64 4, .slice (some ⟨b6, 0, none⟩) 3 3]) ∧ GAt y (some ⟨b1, 0, none⟩) (some ⟨b2, 0, none⟩) none (some ⟨b6, 0, none⟩) 3 2 0 3 kTs kNs [] 3 kL kR ra rc (fun _ => 0) ∧ w.grownBy y none := by
  have HC := show Hid _ from k_chain w #[.slice (some ⟨w.heap.size + 1, 0, none⟩) 3 3, .slice (some ⟨w.heap.size + 1 + 1, 0, none⟩) 2 2, .slice none 0 0, .int .i64 4, .slice (some ⟨w.heap.size + 1 + 1 + 1 + 1 + 1 + 1, 0, none⟩) 3 3]
  go_enter Try.func17, Try.ntmps17
  go_wp2_with fail
  obtain ⟨⟨c0, c1, c2, c3, c4, c5, c6⟩, hg⟩ := HC.out
  obtain ⟨ra, rc, hG⟩ := k_gat c1 c2 c3 c4 c5 c6
  exact bodyPost_ret (v := .agg #[.slice (some ⟨w.heap.size + 1, 0, none⟩) 3 3, .slice (some ⟨w.heap.size + 1 + 1, 0, none⟩) 2 2, .slice none 0 0, .int .i64 4, .slice (some ⟨w.heap.size + 1 + 1 + 1 + 1 + 1 + 1, 0, none⟩) 3 3]) (results_cell_row (fr := (0, 0)) rfl _ _ w.heap.size 27 #[.slice (some ⟨w.heap.size + 1, 0, none⟩) 3 3, .slice (some ⟨w.heap.size + 1 + 1, 0, none⟩) 2 2, .slice none 0 0, .int .i64 4, .slice (some ⟨w.heap.size + 1 + 1 + 1 + 1 + 1 + 1, 0, none⟩) 3 3] _ rfl c0 Try.underlying27 rfl infoGramK) rfl ⟨_, _, _, ra, rc, rfl, hG, hg⟩

end Go.Proofs.Ytfllgmbnljfboaa.J

/-
  lr0: the law's small grammar is closed.
-/
namespace Go.Proofs.Ytfllgmbnljfboaa.J
open Go.RowKit Go.Maps Go.Shelf

theorem k_closed : closedOK kTs kNs [] 4 3 kL kR (fun _ => 0) := by
  refine ⟨⟨by decide, rfl, by decide, rfl, rfl, rfl⟩, ⟨by decide, by decide, by decide, by decide, by decide, by decide, ⟨⟨by decide, rfl⟩, fun i h1 h2 => ?_⟩, fun j hj => absurd hj (Nat.not_lt_zero j), fun i h1 h2 => ?_, fun i h1 h2 => ?_, rfl, ⟨by decide, by decide⟩⟩⟩
  · have h3 : i = 1 ∨ i = 2 := by simp [kTs] at h2; omega
    rcases h3 with rfl | rfl
    · exact ⟨⟨by rfl, by decide, by decide⟩, fun k h4 h5 => absurd h5 (by omega)⟩
    · refine ⟨⟨by rfl, by decide, by decide⟩, fun k h4 h5 => ?_⟩
      have h6 : k = 1 := by omega
      subst h6
      decide
  · have h3 : i = 1 := by simp [kNs] at h2; omega
    subst h3
    exact ⟨by rfl, fun k h4 h5 => absurd h5 (by omega)⟩
  · have h3 : i = 1 ∨ i = 2 := by omega
    rcases h3 with rfl | rfl
    · refine ⟨⟨by decide, by decide⟩, ⟨by decide, by decide⟩, ?_⟩
      intro x hx
      simp [kR] at hx
      rcases hx with rfl | rfl | rfl
      · exact .inr ⟨by decide, by decide⟩
      · exact .inl ⟨by decide, by decide⟩
      · exact .inl ⟨by decide, by decide⟩
    · refine ⟨⟨by decide, by decide⟩, ⟨by decide, by decide⟩, ?_⟩
      intro x hx
      simp [kR] at hx
      subst hx
      exact .inl ⟨by decide, by decide⟩

end Go.Proofs.Ytfllgmbnljfboaa.J

/-
  lr0: the automaton of the law's small grammar, pure.
-/
namespace Go.Proofs.Ytfllgmbnljfboaa.J
open Go.RowKit Go.Maps Go.Shelf

theorem isClo_mk {tn n : Nat} {L : Nat → Int} {R : Nat → List Int} {I l : List It} (hA : Asc l) (hI : ∀ x ∈ I, x ∈ l) (hl : ∀ x ∈ l, Clo tn n L R I x) (hc : ∀ y ∈ l, ∀ k, k < n → (tn : Int) ≤ aheadV R y → L k = aheadV R y → ((k : Int), (0 : Int)) ∈ l) : IsClo tn n L R I l :=
  ⟨hA, fun x => ⟨hl x, fun h => h (fun y => y ∈ l) hI fun y k hy ht hk hk2 => hc y hy k hk ht hk2⟩⟩
theorem isClo_self {tn n : Nat} {L : Nat → Int} {R : Nat → List Int} {l : List It} (hA : Asc l) (hc : ∀ y ∈ l, aheadV R y < (tn : Int)) : IsClo tn n L R l l :=
  isClo_mk hA (fun _ h => h) (fun _ h => Clo.base h) fun y hy k _ ht _ => absurd (hc y hy) (by omega)

def kCl (k : List It) : List It := if k = [(0, 0)] then [(0, 0), (1, 0), (2, 0)] else k
def kKs : List (List It) := [[(0, 0)], [(2, 1)], [(0, 1), (1, 1)], [(1, 2)], [(1, 3)]]
def kEs : List (List (Nat × Nat)) := [[(2, 1), (4, 2)], [], [(1, 3)], [(2, 4)], []]

theorem k_clo : ∀ k ∈ kKs, IsClo 3 3 kL kR k (kCl k) := by
  intro k hk
  simp only [kKs, List.mem_cons, List.not_mem_nil, or_false] at hk
  rcases hk with rfl | rfl | rfl | rfl | rfl
  · refine isClo_mk (by simp [kCl, Asc, ltI]) (by simp [kCl]) (fun x hx => ?_) (fun y hy k hk _ _ => ?_)
    · have h0 : Clo 3 3 kL kR [((0 : Int), (0 : Int))] ((0 : Int), (0 : Int)) := Clo.base (by simp)
      simp [kCl] at hx
      rcases hx with rfl | rfl | rfl
      · exact h0
      · exact h0.step (k := 1) (by decide) (by decide) (by decide)
      · exact h0.step (k := 2) (by decide) (by decide) (by decide)
    · have h3 : k = 0 ∨ k = 1 ∨ k = 2 := by omega
      rcases h3 with rfl | rfl | rfl <;> simp [kCl]
  all_goals
    refine isClo_self (by simp [Asc, ltI]) (fun y hy => ?_)
    simp at hy
    rcases hy with rfl | rfl <;> decide

/-- Whatever closes the kernels, the automaton is this one. -/
theorem k_auto {CL : List It → List It} (h : ∀ k ∈ kKs, IsClo 3 3 kL kR k (CL k)) : autoF (fun k (s : Nat) => kerT kR (CL k) (s : Int)) 5 256 = some (kKs, kEs) := by
  have hc : ∀ k ∈ kKs, CL k = kCl k := fun k hk => (h k hk).unique (k_clo k hk)
  have c0 := hc [(0, 0)] (by simp [kKs])
  have c1 := hc [(2, 1)] (by simp [kKs])
  have c2 := hc [(0, 1), (1, 1)] (by simp [kKs])
  have c3 := hc [(1, 2)] (by simp [kKs])
  have c4 := hc [(1, 3)] (by simp [kKs])
  obtain ⟨G, hG⟩ : ∃ G : List It → Nat → List It, G = fun k (s : Nat) => kerT kR (CL k) (s : Int) := ⟨_, rfl⟩
  rw [← hG]
  have g0 : G [(0, 0)] = fun (s : Nat) => kerT kR (kCl [(0, 0)]) (s : Int) := by rw [hG]; simp only; rw [c0]
  have g1 : G [(2, 1)] = fun (s : Nat) => kerT kR (kCl [(2, 1)]) (s : Int) := by rw [hG]; simp only; rw [c1]
  have g2 : G [(0, 1), (1, 1)] = fun (s : Nat) => kerT kR (kCl [(0, 1), (1, 1)]) (s : Int) := by rw [hG]; simp only; rw [c2]
  have g3 : G [(1, 2)] = fun (s : Nat) => kerT kR (kCl [(1, 2)]) (s : Int) := by rw [hG]; simp only; rw [c3]
  have g4 : G [(1, 3)] = fun (s : Nat) => kerT kR (kCl [(1, 3)]) (s : Int) := by rw [hG]; simp only; rw [c4]
  have a0 : autoF G 5 0 = some ([[(0, 0)]], []) := rfl
  have a1 : autoF G 5 1 = some ([[(0, 0)], [(2, 1)], [(0, 1), (1, 1)]], [[(2, 1), (4, 2)]]) := by
    rw [autoF_step a0 (by decide), show ([[((0 : Int), (0 : Int))]] : List (List It)).getD 0 [] = [(0, 0)] from rfl, g0]
    decide
  have a2 : autoF G 5 2 = some ([[(0, 0)], [(2, 1)], [(0, 1), (1, 1)]], [[(2, 1), (4, 2)], []]) := by
    rw [autoF_step a1 (by decide), show ([[(0, 0)], [(2, 1)], [(0, 1), (1, 1)]] : List (List It)).getD 1 [] = [(2, 1)] from rfl, g1]
    decide
  have a3 : autoF G 5 3 = some ([[(0, 0)], [(2, 1)], [(0, 1), (1, 1)], [(1, 2)]], [[(2, 1), (4, 2)], [], [(1, 3)]]) := by
    rw [autoF_step a2 (by decide), show ([[(0, 0)], [(2, 1)], [(0, 1), (1, 1)]] : List (List It)).getD 2 [] = [(0, 1), (1, 1)] from rfl, g2]
    decide
  have a4 : autoF G 5 4 = some (kKs, [[(2, 1), (4, 2)], [], [(1, 3)], [(2, 4)]]) := by
    rw [autoF_step a3 (by decide), show ([[(0, 0)], [(2, 1)], [(0, 1), (1, 1)], [(1, 2)]] : List (List It)).getD 3 [] = [(1, 2)] from rfl, g3]
    decide
  have a5 : autoF G 5 5 = some (kKs, kEs) := by
    rw [autoF_step a4 (by decide), show kKs.getD 4 [] = [(1, 3)] from rfl, g4]
    decide
  exact autoF_stay a5 (by decide) 251

end Go.Proofs.Ytfllgmbnljfboaa.J
