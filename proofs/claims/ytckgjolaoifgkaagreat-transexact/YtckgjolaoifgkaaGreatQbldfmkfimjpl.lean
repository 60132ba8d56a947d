import Derived.Test.YtckgjolaoifgkaaGreatQmmejlbfgfgao
import Derived.Laws.AppendOwnNone

/-
  The document's fits and Valid.
-/
namespace Go.Proofs.YtckgjolaoifgkaaGreat
open Go.RowKit

attribute [local go_sem] Oper.semAt_some

theorem mem_idx (l : List Int) (x : Int) : x ∈ l ↔ ∃ j, j < l.length ∧ l.getD j 0 = x := by
  constructor
  · intro h
    obtain ⟨j, hj, rfl⟩ := List.getElem_of_mem h
    exact ⟨j, hj, by simp [List.getD, hj]⟩
  · rintro ⟨j, hj, rfl⟩
    have : l.getD j 0 = l[j] := by simp [List.getD, hj]
    rw [this]; exact List.getElem_mem _

theorem PhAt.lt {w wr : World} {Bg : Nat} {cs : Array Value} (h : PhAt w wr Bg cs) : Bg < wr.heap.size := (Array.getElem?_eq_some_iff.1 h.box).1
theorem PhAt.keptRow {w wr wx : World} {cs : Array Value} {q : Nat} (h : PhAt w wr w.heap.size cs) (hg : wr.grownBy wx (some q)) (hq : w.heap.size + 1 ≤ q) : PhAt w wx w.heap.size cs :=
  ⟨grown_new h.grown hg (by omega), (hg.block _ h.lt (by simp; omega)).trans h.box⟩

set_option maxRecDepth 100000 in
set_option maxHeartbeats 2000000 in
theorem rlefts_any (ta na la pa : Option Addr) (tn nn ln pn tc nc lc pc ad : Nat) (st : Int) (L : Nat → Int) (R : Nat → List Int) (ra : Nat → Option Addr) (rc : Nat → Nat) (V : Nat → Int) (w : World) (hP : ProdsAt w pa pn L R ra rc V) (hn : pn ≤ 97) (had : ad ≤ pn)
    (O : Nat → List Int) (hO : ∀ k, O k = leftsTo (fun i => L (ad + i)) k) :
    Calls Tryz.prog 47 #[.agg #[.slice ta tn tc, .slice na nn nc, .slice la ln lc, .int .i64 st, .slice pa pn pc], .int .i64 ad] w fun e w' => ∃ a' c', e = .returned (.slice a' (O (pn - ad)).length c') ∧ w'.ownsRow w.heap.size 3 1 (.slice a' (O (pn - ad)).length c') (O (pn - ad)).length ((O (pn - ad)).map (Value.int .i64)) ∧ w.grownBy w' none := by
  obtain ⟨i0, hi, hz0, hz1, hz2⟩ := info_parts infoInt
  have HP : Hid (ProdsAt w pa pn L R ra rc V) := hP
  have HX0 : Hid (PhAt w (w.alloc (.cells #[.slice ta tn tc, .slice na nn nc, .slice la ln lc, .int .i64 st, .slice pa pn pc] 27)) w.heap.size #[.slice ta tn tc, .slice na nn nc, .slice la ln lc, .int .i64 st, .slice pa pn pc]) := ⟨World.grownBy_alloc _ _ none, heap_alloc_last w _⟩
  have HOS : Hid (∀ k, O (k + 1) = if L (ad + k) ∈ O k then O k else O k ++ [L (ad + k)]) := fun k => by rw [hO, hO, leftsTo_succ]; rfl
  have HO0 : Hid (O 0 = []) := by show _ = _; rw [hO]; rfl
  have HOL : Hid (∀ k, (O k).length ≤ k) := fun k => by rw [hO]; exact leftsTo_le _ _
  clear hP hO
  go_enter Tryz.func47, Tryz.ntmps47
  go_wp2_with fail
  go_loopg [5, 6] (pn - ad) (fun gk v5 i wr => ∃ k : Nat, ad + k ≤ pn ∧ gk = pn - ad - k ∧ i = .int .i64 ((ad : Int) + k) ∧ ∃ a' c', v5 = .slice a' (O k).length c' ∧ PhAt w wr w.heap.size #[.slice ta tn tc, .slice na nn nc, .slice la ln lc, .int .i64 st, .slice pa pn pc] ∧ wr.ownsRow (w.heap.size + 1) 3 1 (.slice a' (O k).length c') (O k).length ((O k).map (Value.int .i64)))
  case atStart => exact ⟨0, by omega, rfl, by simp, none, 0, by rw [HO0.out]; rfl, HX0.out, by rw [HO0.out]; exact World.ownsRow_nil _ _ _ _⟩
  case round =>
    obtain ⟨k, hk, hgk, rfl, a3, c3, rfl, hX, hown⟩ := hrel
    have HX : Hid (PhAt w wr w.heap.size #[.slice ta tn tc, .slice na nn nc, .slice la ln lc, .int .i64 st, .slice pa pn pc]) := hX
    have HW : Hid (wr.ownsRow (w.heap.size + 1) 3 1 (.slice a3 (O k).length c3) (O k).length ((O k).map (Value.int .i64))) := hown
    have HGK : Hid (gk = pn - ad - k) := hgk
    clear hX hown hgk HX0
    obtain ⟨m0, m1, m2, m3, m4⟩ := HX.out.cells
    by_cases hlt : ad + k < pn
    · obtain ⟨bp, off, rfl, hcs⟩ : ∃ b off, pa = some ⟨b, off, none⟩ ∧ ∀ k, k < pn → w.cell? ⟨b, off + k * 3, none⟩ = some (.int .i64 (L k)) ∧ w.cell? ⟨b, off + k * 3 + 1, none⟩ = some (.slice (ra k) (R k).length (rc k)) ∧ w.cell? ⟨b, off + k * 3 + 2, none⟩ = some (.int .i64 (V k)) ∧ IntsAt w (ra k) (R k) ∧ (ra k = none → rc k = 0) ∧ (R k).length ≤ 17592186044416 := by
        rcases HP.out with h | h
        · omega
        · exact h
      have dlt : decide ((ad : Int) + k < (pn : Int)) = true := decide_eq_true (by omega)
      have HC0 : Hid (∀ W, w.grownBy W none → W.cell? ⟨bp, off + (ad + k) * 3, none⟩ = some (.int .i64 (L (ad + k)))) := fun W hg => hg.cell (hcs (ad + k) hlt).1 (by simp)
      have HST := HOS.out k
      have hol := HOL.out k
      clear hcs
      have HIA : Hid (IntsAt wr a3 (O k)) := owns_intsAt HW.out rfl
      have HMM : Hid (L (ad + k) ∈ O k ↔ ∃ j, j < (O k).length ∧ (O k).getD j 0 = L (ad + k)) := mem_idx _ _
      have HST' : Hid (O (k + 1) = if L (ad + k) ∈ O k then O k else O k ++ [L (ad + k)]) := HST
      clear HST
      generalize hl : L (ad + k) = l at *
      generalize hout : O k = out at *
      obtain ⟨on, hon⟩ : ∃ on, on = out.length := ⟨_, rfl⟩
      have HON : Hid (out.length = on) := hon.symm
      rw [← hon] at hol HW HMM ⊢
      clear hon hl hout
      go_wp2_with fail
      clear m0 m1 m2 m3 m4
      generalize wr = X at *
      go_loopg [7, 8] on (fun gx v7 i wz => ∃ (x : Nat) (sm : Bool), x ≤ on ∧ gx = on - x ∧ i = .int .i64 x ∧ v7 = .bool sm ∧ X.grownBy wz none ∧ (sm = true ↔ ∃ j, j < x ∧ out.getD j 0 = l))
      case atStart => exact ⟨0, false, Nat.zero_le _, rfl, rfl, rfl, grown_refl _ _, by simp⟩
      case round =>
        obtain ⟨x, sm, hx, hgx, rfl, rfl, hq, hsm⟩ := hrel
        have HX2 : Hid (PhAt w wr w.heap.size #[.slice ta tn tc, .slice na nn nc, .slice la ln lc, .int .i64 st, .slice (some ⟨bp, off, none⟩) pn pc]) := HX.out.kept hq
        have HQ : Hid (X.grownBy wr none) := hq
        have HSM : Hid (sm = true ↔ ∃ j, j < x ∧ out.getD j 0 = l) := hsm
        have HGX : Hid (gk = on - x) := hgx
        clear hsm hgx hq
        obtain ⟨m0, m1, m2, m3, m4⟩ := HX2.out.cells
        by_cases hlx : x < on
        · have hxl : x < out.length := by rw [HON.out]; exact hlx
          obtain ⟨bl, of2, rfl, hcs⟩ : ∃ b off, a3 = some ⟨b, off, none⟩ ∧ ∀ i, i < out.length → wr.cell? ⟨b, off + i, none⟩ = some (.int .i64 (out.getD i 0)) := by
            rcases HIA.out with h | ⟨b, o, h1, h2⟩
            · rw [h] at hxl; simp at hxl
            · exact ⟨b, o, h1, fun i hi => HQ.out.cell (h2 i hi) (by simp)⟩
          have c0 := hcs x hxl
          have c1 := HC0.out wr HX2.out.grown
          have HS : Hid (∀ f : Bool, (f = true ↔ (sm = true ∨ out.getD x 0 = l)) → (f = true ↔ ∃ j, j < x + 1 ∧ out.getD j 0 = l)) := fun f hf => by
            rw [hf, HSM.out]
            constructor
            · rintro (⟨j, hj, e⟩ | e)
              · exact ⟨j, by omega, e⟩
              · exact ⟨x, by omega, e⟩
            · rintro ⟨j, hj, e⟩
              by_cases ej : j = x
              · right; rw [← ej]; exact e
              · exact .inl ⟨j, by omega, e⟩
          clear hcs hxl
          generalize out.getD x 0 = h at *
          cases sm with
          | true =>
            have HS2 := HS.out true (by simp)
            have HS3 : Hid (∃ j, j < x + 1 ∧ out.getD j 0 = l) := HS2.1 rfl
            clear HS2 HS
            go_wp2_with fail
            go_quiet (fail)
            have HQ2 : Hid (X.grownBy (wr.drewN nq) none) := grown_trans HQ.out (grown_drewN _ _)
            clear m0 m1 m2 m3 m4 c0 c1
            generalize wr.drewN nq = W at *
            go_wp2_with fail
            go_roundg (on - (x + 1))
            case measure => have := HGX.out; omega
            case rel => exact ⟨x + 1, true, by omega, rfl, by go_num, rfl, HQ2.out, ⟨fun _ => HS3.out, fun _ => rfl⟩⟩
          | false =>
            by_cases he : h = l
            · have d1 : (h == l) = true := beq_iff_eq.2 he
              have HS3 : Hid (∃ j, j < x + 1 ∧ out.getD j 0 = l) := (HS.out true (by simp [he])).1 rfl
              clear HS he
              go_wp2_with fail
              go_quiet (fail)
              have HQ2 : Hid (X.grownBy (wr.drewN nq) none) := grown_trans HQ.out (grown_drewN _ _)
              clear m0 m1 m2 m3 m4 c0 c1
              generalize wr.drewN nq = W at *
              go_wp2_with fail
              go_roundg (on - (x + 1))
              case measure => have := HGX.out; omega
              case rel => exact ⟨x + 1, true, by omega, rfl, by go_num, rfl, HQ2.out, ⟨fun _ => HS3.out, fun _ => rfl⟩⟩
            · have d1 : (h == l) = false := beq_eq_false_iff_ne.2 he
              have HS3 : Hid (¬ ∃ j, j < x + 1 ∧ out.getD j 0 = l) := fun hh => by
                have := (HS.out false (by simp [he])).2 hh
                cases this
              clear HS he
              go_wp2_with fail
              go_quiet (fail)
              have HQ2 : Hid (X.grownBy (wr.drewN nq) none) := grown_trans HQ.out (grown_drewN _ _)
              clear m0 m1 m2 m3 m4 c0 c1
              generalize wr.drewN nq = W at *
              go_wp2_with fail
              go_roundg (on - (x + 1))
              case measure => have := HGX.out; omega
              case rel => exact ⟨x + 1, false, by omega, rfl, by go_num, rfl, HQ2.out, ⟨(fun h => by cases h), fun h => absurd h HS3.out⟩⟩
        · obtain rfl : x = on := by omega
          have HME : Hid (sm = true ↔ l ∈ out) := by
            show _ ↔ _
            rw [HSM.out, HMM.out]
          have HW2 : Hid (wr.ownsRow (w.heap.size + 1) 3 1 (.slice a3 x c3) x (out.map (Value.int .i64))) := by
            exact HW.out.kept HQ.out (by cases hv : (Value.slice a3 x c3).ownBlock <;> simp)
          cases sm with
          | true =>
            have HS2 : Hid (O (k + 1) = out) := by show _ = _; rw [HST'.out, if_pos (HME.out.1 rfl)]
            clear HST'
            go_wp2_with fail
            go_roundg (pn - ad - (k + 1))
            case measure => have := HGK.out; omega
            case rel => exact ⟨k + 1, by omega, rfl, by go_num, a3, c3, by rw [HS2.out, HON.out], HX2.out, by rw [HS2.out, HON.out]; exact HW2.out⟩
          | false =>
            have HS2 : Hid (O (k + 1) = out ++ [l]) := by show _ = _; rw [HST'.out, if_neg (fun hm => by have := HME.out.2 hm; cases this)]
            clear HST'
            have c1 := HC0.out wr HX2.out.grown
            have hsz2 := HX2.out.lt
            have c1' := fun o => (World.grownBy_alloc wr o none).cell c1 (by simp)
            go_wp2_with (at_builtin; refine wpList_append_lies _ rfl _ _ 24 rfl (w.heap.size + 1) 3 i0 (.int .i64 0) 1 8 Tryz.underlying24 hi hz0 hz1 hz2 rfl (by decide) (.slice a3 x c3) x (out.map (Value.int .i64)) rfl (HW2.out.alloc _) ⟨wr.heap.size, 0, none⟩ 1 1 [.int .i64 l] rfl rfl (cell_one_new _ _ _) (ints_oneCell' [l]) (by omega) (by unfold maxLen; omega) (by omega) (by simp; omega) _ rfl ?_; intro g4 c4 w4 hown4 hg4 hloc4 hlt4)
            have HFIN : Hid (w4.ownsRow (w.heap.size + 1) 3 1 (.slice (some ⟨g4, 0, none⟩) (out ++ [l]).length c4) (out ++ [l]).length ((out ++ [l]).map (Value.int .i64)) ∧ PhAt w w4 w.heap.size #[.slice ta tn tc, .slice na nn nc, .slice la ln lc, .int .i64 st, .slice (some ⟨bp, off, none⟩) pn pc]) := by
              refine ⟨by simpa [HON.out] using hown4, ?_⟩
              have hA := HX2.out.kept (World.grownBy_alloc wr (.cells #[.int .i64 l] 3) none)
              cases hv : (Value.slice a3 x c3).ownBlock with
              | none => rw [hv] at hg4; exact hA.kept hg4
              | some q =>
                rw [hv] at hg4
                have hq := (HW2.out.lt q hv).1
                exact hA.keptRow hg4 hq
            clear hown4 hg4 hloc4 hlt4
            go_wp2_with fail
            go_roundg (pn - ad - (k + 1))
            case measure => have := HGK.out; omega
            case rel => exact ⟨k + 1, by omega, rfl, by go_num, some ⟨g4, 0, none⟩, c4, by rw [HS2.out]; simp [HON.out], HFIN.out.2, by rw [HS2.out]; exact HFIN.out.1⟩
    · have dlt : decide ((ad : Int) + k < (pn : Int)) = false := decide_eq_false (by omega)
      have HKE : Hid (k = pn - ad) := by show _ = _; omega
      go_wp2_with fail
      go_ret
      rw [← HKE.out]
      exact ⟨a3, c3, rfl, owns_lower HW.out (by omega), HX.out.grown⟩

end Go.Proofs.YtckgjolaoifgkaaGreat

namespace Go.Proofs.YtckgjolaoifgkaaGreat
open Go.RowKit

attribute [local go_sem] Oper.semAt_some

set_option maxRecDepth 100000 in
set_option maxHeartbeats 4000000 in
theorem fits_any (ta na la pa : Option Addr) (tn nn ln pn tc nc lc pc ad : Nat) (st : Int) (ts : List (ByteArray × Int)) (ns : List ByteArray) (lv : List Int) (L : Nat → Int) (R : Nat → List Int) (ra : Nat → Option Addr) (rc : Nat → Nat) (V : Nat → Int) (w : World)
    (hG : GAt w ta na la pa tc nc lc pc ts ns lv pn L R ra rc V) (hln : ts.length = tn ∧ ns.length = nn ∧ lv.length = ln) (had : ad ≤ 1) (hadn : ad ≤ nn) (hts : ∀ t ∈ ts, t.1.size ≤ 140737488355328) (hns : ∀ s ∈ ns, s.size ≤ 140737488355328)
    (r : Bool) (hr : r = true ↔ fitsOK ad ts ns lv st pn L R V) :
    Calls Tryz.prog 35 #[.agg #[.slice ta tn tc, .slice na nn nc, .slice la ln lc, .int .i64 st, .slice pa pn pc], .int .i64 ad] w fun e w' => e = .returned (.bool r) ∧ w.grownBy w' none := by
  have HG : Hid (GAt w ta na la pa tc nc lc pc ts ns lv pn L R ra rc V) := hG
  have HLN : Hid (ts.length = tn ∧ ns.length = nn ∧ lv.length = ln) := hln
  have HTS : Hid (∀ t ∈ ts, t.1.size ≤ 140737488355328) := hts
  have HNS : Hid (∀ s ∈ ns, s.size ≤ 140737488355328) := hns
  have HR : Hid (r = true ↔ fitsOK ad ts ns lv st pn L R V) := hr
  have HRF : Hid (¬ fitsOK ad ts ns lv st pn L R V → r = false) := fun hno => Bool.eq_false_iff.2 fun hh => hno (hr.1 hh)
  have HX0 : Hid (PhAt w (w.alloc (.cells #[.slice ta tn tc, .slice na nn nc, .slice la ln lc, .int .i64 st, .slice pa pn pc] 27)) w.heap.size #[.slice ta tn tc, .slice na nn nc, .slice la ln lc, .int .i64 st, .slice pa pn pc]) := ⟨World.grownBy_alloc _ _ none, heap_alloc_last w _⟩
  have hbt : tn ≤ 17592186044416 := by rw [← hln.1]; exact hG.tlen
  have hbn : nn ≤ 17592186044416 := by rw [← hln.2.1]; exact hG.nlen
  have hbl : ln ≤ 17592186044416 := by rw [← hln.2.2]; exact hG.llen
  have hbp := hG.plen
  clear hG hln hts hns hr
  go_enter Tryz.func35, Tryz.ntmps35
  have hcase : (64 + ad < nn ∨ (¬ 64 + ad < nn ∧ 65 < tn) ∨ (¬ 64 + ad < nn ∧ ¬ 65 < tn ∧ 96 + ad < pn) ∨ (¬ 64 + ad < nn ∧ ¬ 65 < tn ∧ ¬ 96 + ad < pn ∧ pn < 1 + ad) ∨ (¬ 64 + ad < nn ∧ ¬ 65 < tn ∧ ¬ 96 + ad < pn ∧ ¬ pn < 1 + ad ∧ 64 < ln)) ∨ (¬ 64 + ad < nn ∧ ¬ 65 < tn ∧ ¬ 96 + ad < pn ∧ ¬ pn < 1 + ad ∧ ¬ 64 < ln) := by omega
  rcases hcase with hc | hc
  · have hf : r = false := HRF.out fun h => by
      obtain ⟨e1, e2, e3⟩ := HLN.out
      have h1 := h.nn
      have h2 := h.tn
      have h3 := h.pn
      have h4 := h.p1
      have h5 := h.ln
      rw [e2] at h1
      rw [e1] at h2
      rw [e3] at h5
      omega
    rcases hc with hc | hc | hc | hc | hc
    all_goals
      first | (have d1 : decide (64 + (ad : Int) < nn) = true := decide_eq_true (by omega)) | (have d1 : decide (64 + (ad : Int) < nn) = false := decide_eq_false (by omega))
      try first | (have d2 : decide (65 < (tn : Int)) = true := decide_eq_true (by omega)) | (have d2 : decide (65 < (tn : Int)) = false := decide_eq_false (by omega))
      try first | (have d3 : decide (96 + (ad : Int) < pn) = true := decide_eq_true (by omega)) | (have d3 : decide (96 + (ad : Int) < pn) = false := decide_eq_false (by omega))
      try first | (have d4 : decide ((pn : Int) < 1 + ad) = true := decide_eq_true (by omega)) | (have d4 : decide ((pn : Int) < 1 + ad) = false := decide_eq_false (by omega))
      try first | (have d5 : decide (64 < (ln : Int)) = true := decide_eq_true (by omega)) | (have d5 : decide (64 < (ln : Int)) = false := decide_eq_false (by omega))
      clear hc
      go_wp2_with fail
      go_ret
      exact ⟨by first | rfl | (rw [hf]; rfl), HX0.out.grown⟩
  · have d1 : decide (64 + (ad : Int) < nn) = false := decide_eq_false (by omega)
    have d2 : decide (65 < (tn : Int)) = false := decide_eq_false (by omega)
    have d3 : decide (96 + (ad : Int) < pn) = false := decide_eq_false (by omega)
    have d4 : decide ((pn : Int) < 1 + ad) = false := decide_eq_false (by omega)
    have d5 : decide (64 < (ln : Int)) = false := decide_eq_false (by omega)
    obtain ⟨h1, h2, h3, h4, h5⟩ := hc
    by_cases h6 : 64 < (tn : Int) - 1 + nn - ad
    · have d6 : decide (64 < (tn : Int) - 1 + nn - ad) = true := decide_eq_true h6
      have hf : r = false := HRF.out fun h => by
        have h7 := h.syms
        rw [HLN.out.1, HLN.out.2.1] at h7
        omega
      go_wp2_with fail
      go_ret
      exact ⟨by first | rfl | (rw [hf]; rfl), HX0.out.grown⟩
    · have d6 : decide (64 < (tn : Int) - 1 + nn - ad) = false := decide_eq_false h6
      obtain ⟨rT, hrT⟩ := boolOf ((0 < ts.length ∧ ts.getD 0 (⟨#[]⟩, 0) = (⟨#[]⟩, 0)) ∧ ∀ i, 1 ≤ i → i < ts.length → termAt ts ln i)
      have KT : Hid (∀ W, w.grownBy W none → Calls Tryz.prog 43 #[.agg #[.slice ta tn tc, .slice na nn nc, .slice la ln lc, .int .i64 st, .slice pa pn pc]] W fun e w' => e = .returned (.bool rT) ∧ W.grownBy w' none) := fun W hg => termsFit_any ta na la pa tn nn ln pn tc nc lc pc st ts W (HG.out.kept hg).terms HLN.out.1 (by omega) HTS.out rT hrT
      have HRT : Hid (rT = true ↔ ((0 < ts.length ∧ ts.getD 0 (⟨#[]⟩, 0) = (⟨#[]⟩, 0)) ∧ ∀ i, 1 ≤ i → i < ts.length → termAt ts ln i)) := hrT
      have HNUM : Hid (¬ 64 + ad < nn ∧ ¬ 65 < tn ∧ ¬ 96 + ad < pn ∧ ¬ pn < 1 + ad ∧ ¬ 64 < ln ∧ ¬ 64 < (tn : Int) - 1 + nn - ad) := ⟨h1, h2, h3, h4, h5, h6⟩
      clear hrT
      go_wp2_with fail
      refine (KT.out _ HX0.out.grown).mono ?_
      rintro e w1 ⟨rfl, hg1⟩
      have HX1 : Hid (PhAt w w1 w.heap.size #[.slice ta tn tc, .slice na nn nc, .slice la ln lc, .int .i64 st, .slice pa pn pc]) := HX0.out.kept hg1
      clear hg1 HX0 KT d1 d2 d3 d4 d5 d6
      cases rT with
      | false =>
        have hf : r = false := HRF.out fun h => by
          have h7 := h.terms
          rw [HLN.out.2.2] at h7
          have := HRT.out.2 h7
          cases this
        go_wp2_with fail
        go_ret
        exact ⟨by first | rfl | (rw [hf]; rfl), HX1.out.grown⟩
      | true =>
        have HTT := HRT.out.1 rfl
        have HT0 : Hid (0 < tn) := by have := HTT.1.1; rw [HLN.out.1] at this; exact this
        obtain ⟨rB, hrB⟩ := boolOf (∀ j, j < lv.length → levelOK ts lv j)
        obtain ⟨rC, hrC⟩ := boolOf (∀ i, ad ≤ i → i < ns.length → nonAt ns ad i)
        obtain ⟨rD, hrD⟩ := boolOf (∀ i, ad ≤ i → i < pn → prodOK tn nn ln ad (L i) (R i) (V i))
        have KB : Hid (∀ W, w.grownBy W none → Calls Tryz.prog 44 #[.agg #[.slice ta tn tc, .slice na nn nc, .slice la ln lc, .int .i64 st, .slice pa pn pc]] W fun e w' => e = .returned (.bool rB) ∧ W.grownBy w' none) := fun W hg => levelsFit_any ta na la pa tn nn ln pn tc nc lc pc st ts lv W (HG.out.kept hg).terms (HG.out.kept hg).levels HLN.out.1 HLN.out.2.2 (by omega) (by omega) rB hrB
        have KC : Hid (∀ W, w.grownBy W none → Calls Tryz.prog 45 #[.agg #[.slice ta tn tc, .slice na nn nc, .slice la ln lc, .int .i64 st, .slice pa pn pc], .int .i64 ad] W fun e w' => e = .returned (.bool rC) ∧ W.grownBy w' none) := fun W hg => nonsFit_any ta na la pa tn nn ln pn tc nc lc pc ad st ns W (HG.out.kept hg).nons HLN.out.2.1 (by omega) hadn HNS.out rC hrC
        have KD : Hid (∀ W, w.grownBy W none → Calls Tryz.prog 46 #[.agg #[.slice ta tn tc, .slice na nn nc, .slice la ln lc, .int .i64 st, .slice pa pn pc], .int .i64 ad, .int .i64 ((tn : Int) + ad)] W fun e w' => e = .returned (.bool rD) ∧ W.grownBy w' none) := fun W hg => prodsFit_any ta na la pa tn nn ln pn tc nc lc pc ad st _ L R ra rc V W (HG.out.kept hg).prods (by omega) HT0.out (by omega) (by omega) (by omega) rfl rD hrD
        obtain ⟨M, hM⟩ : ∃ M, M = (leftsTo (fun i => L (ad + i)) (pn - ad)).length := ⟨_, rfl⟩
        have KL : Hid (∀ W, w.grownBy W none → Calls Tryz.prog 47 #[.agg #[.slice ta tn tc, .slice na nn nc, .slice la ln lc, .int .i64 st, .slice pa pn pc], .int .i64 ad] W fun e w' => ∃ a' c', e = .returned (.slice a' M c') ∧ W.grownBy w' none) := fun W hg => (rlefts_any ta na la pa tn nn ln pn tc nc lc pc ad st L R ra rc V W (HG.out.kept hg).prods (by omega) (by omega) (fun k => leftsTo (fun i => L (ad + i)) k) (fun _ => rfl)).mono fun e w' h => by
          obtain ⟨a', c', he, _, hg'⟩ := h
          exact ⟨a', c', by rw [hM]; exact he, hg'⟩
        have HRB : Hid (rB = true ↔ ∀ j, j < lv.length → levelOK ts lv j) := hrB
        have HRC : Hid (rC = true ↔ ∀ i, ad ≤ i → i < ns.length → nonAt ns ad i) := hrC
        have HRD : Hid (rD = true ↔ ∀ i, ad ≤ i → i < pn → prodOK tn nn ln ad (L i) (R i) (V i)) := hrD
        have HM : Hid (M = (leftsTo (fun i => L (ad + i)) (pn - ad)).length) := hM
        have HEQ : Hid (r = true ↔ rB = true ∧ rC = true ∧ rD = true ∧ (M : Int) = (nn : Int) - ad ∧ (tn : Int) + ad ≤ st ∧ st < (tn : Int) + nn) := by
          show _ ↔ _
          rw [HR.out, HRB.out, HRC.out, HRD.out]
          obtain ⟨e1, e2, e3⟩ := HLN.out
          constructor
          · intro h
            have h7 := h.prods
            have h8 := h.lefts
            have h9 := h.start
            rw [e1, e2, e3] at h7
            rw [e2, ← hM] at h8
            rw [e1, e2] at h9
            exact ⟨h.levels, h.nons, h7, by omega, h9.1, h9.2⟩
          · rintro ⟨q1, q2, q3, q4, q5, q6⟩
            have HT' := HTT
            refine ⟨by rw [e2]; omega, by rw [e1]; omega, by omega, by omega, by rw [e3]; omega, by rw [e1, e2]; omega, by rw [e3]; exact HT', q1, q2, by rw [e1, e2, e3]; exact q3, by rw [e2, ← hM]; omega, by rw [e1, e2]; exact ⟨q5, q6⟩⟩
        have hMb : M ≤ 97 := by rw [hM]; exact Nat.le_trans (leftsTo_le _ _) (by omega)
        clear hrB hrC hrD hM HTT
        obtain ⟨m0, m1, m2, m3, m4⟩ := HX1.out.cells
        go_wp2_with fail
        refine (KB.out _ HX1.out.grown).mono ?_
        rintro e w2 ⟨rfl, hg2⟩
        have HX2 : Hid (PhAt w w2 w.heap.size #[.slice ta tn tc, .slice na nn nc, .slice la ln lc, .int .i64 st, .slice pa pn pc]) := HX1.out.kept hg2
        clear hg2 HX1 KB m0 m1 m2 m3 m4
        obtain ⟨m0, m1, m2, m3, m4⟩ := HX2.out.cells
        go_wp2_with fail
        refine (KC.out _ HX2.out.grown).mono ?_
        rintro e w3 ⟨rfl, hg3⟩
        have HX3 : Hid (PhAt w w3 w.heap.size #[.slice ta tn tc, .slice na nn nc, .slice la ln lc, .int .i64 st, .slice pa pn pc]) := HX2.out.kept hg3
        clear hg3 HX2 KC m0 m1 m2 m3 m4
        obtain ⟨m0, m1, m2, m3, m4⟩ := HX3.out.cells
        go_wp2_with fail
        refine (KD.out _ HX3.out.grown).mono ?_
        rintro e w4 ⟨rfl, hg4⟩
        have HX4 : Hid (PhAt w w4 w.heap.size #[.slice ta tn tc, .slice na nn nc, .slice la ln lc, .int .i64 st, .slice pa pn pc]) := HX3.out.kept hg4
        clear hg4 HX3 KD m0 m1 m2 m3 m4
        obtain ⟨m0, m1, m2, m3, m4⟩ := HX4.out.cells
        go_wp2_with fail
        refine (KL.out _ HX4.out.grown).mono ?_
        rintro e w5 ⟨la', lc', rfl, hg5⟩
        have HX5 : Hid (PhAt w w5 w.heap.size #[.slice ta tn tc, .slice na nn nc, .slice la ln lc, .int .i64 st, .slice pa pn pc]) := HX4.out.kept hg5
        clear hg5 HX4 KL m0 m1 m2 m3 m4
        go_wp2_with fail
        have hA : (fun x => PhAt w x w.heap.size #[.slice ta tn tc, .slice na nn nc, .slice la ln lc, .int .i64 st, .slice pa pn pc]) w5.drew := HX5.out.kept (grown_drewN w5 1)
        haveI hne : Nonempty (WBox (fun x => PhAt w x w.heap.size #[.slice ta tn tc, .slice na nn nc, .slice la ln lc, .int .i64 st, .slice pa pn pc])) := ⟨⟨_, hA⟩⟩
        have g0 := fun s : WBox (fun x => PhAt w x w.heap.size #[.slice ta tn tc, .slice na nn nc, .slice la ln lc, .int .i64 st, .slice pa pn pc]) => s.ok.cells.1
        have g1 := fun s : WBox (fun x => PhAt w x w.heap.size #[.slice ta tn tc, .slice na nn nc, .slice la ln lc, .int .i64 st, .slice pa pn pc]) => s.ok.cells.2.1
        have g2 := fun s : WBox (fun x => PhAt w x w.heap.size #[.slice ta tn tc, .slice na nn nc, .slice la ln lc, .int .i64 st, .slice pa pn pc]) => s.ok.cells.2.2.1
        have g3 := fun s : WBox (fun x => PhAt w x w.heap.size #[.slice ta tn tc, .slice na nn nc, .slice la ln lc, .int .i64 st, .slice pa pn pc]) => s.ok.cells.2.2.2.1
        have g4 := fun s : WBox (fun x => PhAt w x w.heap.size #[.slice ta tn tc, .slice na nn nc, .slice la ln lc, .int .i64 st, .slice pa pn pc]) => s.ok.cells.2.2.2.2
        have K1 : Hid (∀ s : WBox (fun x => PhAt w x w.heap.size #[.slice ta tn tc, .slice na nn nc, .slice la ln lc, .int .i64 st, .slice pa pn pc]), Calls Tryz.prog 27 #[.agg #[.slice ta tn tc, .slice na nn nc, .slice la ln lc, .int .i64 st, .slice pa pn pc]] s.w fun e w' => e = .returned (.int .i64 ((tn : Int) + nn)) ∧ ∃ s' : WBox (fun x => PhAt w x w.heap.size #[.slice ta tn tc, .slice na nn nc, .slice la ln lc, .int .i64 st, .slice pa pn pc]), w' = s'.w) := fun s => calls_class ((symbols_any ta na la pa tn nn ln pn tc nc lc pc st s.w (by omega) (by omega)).mono fun e w' h => ⟨h.1, s.ok.kept h.2⟩)
        have hcase : (rB = false ∨ (rB = true ∧ rC = false) ∨ (rB = true ∧ rC = true ∧ rD = false) ∨ (rB = true ∧ rC = true ∧ rD = true ∧ ¬ (M : Int) = (nn : Int) - ad) ∨ (rB = true ∧ rC = true ∧ rD = true ∧ (M : Int) = (nn : Int) - ad ∧ ¬ (tn : Int) + ad ≤ st)) ∨ (rB = true ∧ rC = true ∧ rD = true ∧ (M : Int) = (nn : Int) - ad ∧ (tn : Int) + ad ≤ st) := by
          cases rB <;> cases rC <;> cases rD <;> simp <;> omega
        rcases hcase with hc | hc
        · have hf : r = false := Bool.eq_false_iff.2 fun hh => by
            obtain ⟨q1, q2, q3, q4, q5, q6⟩ := HEQ.out.1 hh
            subst q1 q2 q3
            simp at hc
            omega
          rcases hc with hc | ⟨hc, hc2⟩ | ⟨hc, hc2, hc3⟩ | ⟨hc, hc2, hc3, hc4⟩ | ⟨hc, hc2, hc3, hc4, hc5⟩
          all_goals
            try subst hc
            try subst hc2
            try subst hc3
            try first | (have d6 : ((M : Int) == (nn : Int) - ad) = true := beq_iff_eq.2 (by omega)) | (have d6 : ((M : Int) == (nn : Int) - ad) = false := beq_eq_false_iff_ne.2 (by omega))
            try first | (have d7 : decide ((tn : Int) + ad ≤ st) = true := decide_eq_true (by omega)) | (have d7 : decide ((tn : Int) + ad ≤ st) = false := decide_eq_false (by omega))
            try clear hc5
            try clear hc4
            refine wp_region_class (p := fun x => PhAt w x w.heap.size #[.slice ta tn tc, .slice na nn nc, .slice la ln lc, .int .i64 st, .slice pa pn pc]) (by kernel_rfl) (by kernel_rfl) hA ?_
            repeat (go_big_quiet_step (first | (go_at_call 27; rename_i s; with_reducible exact K1.out s)))
            refine wpQuiet_nil ?_
            rintro _ ⟨s, rfl⟩
            go_wp2_with fail
            go_ret
            exact ⟨by first | rfl | (rw [hf]; rfl), s.ok.grown⟩
        · obtain ⟨hc, hc2, hc3, hc4, hc5⟩ := hc
          subst hc hc2 hc3
          have HFIN : Hid (decide (st < (tn : Int) + nn) = r) := by
            show _ = _
            rw [Bool.eq_iff_iff, HEQ.out, decide_eq_true_eq]
            exact ⟨fun h => ⟨rfl, rfl, rfl, hc4, hc5, h⟩, fun h => h.2.2.2.2.2⟩
          have d6 : ((M : Int) == (nn : Int) - ad) = true := beq_iff_eq.2 hc4
          have d7 : decide ((tn : Int) + ad ≤ st) = true := decide_eq_true hc5
          clear hc4 hc5
          refine wp_region_class (p := fun x => PhAt w x w.heap.size #[.slice ta tn tc, .slice na nn nc, .slice la ln lc, .int .i64 st, .slice pa pn pc]) (by kernel_rfl) (by kernel_rfl) hA ?_
          repeat (go_big_quiet_step (first | (go_at_call 27; rename_i s; with_reducible exact K1.out s)))
          refine wpQuiet_nil ?_
          rintro _ ⟨s, rfl⟩
          go_wp2_with fail
          go_ret
          exact ⟨by rw [← HFIN.out]; rfl, s.ok.grown⟩

end Go.Proofs.YtckgjolaoifgkaaGreat

/-
  The document's Valid of any grammar.
-/
namespace Go.Proofs.YtckgjolaoifgkaaGreat
open Go.RowKit

attribute [local go_sem] Oper.semAt_some

end Go.Proofs.YtckgjolaoifgkaaGreat

/-
  The document's Same of two grammars, walked.
-/
namespace Go.Proofs.YtckgjolaoifgkaaGreat
open Go.RowKit Go.Maps Go.Shelf

attribute [local go_sem] Oper.semAt_some

section
variable (ta na la pa ta' na' la' pa' : Option Addr) (tn nn ln pn tc nc lc pc tn' nn' ln' pn' tc' nc' lc' pc' : Nat) (st st' : Int)

set_option maxRecDepth 100000 in
set_option maxHeartbeats 1000000 in
theorem rsame_short (w : World) (rL : Bool) (hno : ¬ (rL = true ∧ st = st' ∧ tn = tn' ∧ nn = nn' ∧ pn = pn'))
    (hL : ∀ W, w.grownBy W none → Calls Tryz.prog 21 #[.slice la ln lc, .slice la' ln' lc'] W fun e w' => e = .returned (.bool rL) ∧ W.grownBy w' none) :
    Calls Tryz.prog 11 #[.agg #[.slice ta tn tc, .slice na nn nc, .slice la ln lc, .int .i64 st, .slice pa pn pc], .agg #[.slice ta' tn' tc', .slice na' nn' nc', .slice la' ln' lc', .int .i64 st', .slice pa' pn' pc']] w fun e w' => e = .returned (.bool false) ∧ w.grownBy w' none := by
  have HL : Hid (∀ W, w.grownBy W none → Calls Tryz.prog 21 #[.slice la ln lc, .slice la' ln' lc'] W fun e w' => e = .returned (.bool rL) ∧ W.grownBy w' none) := hL
  have HX : Hid (Ph2 w _ #[.slice ta tn tc, .slice na nn nc, .slice la ln lc, .int .i64 st, .slice pa pn pc] #[.slice ta' tn' tc', .slice na' nn' nc', .slice la' ln' lc', .int .i64 st', .slice pa' pn' pc']) := Ph2.mk' w _ _
  have HNO : Hid (¬ (rL = true ∧ st = st' ∧ tn = tn' ∧ nn = nn' ∧ pn = pn')) := hno
  clear hL hno
  go_enter Tryz.func11, Tryz.ntmps11
  go_wp2_with fail
  refine (HL.out _ HX.out.grown).mono ?_
  rintro e w1 ⟨rfl, hg1⟩
  have HX1 : Hid (Ph2 w w1 #[.slice ta tn tc, .slice na nn nc, .slice la ln lc, .int .i64 st, .slice pa pn pc] #[.slice ta' tn' tc', .slice na' nn' nc', .slice la' ln' lc', .int .i64 st', .slice pa' pn' pc']) := HX.out.kept hg1
  clear hg1 HX HL
  obtain ⟨⟨m0, m1, m2, m3, m4⟩, n0, n1, n2, n3, n4⟩ := HX1.out.cells
  cases rL with
  | false =>
    go_wp2_with fail
    go_ret
    exact ⟨rfl, HX1.out.grown⟩
  | true =>
    by_cases h1 : st = st'
    · have d1 : (st != st') = false := by simp [h1]
      have H1 : Hid (st = st') := h1
      clear h1
      by_cases h2 : tn = tn'
      · have d2 : ((tn : Int) != (tn' : Int)) = false := by simp [h2]
        have H2 : Hid (tn = tn') := h2
        clear h2
        by_cases h3 : nn = nn'
        · have d3 : ((nn : Int) != (nn' : Int)) = false := by simp [h3]
          have H3 : Hid (nn = nn') := h3
          clear h3
          by_cases h4 : pn = pn'
          · exact absurd ⟨rfl, H1.out, H2.out, H3.out, h4⟩ HNO.out
          · have d4 : ((pn : Int) != (pn' : Int)) = true := by simp; omega
            clear h4
            go_wp2_with fail
            go_ret
            exact ⟨rfl, HX1.out.grown⟩
        · have d3 : ((nn : Int) != (nn' : Int)) = true := by simp; omega
          clear h3
          go_wp2_with fail
          go_ret
          exact ⟨rfl, HX1.out.grown⟩
      · have d2 : ((tn : Int) != (tn' : Int)) = true := by simp; omega
        clear h2
        go_wp2_with fail
        go_ret
        exact ⟨rfl, HX1.out.grown⟩
    · have d1 : (st != st') = true := by simp [h1]
      clear h1
      go_wp2_with fail
      go_ret
      exact ⟨rfl, HX1.out.grown⟩
end

theorem prod2_cells {w W : World} {l1 l2 v1 v2 : Int} {s1 s2 : Value} (hg : ((w.alloc (.cells #[.int .i64 l1, s1, .int .i64 v1] 46)).alloc (.cells #[.int .i64 l2, s2, .int .i64 v2] 46)).grownBy W none) :
    W.cell? ⟨w.heap.size, 0, none⟩ = some (.int .i64 l1) ∧ W.cell? ⟨w.heap.size, 2, none⟩ = some (.int .i64 v1) ∧ W.cell? ⟨w.heap.size + 1, 0, none⟩ = some (.int .i64 l2) ∧ W.cell? ⟨w.heap.size + 1, 2, none⟩ = some (.int .i64 v2) := by
  have h1 := heap_alloc_last w (.cells #[.int .i64 l1, s1, .int .i64 v1] 46)
  have h2 := heap_alloc_last (w.alloc (.cells #[.int .i64 l1, s1, .int .i64 v1] 46)) (.cells #[.int .i64 l2, s2, .int .i64 v2] 46)
  rw [World.size_alloc] at h2
  have h1' := ((World.grownBy_alloc (w.alloc (.cells #[.int .i64 l1, s1, .int .i64 v1] 46)) (.cells #[.int .i64 l2, s2, .int .i64 v2] 46) none).block _ (Array.getElem?_eq_some_iff.1 h1).1 (by simp)).trans h1
  have g1 := (hg.block _ (Array.getElem?_eq_some_iff.1 h1').1 (by simp)).trans h1'
  have g2 := (hg.block _ (Array.getElem?_eq_some_iff.1 h2).1 (by simp)).trans h2
  refine ⟨?_, ?_, ?_, ?_⟩
  · rw [cell_of_row _ _ _ _ _ _ g1]; rfl
  · rw [cell_of_row _ _ _ _ _ _ g1]; rfl
  · rw [cell_of_row _ _ _ _ _ _ g2]; rfl
  · rw [cell_of_row _ _ _ _ _ _ g2]; rfl

section
variable (ta na la pa ta' na' la' pa' : Option Addr) (tn nn ln pn tc nc lc pc ln' tc' nc' lc' pc' : Nat) (st : Int)

set_option maxRecDepth 100000 in
set_option maxHeartbeats 2000000 in
theorem rsame_long (w : World) (ts ts' : List (ByteArray × Int)) (ns ns' : List ByteArray) (L1 L2 V1 V2 : Nat → Int) (R1 R2 : Nat → List Int) (ra1 ra2 : Nat → Option Addr) (rc1 rc2 : Nat → Nat)
    (hlen : ts.length = tn ∧ ts'.length = tn ∧ ns.length = nn ∧ ns'.length = nn) (hT1 : TermsAt w ta ts) (hT2 : TermsAt w ta' ts') (hN1 : StrsAt w na ns) (hN2 : StrsAt w na' ns') (hP1 : ProdsAt w pa pn L1 R1 ra1 rc1 V1) (hP2 : ProdsAt w pa' pn L2 R2 ra2 rc2 V2)
    (hbt : tn ≤ 17592186044416) (hbn : nn ≤ 17592186044416) (hbp : pn ≤ 17592186044416) (r : Bool) (hr : r = true ↔ (ts = ts' ∧ ns = ns' ∧ prodsSame pn pn L1 R1 V1 L2 R2 V2))
    (hL : ∀ W, w.grownBy W none → Calls Tryz.prog 21 #[.slice la ln lc, .slice la' ln' lc'] W fun e w' => e = .returned (.bool true) ∧ W.grownBy w' none) :
    Calls Tryz.prog 11 #[.agg #[.slice ta tn tc, .slice na nn nc, .slice la ln lc, .int .i64 st, .slice pa pn pc], .agg #[.slice ta' tn tc', .slice na' nn nc', .slice la' ln' lc', .int .i64 st, .slice pa' pn pc']] w fun e w' => e = .returned (.bool r) ∧ w.grownBy w' none := by
  have HL : Hid (∀ W, w.grownBy W none → Calls Tryz.prog 21 #[.slice la ln lc, .slice la' ln' lc'] W fun e w' => e = .returned (.bool true) ∧ W.grownBy w' none) := hL
  have HX0 : Hid (Ph2 w _ #[.slice ta tn tc, .slice na nn nc, .slice la ln lc, .int .i64 st, .slice pa pn pc] #[.slice ta' tn tc', .slice na' nn nc', .slice la' ln' lc', .int .i64 st, .slice pa' pn pc']) := Ph2.mk' w _ _
  have HR : Hid (r = true ↔ (ts = ts' ∧ ns = ns' ∧ prodsSame pn pn L1 R1 V1 L2 R2 V2)) := hr
  have HLEN : Hid (ts.length = tn ∧ ts'.length = tn ∧ ns.length = nn ∧ ns'.length = nn) := hlen
  have HT1 : Hid (TermsAt w ta ts) := hT1
  have HT2 : Hid (TermsAt w ta' ts') := hT2
  have HN1 : Hid (StrsAt w na ns) := hN1
  have HN2 : Hid (StrsAt w na' ns') := hN2
  have HP1 : Hid (ProdsAt w pa pn L1 R1 ra1 rc1 V1) := hP1
  have HP2 : Hid (ProdsAt w pa' pn L2 R2 ra2 rc2 V2) := hP2
  clear hL hr hlen hT1 hT2 hN1 hN2 hP1 hP2
  go_enter Tryz.func11, Tryz.ntmps11
  go_wp2_with fail
  refine (HL.out _ HX0.out.grown).mono ?_
  rintro e w1 ⟨rfl, hg1⟩
  have HX1 : Hid (Ph2 w w1 #[.slice ta tn tc, .slice na nn nc, .slice la ln lc, .int .i64 st, .slice pa pn pc] #[.slice ta' tn tc', .slice na' nn nc', .slice la' ln' lc', .int .i64 st, .slice pa' pn pc']) := HX0.out.kept hg1
  clear hg1 HX0 HL
  obtain ⟨⟨m0, m1, m2, m3, m4⟩, n0, n1, n2, n3, n4⟩ := HX1.out.cells
  have d1 : (st != st) = false := bne_self_eq_false _
  have d2 : ((tn : Int) != (tn : Int)) = false := bne_self_eq_false _
  have d3 : ((nn : Int) != (nn : Int)) = false := bne_self_eq_false _
  have d4 : ((pn : Int) != (pn : Int)) = false := bne_self_eq_false _
  go_wp2_with fail
  clear m0 m1 m2 m3 m4 n0 n1 n2 n3 n4 d1 d2 d3 d4
  go_loopw [6] (fun i wr => ∃ k : Nat, k ≤ tn ∧ i = .int .i64 k ∧ Ph2 w wr #[.slice ta tn tc, .slice na nn nc, .slice la ln lc, .int .i64 st, .slice pa pn pc] #[.slice ta' tn tc', .slice na' nn nc', .slice la' ln' lc', .int .i64 st, .slice pa' pn pc'] ∧ ∀ j, j < k → ts.getD j (⟨#[]⟩, 0) = ts'.getD j (⟨#[]⟩, 0)) (fun i _ => tn - (intOf i).toNat)
  case atStart => exact ⟨0, Nat.zero_le _, rfl, HX1.out, fun j hj => by omega⟩
  case round =>
    clear HX1
    obtain ⟨k, hk, rfl, hX, hall⟩ := hrel
    have HX : Hid (Ph2 w wr #[.slice ta tn tc, .slice na nn nc, .slice la ln lc, .int .i64 st, .slice pa pn pc] #[.slice ta' tn tc', .slice na' nn nc', .slice la' ln' lc', .int .i64 st, .slice pa' pn pc']) := hX
    have HA : Hid (∀ j, j < k → ts.getD j (⟨#[]⟩, 0) = ts'.getD j (⟨#[]⟩, 0)) := hall
    clear hX hall
    by_cases hlt : k < tn
    · clear HP1 HP2 HN1 HN2
      obtain ⟨b1, o1, rfl, hc1⟩ : ∃ b off, ta = some ⟨b, off, none⟩ ∧ ∀ i, i < ts.length → wr.cell? ⟨b, off + i * 2, none⟩ = some (.string (ts.getD i (⟨#[]⟩, 0)).1) ∧ wr.cell? ⟨b, off + i * 2 + 1, none⟩ = some (.int .i64 (ts.getD i (⟨#[]⟩, 0)).2) := by
        rcases HT1.out.kept HX.out.grown with h | h
        · have := HLEN.out; subst h; simp at this; omega
        · exact h
      obtain ⟨b2, o2, rfl, hc2⟩ : ∃ b off, ta' = some ⟨b, off, none⟩ ∧ ∀ i, i < ts'.length → wr.cell? ⟨b, off + i * 2, none⟩ = some (.string (ts'.getD i (⟨#[]⟩, 0)).1) ∧ wr.cell? ⟨b, off + i * 2 + 1, none⟩ = some (.int .i64 (ts'.getD i (⟨#[]⟩, 0)).2) := by
        rcases HT2.out.kept HX.out.grown with h | h
        · have := HLEN.out; subst h; simp at this; omega
        · exact h
      obtain ⟨e1, e3⟩ := hc1 k (by rw [HLEN.out.1]; exact hlt)
      obtain ⟨e2, e4⟩ := hc2 k (by rw [HLEN.out.2.1]; exact hlt)
      obtain ⟨⟨m0, _⟩, n0, _⟩ := HX.out.cells
      have HF : Hid (ts.getD k (⟨#[]⟩, 0) ≠ ts'.getD k (⟨#[]⟩, 0) → r = false) := fun h => Bool.eq_false_iff.2 fun hh => h (by rw [(HR.out.1 hh).1])
      have HS : Hid (ts.getD k (⟨#[]⟩, 0) = ts'.getD k (⟨#[]⟩, 0) → ∀ j, j < k + 1 → ts.getD j (⟨#[]⟩, 0) = ts'.getD j (⟨#[]⟩, 0)) := fun h j hj => by
        by_cases e : j = k
        · rw [e]; exact h
        · exact HA.out j (by omega)
      clear hc1 hc2
      generalize ts.getD k (⟨#[]⟩, 0) = x at *
      generalize ts'.getD k (⟨#[]⟩, 0) = y at *
      obtain ⟨x, u⟩ := x
      obtain ⟨y, v⟩ := y
      have hne := neqTerm x y u v
      by_cases hxy : (x, u) = (y, v)
      · have hd : (x.toList == y.toList && u == v) = true := by simp at hxy; simp [hxy]
        have hne' : ∀ w, (binOp .neq 63 (.agg #[.string x, .int .i64 u]) (.agg #[.string y, .int .i64 v])).run Tryz.prog w = .ok (.bool false) w := fun w => by rw [hne, hd]; rfl
        have HS' := HS.out hxy
        have HS2 : Hid (∀ j, j < k + 1 → ts.getD j (⟨#[]⟩, 0) = ts'.getD j (⟨#[]⟩, 0)) := HS'
        clear hxy HS' HS HF hd hne
        go_wp2_with fail
        go_quiet (fail)
        go_wp2
        go_roundw
        case rel => exact ⟨k + 1, by omega, by go_num, HX.out.kept (grown_drewN _ _), HS2.out⟩
        case measure => simp [intOf]; omega
      · have hd : (x.toList == y.toList && u == v) = false := by
          rw [Bool.eq_false_iff]
          intro h
          simp only [Bool.and_eq_true, beq_iff_eq, bytes_toList] at h
          exact hxy (by rw [h.1, h.2])
        have hne' : ∀ w, (binOp .neq 63 (.agg #[.string x, .int .i64 u]) (.agg #[.string y, .int .i64 v])).run Tryz.prog w = .ok (.bool true) w := fun w => by rw [hne, hd]; rfl
        have hrf := HF.out hxy
        clear hxy HS HF hd hne
        go_wp2_with fail
        go_quiet (fail)
        go_wp2
        go_ret
        exact ⟨by rw [hrf]; rfl, grown_trans HX.out.grown (grown_drewN _ _)⟩
    · obtain rfl : tn = k := by omega
      have HTS : Hid (ts = ts') := list_same (⟨#[]⟩, 0) (by rw [HLEN.out.1, HLEN.out.2.1]) fun i hi => HA.out i (by rw [← HLEN.out.1]; exact hi)
      clear HA hlt hk HT1 HT2
      obtain ⟨⟨m0, _⟩, n0, _⟩ := HX.out.cells
      go_wp2_with fail
      clear m0 n0
      go_loopw [7] (fun i wr => ∃ k : Nat, k ≤ nn ∧ i = .int .i64 k ∧ Ph2 w wr #[.slice ta tn tc, .slice na nn nc, .slice la ln lc, .int .i64 st, .slice pa pn pc] #[.slice ta' tn tc', .slice na' nn nc', .slice la' ln' lc', .int .i64 st, .slice pa' pn pc'] ∧ ∀ j, j < k → ns.getD j ⟨#[]⟩ = ns'.getD j ⟨#[]⟩) (fun i _ => nn - (intOf i).toNat)
      case atStart => exact ⟨0, Nat.zero_le _, rfl, HX.out, fun j hj => by omega⟩
      case round =>
        clear HX
        obtain ⟨k, hk, rfl, hX, hall⟩ := hrel
        have HX : Hid (Ph2 w wr #[.slice ta tn tc, .slice na nn nc, .slice la ln lc, .int .i64 st, .slice pa pn pc] #[.slice ta' tn tc', .slice na' nn nc', .slice la' ln' lc', .int .i64 st, .slice pa' pn pc']) := hX
        have HA : Hid (∀ j, j < k → ns.getD j ⟨#[]⟩ = ns'.getD j ⟨#[]⟩) := hall
        clear hX hall
        by_cases hlt : k < nn
        · clear HP1 HP2
          obtain ⟨b1, o1, rfl, hc1⟩ : ∃ b off, na = some ⟨b, off, none⟩ ∧ ∀ i, i < ns.length → wr.cell? ⟨b, off + i, none⟩ = some (.string (ns.getD i ⟨#[]⟩)) := by
            rcases HN1.out.kept HX.out.grown with h | h
            · have := HLEN.out; subst h; simp at this; omega
            · exact h
          obtain ⟨b2, o2, rfl, hc2⟩ : ∃ b off, na' = some ⟨b, off, none⟩ ∧ ∀ i, i < ns'.length → wr.cell? ⟨b, off + i, none⟩ = some (.string (ns'.getD i ⟨#[]⟩)) := by
            rcases HN2.out.kept HX.out.grown with h | h
            · have := HLEN.out; subst h; simp at this; omega
            · exact h
          have e1 := hc1 k (by rw [HLEN.out.2.2.1]; exact hlt)
          have e2 := hc2 k (by rw [HLEN.out.2.2.2]; exact hlt)
          obtain ⟨⟨_, m1, _⟩, _, n1, _⟩ := HX.out.cells
          have HF : Hid (ns.getD k ⟨#[]⟩ ≠ ns'.getD k ⟨#[]⟩ → r = false) := fun h => Bool.eq_false_iff.2 fun hh => h (by rw [(HR.out.1 hh).2.1])
          have HS : Hid (ns.getD k ⟨#[]⟩ = ns'.getD k ⟨#[]⟩ → ∀ j, j < k + 1 → ns.getD j ⟨#[]⟩ = ns'.getD j ⟨#[]⟩) := fun h j hj => by
            by_cases e : j = k
            · rw [e]; exact h
            · exact HA.out j (by omega)
          clear hc1 hc2
          generalize ns.getD k ⟨#[]⟩ = x at *
          generalize ns'.getD k ⟨#[]⟩ = y at *
          by_cases hxy : x = y
          · have hd : (x.toList == y.toList) = true := by simp [hxy]
            have HS' := HS.out hxy
            have HS2 : Hid (∀ j, j < k + 1 → ns.getD j ⟨#[]⟩ = ns'.getD j ⟨#[]⟩) := HS'
            clear hxy HS' HS HF
            go_wp2_with fail
            go_quiet (fail)
            go_wp2
            go_roundw
            case rel => exact ⟨k + 1, by omega, by go_num, HX.out.kept (grown_drewN _ _), HS2.out⟩
            case measure => simp [intOf]; omega
          · have hd : (x.toList == y.toList) = false := beq_eq_false_iff_ne.2 fun h => hxy ((bytes_toList x y).1 h)
            have hrf := HF.out hxy
            clear hxy HS HF
            go_wp2_with fail
            go_quiet (fail)
            go_wp2
            go_ret
            exact ⟨by rw [hrf]; rfl, grown_trans HX.out.grown (grown_drewN _ _)⟩
        · obtain rfl : nn = k := by omega
          have HNS : Hid (ns = ns') := list_same ⟨#[]⟩ (by rw [HLEN.out.2.2.1, HLEN.out.2.2.2]) fun i hi => HA.out i (by rw [← HLEN.out.2.2.1]; exact hi)
          clear HA hlt hk HN1 HN2
          obtain ⟨⟨_, m1, _⟩, _, n1, _⟩ := HX.out.cells
          go_wp2_with fail
          clear m1 n1
          go_loopw [8] (fun i wr => ∃ k : Nat, k ≤ pn ∧ i = .int .i64 k ∧ Ph2 w wr #[.slice ta tn tc, .slice na nn nc, .slice la ln lc, .int .i64 st, .slice pa pn pc] #[.slice ta' tn tc', .slice na' nn nc', .slice la' ln' lc', .int .i64 st, .slice pa' pn pc'] ∧ ∀ j, j < k → L1 j = L2 j ∧ R1 j = R2 j ∧ V1 j = V2 j) (fun i _ => pn - (intOf i).toNat)
          case atStart => exact ⟨0, Nat.zero_le _, rfl, HX.out, fun j hj => by omega⟩
          case round =>
            clear HX
            obtain ⟨k, hk, rfl, hX, hall⟩ := hrel
            have HX : Hid (Ph2 w wr #[.slice ta tn tc, .slice na nn nc, .slice la ln lc, .int .i64 st, .slice pa pn pc] #[.slice ta' tn tc', .slice na' nn nc', .slice la' ln' lc', .int .i64 st, .slice pa' pn pc']) := hX
            have HA : Hid (∀ j, j < k → L1 j = L2 j ∧ R1 j = R2 j ∧ V1 j = V2 j) := hall
            clear hX hall
            by_cases hlt : k < pn
            · obtain ⟨b1, o1, rfl, hc1⟩ : ∃ b off, pa = some ⟨b, off, none⟩ ∧ ∀ k, k < pn → w.cell? ⟨b, off + k * 3, none⟩ = some (.int .i64 (L1 k)) ∧ w.cell? ⟨b, off + k * 3 + 1, none⟩ = some (.slice (ra1 k) (R1 k).length (rc1 k)) ∧ w.cell? ⟨b, off + k * 3 + 2, none⟩ = some (.int .i64 (V1 k)) ∧ IntsAt w (ra1 k) (R1 k) ∧ (ra1 k = none → rc1 k = 0) ∧ (R1 k).length ≤ 17592186044416 := by
                rcases HP1.out with h | h
                · omega
                · exact h
              obtain ⟨b2, o2, rfl, hc2⟩ : ∃ b off, pa' = some ⟨b, off, none⟩ ∧ ∀ k, k < pn → w.cell? ⟨b, off + k * 3, none⟩ = some (.int .i64 (L2 k)) ∧ w.cell? ⟨b, off + k * 3 + 1, none⟩ = some (.slice (ra2 k) (R2 k).length (rc2 k)) ∧ w.cell? ⟨b, off + k * 3 + 2, none⟩ = some (.int .i64 (V2 k)) ∧ IntsAt w (ra2 k) (R2 k) ∧ (ra2 k = none → rc2 k = 0) ∧ (R2 k).length ≤ 17592186044416 := by
                rcases HP2.out with h | h
                · omega
                · exact h
              obtain ⟨p1, p2, p3, p4, _, p6⟩ := hc1 k hlt
              obtain ⟨q1, q2, q3, q4, _, _⟩ := hc2 k hlt
              have p1 := HX.out.grown.cell p1 (by simp)
              have p2 := HX.out.grown.cell p2 (by simp)
              have p3 := HX.out.grown.cell p3 (by simp)
              have q1' := fun o => (World.grownBy_alloc wr o none).cell (HX.out.grown.cell q1 (by simp)) (by simp)
              have q2' := fun o => (World.grownBy_alloc wr o none).cell (HX.out.grown.cell q2 (by simp)) (by simp)
              have q3' := fun o => (World.grownBy_alloc wr o none).cell (HX.out.grown.cell q3 (by simp)) (by simp)
              obtain ⟨⟨_, _, _, _, m4⟩, _, _, _, _, n4⟩ := HX.out.cells
              have n4' := fun o => (World.grownBy_alloc wr o none).cell n4 (by simp)
              obtain ⟨rk, hrk⟩ := boolOf (R1 k = R2 k)
              have HC : Hid (∀ W, w.grownBy W none → Calls Tryz.prog 21 #[.slice (ra1 k) (R1 k).length (rc1 k), .slice (ra2 k) (R2 k).length (rc2 k)] W fun e w' => e = .returned (.bool rk) ∧ W.grownBy w' none) := fun W hg =>
                (sameInts_any (ra1 k) (ra2 k) (rc1 k) (rc2 k) (R1 k) (R2 k) W (p4.kept hg) (q4.kept hg) p6 rk hrk).mono fun e w' h => ⟨h.1, by obtain ⟨q, hq⟩ := h.2; rw [hq]; exact grown_drewN _ _⟩
              have HS : Hid (rk = true → L1 k = L2 k → V1 k = V2 k → ∀ j, j < k + 1 → L1 j = L2 j ∧ R1 j = R2 j ∧ V1 j = V2 j) := fun h h1 h2 j hj => by
                by_cases e : j = k
                · rw [e]; exact ⟨h1, hrk.1 h, h2⟩
                · exact HA.out j (by omega)
              have HF1 : Hid (rk = false → r = false) := fun h => Bool.eq_false_iff.2 fun hh => by
                have := hrk.2 ((HR.out.1 hh).2.2.2 k hlt).2.1
                rw [h] at this
                cases this
              have HF2 : Hid (L1 k ≠ L2 k → r = false) := fun h => Bool.eq_false_iff.2 fun hh => h ((HR.out.1 hh).2.2.2 k hlt).1
              have HF3 : Hid (V1 k ≠ V2 k → r = false) := fun h => Bool.eq_false_iff.2 fun hh => h ((HR.out.1 hh).2.2.2 k hlt).2.2
              clear hc1 hc2 p4 q4 p6 q1 q2 q3 hrk n4
              generalize (R1 k).length = z1 at *
              generalize (R2 k).length = z2 at *
              generalize L1 k = l1 at *
              generalize L2 k = l2 at *
              generalize V1 k = v1 at *
              generalize V2 k = v2 at *
              generalize ra1 k = x1 at *
              generalize ra2 k = x2 at *
              generalize rc1 k = y1 at *
              generalize rc2 k = y2 at *
              go_wp2_with fail
              refine (HC.out _ (grown_trans (grown_trans HX.out.grown (World.grownBy_alloc _ _ none)) (World.grownBy_alloc _ _ none))).mono ?_
              rintro e w2 ⟨rfl, hg2⟩
              have HX2 : Hid (Ph2 w w2 #[.slice ta tn tc, .slice na nn nc, .slice la ln lc, .int .i64 st, .slice (some ⟨b1, o1, none⟩) pn pc] #[.slice ta' tn tc', .slice na' nn nc', .slice la' ln' lc', .int .i64 st, .slice (some ⟨b2, o2, none⟩) pn pc']) := HX.out.kept (grown_trans (grown_trans (World.grownBy_alloc _ _ none) (World.grownBy_alloc _ _ none)) hg2)
              obtain ⟨u1, u2, u3, u4⟩ := prod2_cells hg2
              clear hg2 HX HC p1 p2 p3 q1' q2' q3' n4' m4
              cases rk with
              | false =>
                have hrf := HF1.out rfl
                clear HS HF1 HF2 HF3
                go_wp2_with fail
                go_ret
                exact ⟨by rw [hrf]; rfl, HX2.out.grown⟩
              | true =>
                by_cases h1 : l1 = l2
                · have d1 : (l1 != l2) = false := by simp [h1]
                  by_cases h2 : v1 = v2
                  · have d2 : (v1 != v2) = false := by simp [h2]
                    have HS2 : Hid (∀ j, j < k + 1 → L1 j = L2 j ∧ R1 j = R2 j ∧ V1 j = V2 j) := HS.out rfl h1 h2
                    clear HS HF1 HF2 HF3 h1 h2
                    go_wp2_with fail
                    go_roundw
                    case rel => exact ⟨k + 1, by omega, by go_num, HX2.out, HS2.out⟩
                    case measure => simp [intOf]; omega
                  · have d2 : (v1 != v2) = true := by simp [h2]
                    have hrf := HF3.out h2
                    clear HS HF1 HF2 HF3 h1 h2
                    go_wp2_with fail
                    go_ret
                    exact ⟨by rw [hrf]; rfl, HX2.out.grown⟩
                · have d1 : (l1 != l2) = true := by simp [h1]
                  have hrf := HF2.out h1
                  clear HS HF1 HF2 HF3 h1
                  go_wp2_with fail
                  go_ret
                  exact ⟨by rw [hrf]; rfl, HX2.out.grown⟩
            · obtain rfl : pn = k := by omega
              have hrt : r = true := HR.out.2 ⟨HTS.out, HNS.out, rfl, HA.out⟩
              obtain ⟨⟨_, _, _, _, m4⟩, _, _, _, _, n4⟩ := HX.out.cells
              go_wp2_with fail
              go_ret
              exact ⟨by rw [hrt]; rfl, HX.out.grown⟩
end

end Go.Proofs.YtckgjolaoifgkaaGreat

/-
  Same and the document's Same of any two grammars, wherever they lie.
-/
namespace Go.Proofs.YtckgjolaoifgkaaGreat
open Go.RowKit Go.Maps Go.Shelf

section
variable {w : World} {ta na la pa ta' na' la' pa' : Option Addr} {tc nc lc pc tc' nc' lc' pc' : Nat} {ts ts' : List (ByteArray × Int)} {ns ns' : List ByteArray} {lv lv' : List Int} {n n' : Nat} {L L' : Nat → Int} {R R' : Nat → List Int} {ra ra' : Nat → Option Addr} {rc rc' : Nat → Nat} {V V' : Nat → Int} (st st' : Int)

/-- Are two grammars the same? -/
def sameG (ts ts' : List (ByteArray × Int)) (ns ns' : List ByteArray) (lv lv' : List Int) (st st' : Int) (n n' : Nat) (L L' : Nat → Int) (R R' : Nat → List Int) (V V' : Nat → Int) : Prop := ts = ts' ∧ ns = ns' ∧ lv = lv' ∧ st = st' ∧ prodsSame n n' L R V L' R' V'

theorem rsame_any (h : GAt w ta na la pa tc nc lc pc ts ns lv n L R ra rc V) (h' : GAt w ta' na' la' pa' tc' nc' lc' pc' ts' ns' lv' n' L' R' ra' rc' V') (r : Bool) (hr : r = true ↔ sameG ts ts' ns ns' lv lv' st st' n n' L L' R R' V V') :
    Calls Tryz.prog 11 #[.agg #[.slice ta ts.length tc, .slice na ns.length nc, .slice la lv.length lc, .int .i64 st, .slice pa n pc], .agg #[.slice ta' ts'.length tc', .slice na' ns'.length nc', .slice la' lv'.length lc', .int .i64 st', .slice pa' n' pc']] w fun e w' => e = .returned (.bool r) ∧ w.grownBy w' none := by
  obtain ⟨rL, hL⟩ := boolOf (lv = lv')
  have kL : ∀ W, w.grownBy W none → Calls Tryz.prog 21 #[.slice la lv.length lc, .slice la' lv'.length lc'] W fun e w' => e = .returned (.bool rL) ∧ W.grownBy w' none := fun W hg => (sameInts_any la la' lc lc' lv lv' W (h.levels.kept hg) (h'.levels.kept hg) h.llen rL hL).mono fun e w' k => ⟨k.1, by obtain ⟨q, hq⟩ := k.2; rw [hq]; exact grown_drewN _ _⟩
  by_cases hs : rL = true ∧ st = st' ∧ ts.length = ts'.length ∧ ns.length = ns'.length ∧ n = n'
  · obtain ⟨rfl, rfl, h1, h2, rfl⟩ := hs
    have := rsame_long ta na la pa ta' na' la' pa' ts.length ns.length lv.length n tc nc lc pc lv'.length tc' nc' lc' pc' st w ts ts' ns ns' L L' V V' R R' ra ra' rc rc' ⟨rfl, h1.symm, rfl, h2.symm⟩ h.terms h'.terms h.nons h'.nons h.prods h'.prods h.tlen h.nlen h.plen r
      (by rw [hr]; have := hL.1 rfl; simp [sameG, this]) kL
    rwa [← h1, ← h2]
  · have hf : r = false := Bool.eq_false_iff.2 fun hh => hs (by
      obtain ⟨h1, h2, h3, h4, h5, _⟩ := hr.1 hh
      exact ⟨hL.2 h3, h4, by rw [h1], by rw [h2], h5⟩)
    rw [hf]
    exact rsame_short ta na la pa ta' na' la' pa' ts.length ns.length lv.length n tc nc lc pc ts'.length ns'.length lv'.length n' tc' nc' lc' pc' st st' w rL hs kL

end

end Go.Proofs.YtckgjolaoifgkaaGreat

/-
  Term, Non and Start of the document's builder.
-/
namespace Go.Proofs.YtckgjolaoifgkaaGreat
open Go.RowKit

attribute [local go_sem] Oper.semAt_some

def BS.startA (S : BS) (h : Int) : Int × BS := if S.isN h then (0, { S with start := h }) else (1, S)
end Go.Proofs.YtckgjolaoifgkaaGreat

/-
  Grade of the document's builder.
-/
namespace Go.Proofs.YtckgjolaoifgkaaGreat
open Go.RowKit

attribute [local go_sem] Oper.semAt_some

end Go.Proofs.YtckgjolaoifgkaaGreat

/-
  Level of the document's builder.
-/
namespace Go.Proofs.YtckgjolaoifgkaaGreat
open Go.RowKit

attribute [local go_sem] Oper.semAt_some

/-- A list's places: what Level asks of each. -/
def levAsk (S : BS) (hs : List Int) (j : Nat) : Prop := S.isT (hs.getD j 0) = true ∧ S.lev (hs.getD j 0).toNat = 0 ∧ ∀ m, m < j → hs.getD m 0 ≠ hs.getD j 0
/-- The levels, told of the first k. -/
def levTold (S : BS) (K : Int) (hs : List Int) (k : Nat) : Nat → Int := fun j => if (j : Int) ∈ hs.take k then K else S.lev j
def BS.tolds (S : BS) (side K : Int) (hs : List Int) (k : Nat) : BS := { S with lev := levTold S K hs k, sides := S.sides ++ [side] }
end Go.Proofs.YtckgjolaoifgkaaGreat

/-
  Rule of the document's builder.
-/
namespace Go.Proofs.YtckgjolaoifgkaaGreat
open Go.RowKit Go.Maps Go.Shelf

attribute [local go_sem] Oper.semAt_some

end Go.Proofs.YtckgjolaoifgkaaGreat

/-
  Rule of the document's builder, walked.
-/
namespace Go.Proofs.YtckgjolaoifgkaaGreat
open Go.RowKit Go.Maps Go.Shelf

attribute [local go_sem] Oper.semAt_some

end Go.Proofs.YtckgjolaoifgkaaGreat

/-
  Grammar of the document's builder: what is being made, step by step.
-/
namespace Go.Proofs.YtckgjolaoifgkaaGreat
open Go.RowKit Go.Maps Go.Shelf

/-- An append of a row wherever it lies, nil or not, within a region that draws its order. -/
theorem step_append_src {w : World} {ops : Array Oper} {o : Oper} {a : Act} {K : Act → World → Prop} {Q : Exit → Act → World → Prop} {E : Prop} (hg : o.guard = none) (s x : Operand) (t : TypeId)
    (ho : o.op = .call { callee := .builtin .append, args := #[s, x], argTypes := #[t, t] })
    (base : Nat) (e : TypeId) (i : TypeInfo) (z : Value) (size bytes : Nat) (ht : Tryz.prog.underlying t = some (.slice e)) (hi : Tryz.prog.info? e = some i) (hz : i.zero = some z)
    (hsize : i.size = size) (hby : i.bytes = bytes) (hzs : z.cells.size = size) (hsz : 0 < size)
    (v : Value) (n : Nat) (xs : List Value) (hs : a.eval s = v) (hown : w.ownsRow base e size v n xs)
    (xo : Option Addr) (m c : Nat) (news : List Value) (hx : a.eval x = .slice xo m c) (hnil : xo = none → m = 0 ∧ c = 0) (hl : news.length = m * size) (hnews : ∀ ad, xo = some ad → ∀ j u, news[j]? = some u → w.cell? (ad.add j) = some u) (h1 : ∀ u ∈ news, u.oneCell' = true)
    (h63 : n + m ≤ maxLen) (hbytes : (n + m) * bytes ≤ 140737488355328) (hbase : base ≤ w.heap.size)
    (h : ∀ v' w', w'.ownsRow base e size v' (n + m) (xs ++ news) → w.grownBy w' v.ownBlock → K (a.put o.dst v') w') :
    if Region.wanted o (yielded ops a.tmps) = true then Oper.wp Tryz.prog o a w K Q else E := by
  have hw : Region.wanted o (yielded ops a.tmps) = true := by simp [Region.wanted, hg]
  rw [if_pos hw]
  cases xo with
  | some ad => exact wp_append_own w s x t ho base e i z size bytes ht hi hz hsize hby hzs hsz v n xs hs hown ad m c news hx hl (hnews ad rfl) h1 h63 hbytes hbase fun v' w' h2 h3 _ => h v' w' h2 h3
  | none =>
    obtain ⟨rfl, rfl⟩ := hnil rfl
    have hn0 : news = [] := List.eq_nil_of_length_eq_zero (by simpa using hl)
    subst hn0
    have hrun := run_append_owned_none (P := Tryz.prog) (w := w) base t o.type e i size ht hi v n xs hown
    have hk := h v w (by simpa using hown) ⟨rfl, rfl, rfl, Nat.le_refl _, fun _ _ _ => rfl⟩
    unfold Oper.wp
    simp [execOp, ho, resolve, invoke, builtin, hs, hx, hrun, Result.andThen]
    exact hk

/-- The grammar that is being made: the result's cell, the places, the grammar's box and its lists; all behind Y. -/
structure GbAt (Y : World) (H : Nat) (wz : World) (vt vn vl vp : Value) (st : Int) (ts : List (ByteArray × Int)) (ns : List ByteArray) (lv : List Int) (N : Nat) (pl : Nat → Int) (ps : List PR) : Prop where
  hH : Y.heap.size + 2 ≤ H
  grown : Y.grownBy wz none
  res : wz.heap[Y.heap.size]? = some (.cells #[.slice none 0 0, .slice none 0 0, .slice none 0 0, .int .i64 0, .slice none 0 0] 27 (0, 0))
  place : wz.heap[Y.heap.size + 1]? = some (.cells ((List.range N).map fun i => Value.int .i64 (pl i)).toArray 3 (0, 0))
  box : wz.heap[H + 1]? = some (.cells #[vt, vn, vl, .int .i64 st, vp] 27 (0, 0))
  tr : wz.ownsRow (H) 63 2 vt ts.length (tmsL ts)
  nr : wz.ownsRow (H + 2) 9 1 vn ns.length (ns.map Value.string)
  lr : wz.ownsRow (H + 2) 3 1 vl lv.length (lv.map (Value.int .i64))
  pr : ∃ rs : List Value, rs.length = ps.length ∧ wz.ownsRow (H + 2) 46 3 vp ps.length ((ps.zip rs).flatMap fun x => prL x.1 x.2) ∧
    ∀ i, i < ps.length → wz.ownsRow (H + 2) 3 1 (rs.getD i undef) (ps.getD i ⟨0, [], 0⟩).right.length ((ps.getD i ⟨0, [], 0⟩).right.map (Value.int .i64))

section
variable {Y : World} {H : Nat} {wz w' : World} {vt vn vl vp : Value} {st : Int} {ts : List (ByteArray × Int)} {ns : List ByteArray} {lv : List Int} {N : Nat} {pl : Nat → Int} {ps : List PR}

theorem GbAt.lt (h : GbAt Y H wz vt vn vl vp st ts ns lv N pl ps) : H + 1 < wz.heap.size := (Array.getElem?_eq_some_iff.1 h.box).1
theorem GbAt.kept (h : GbAt Y H wz vt vn vl vp st ts ns lv N pl ps) (hg : wz.grownBy w' none) : GbAt Y H w' vt vn vl vp st ts ns lv N pl ps := by
  have hlt := h.lt
  have hH := h.hH
  obtain ⟨rs, e1, e2, e3⟩ := h.pr
  exact ⟨h.hH, grown_trans h.grown hg, (hg.block _ (by omega) (by simp)).trans h.res, (hg.block _ (by omega) (by simp)).trans h.place, (hg.block _ (by omega) (by simp)).trans h.box, h.tr.kept hg (none_ne rfl), h.nr.kept hg (none_ne rfl), h.lr.kept hg (none_ne rfl),
    rs, e1, e2.kept hg (none_ne rfl), fun i hi => (e3 i hi).kept hg (none_ne rfl)⟩
theorem GbAt.cells (h : GbAt Y H wz vt vn vl vp st ts ns lv N pl ps) : wz.cell? ⟨H + 1, 0, none⟩ = some vt ∧ wz.cell? ⟨H + 1, 1, none⟩ = some vn ∧ wz.cell? ⟨H + 1, 2, none⟩ = some vl ∧ wz.cell? ⟨H + 1, 3, none⟩ = some (.int .i64 st) ∧ wz.cell? ⟨H + 1, 4, none⟩ = some vp := by
  refine ⟨?_, ?_, ?_, ?_, ?_⟩ <;> rw [cell_of_row _ _ _ _ _ _ h.box] <;> rfl
theorem GbAt.free (h : GbAt Y H wz vt vn vl vp st ts ns lv N pl ps) (i : Nat) : wz.frozen? ⟨H + 1, i, none⟩ = false := frozen_of_row _ _ i _ _ h.box
/-- A row that has grown by one of its own kind, in its place or elsewhere. -/
theorem GbAt.grew (h : GbAt Y H wz vt vn vl vp st ts ns lv N pl ps) {v : Value} {B e s n : Nat} {xs : List Value} (hv : wz.ownsRow B e s v n xs) (hB : H ≤ B) (he : e ≠ 27) (hg : wz.grownBy w' v.ownBlock) :
    Y.grownBy w' none ∧ w'.heap[Y.heap.size]? = some (.cells #[.slice none 0 0, .slice none 0 0, .slice none 0 0, .int .i64 0, .slice none 0 0] 27 (0, 0)) ∧ w'.heap[Y.heap.size + 1]? = some (.cells ((List.range N).map fun i => Value.int .i64 (pl i)).toArray 3 (0, 0)) ∧ w'.heap[H + 1]? = some (.cells #[vt, vn, vl, .int .i64 st, vp] 27 (0, 0)) := by
  have hlt := h.lt
  have hH := h.hH
  have hne : ∀ q, v.ownBlock = some q → H ≤ q ∧ q ≠ H + 1 := fun q hq => by
    refine ⟨Nat.le_trans hB (hv.lt q hq).1, fun e1 => ?_⟩
    rcases owns_nebox hv h.box he with h1 | h1
    · rw [h1] at hq; cases hq
    · exact h1 (by rw [hq, e1])
  refine ⟨?_, (hg.block _ (by omega) (fun e1 => by have := hne _ e1.symm; omega)).trans h.res, (hg.block _ (by omega) (fun e1 => by have := hne _ e1.symm; omega)).trans h.place, (hg.block _ (by omega) (fun e1 => (hne _ e1.symm).2 rfl)).trans h.box⟩
  cases hq : v.ownBlock with
  | none => rw [hq] at hg; exact grown_trans h.grown hg
  | some q => rw [hq] at hg; exact grown_new h.grown hg (by have := (hne q hq).1; omega)

/-- A store into the box. -/
theorem GbAt.boxed {vt' vn' vl' vp' : Value} {st' : Int} {i : Nat} {u : Value} (hH : Y.heap.size + 2 ≤ H) (hG : Y.grownBy wz none) (hres : wz.heap[Y.heap.size]? = some (.cells #[.slice none 0 0, .slice none 0 0, .slice none 0 0, .int .i64 0, .slice none 0 0] 27 (0, 0))) (hpl : wz.heap[Y.heap.size + 1]? = some (.cells ((List.range N).map fun i => Value.int .i64 (pl i)).toArray 3 (0, 0)))
    (hbox : wz.heap[H + 1]? = some (.cells #[vt, vn, vl, .int .i64 st, vp] 27 (0, 0))) (hset : (#[vt, vn, vl, .int .i64 st, vp] : Array Value).setIfInBounds i u = #[vt', vn', vl', .int .i64 st', vp'])
    (tr : wz.ownsRow (H) 63 2 vt' ts.length (tmsL ts)) (nr : wz.ownsRow (H + 2) 9 1 vn' ns.length (ns.map Value.string)) (lr : wz.ownsRow (H + 2) 3 1 vl' lv.length (lv.map (Value.int .i64)))
    (rs : List Value) (e1 : rs.length = ps.length) (e2 : wz.ownsRow (H + 2) 46 3 vp' ps.length ((ps.zip rs).flatMap fun x => prL x.1 x.2)) (e3 : ∀ i, i < ps.length → wz.ownsRow (H + 2) 3 1 (rs.getD i undef) (ps.getD i ⟨0, [], 0⟩).right.length ((ps.getD i ⟨0, [], 0⟩).right.map (Value.int .i64))) :
    GbAt Y H (wz.setCell ⟨H + 1, i, none⟩ u) vt' vn' vl' vp' st' ts ns lv N pl ps := by
  have hst := grown_setCell (w := wz) (H + 1) i u
  have hlt : H + 1 < wz.heap.size := (Array.getElem?_eq_some_iff.1 hbox).1
  refine ⟨hH, grown_new hG hst (by omega), (hst.block _ (by omega) (by simp <;> omega)).trans hres, (hst.block _ (by omega) (by simp <;> omega)).trans hpl, by rw [heap_setCell_same wz _ _ _ _ _ hbox, hset], tr.kept hst (owns_nebox tr hbox (by decide)), nr.kept hst (owns_nebox nr hbox (by decide)), lr.kept hst (owns_nebox lr hbox (by decide)), rs, e1, e2.kept hst (owns_nebox e2 hbox (by decide)), fun j hj => (e3 j hj).kept hst (owns_nebox (e3 j hj) hbox (by decide))⟩

/-- The levels' sides: while there are no productions. -/
theorem GbAt.setL {v' : Value} {lv' : List Int} (h : GbAt Y H wz vt vn vl vp st ts ns lv N pl []) (hg : wz.grownBy w' vl.ownBlock) (ho : w'.ownsRow (H + 2) 3 1 v' lv'.length (lv'.map (Value.int .i64))) : GbAt Y H (w'.setCell ⟨H + 1, 2, none⟩ v') vt vn v' vp st ts ns lv' N pl [] := by
  obtain ⟨g1, g2, g3, g4⟩ := h.grew h.lr (by omega) (by decide) hg
  obtain ⟨rs, e1, e2, e3⟩ := h.pr
  exact GbAt.boxed h.hH g1 g2 g3 g4 rfl (h.tr.kept hg (owns_ne h.tr h.lr (by decide))) (h.nr.kept hg (owns_ne h.nr h.lr (by decide))) ho rs e1 (e2.kept hg (owns_ne e2 h.lr (by decide))) (fun i hi => by simp at hi)
/-- A nonterminal more. -/
theorem GbAt.pushN {v' : Value} {ns' : List ByteArray} (h : GbAt Y H wz vt vn vl vp st ts ns lv N pl ps) (hg : wz.grownBy w' vn.ownBlock) (ho : w'.ownsRow (H + 2) 9 1 v' ns'.length (ns'.map Value.string)) : GbAt Y H (w'.setCell ⟨H + 1, 1, none⟩ v') vt v' vl vp st ts ns' lv N pl ps := by
  obtain ⟨g1, g2, g3, g4⟩ := h.grew h.nr (by omega) (by decide) hg
  obtain ⟨rs, e1, e2, e3⟩ := h.pr
  exact GbAt.boxed h.hH g1 g2 g3 g4 rfl (h.tr.kept hg (owns_ne h.tr h.nr (by decide))) ho (h.lr.kept hg (owns_ne h.lr h.nr (by decide))) rs e1 (e2.kept hg (owns_ne e2 h.nr (by decide))) (fun i hi => (e3 i hi).kept hg (owns_ne (e3 i hi) h.nr (by decide)))
end

/-- A production that is being made, in its box right behind Y. -/
structure PuAt (Y wz : World) (left : Int) (l : List Int) (lv : Int) (v : Value) : Prop where
  grown : Y.grownBy wz none
  box : wz.heap[Y.heap.size]? = some (.cells #[.int .i64 left, v, .int .i64 lv] 46 (0, 0))
  row : wz.ownsRow (Y.heap.size + 1) 3 1 v l.length (l.map (Value.int .i64))
theorem PuAt.lt {Y wz : World} {left lv : Int} {l : List Int} {v : Value} (h : PuAt Y wz left l lv v) : Y.heap.size < wz.heap.size := (Array.getElem?_eq_some_iff.1 h.box).1
theorem PuAt.kept {Y wz wx : World} {left lv : Int} {l : List Int} {v : Value} (h : PuAt Y wz left l lv v) (hg : wz.grownBy wx none) : PuAt Y wx left l lv v :=
  ⟨grown_trans h.grown hg, (hg.block _ h.lt (by simp)).trans h.box, h.row.kept hg (none_ne rfl)⟩
theorem PuAt.cells {Y wz : World} {left lv : Int} {l : List Int} {v : Value} (h : PuAt Y wz left l lv v) : wz.cell? ⟨Y.heap.size, 0, none⟩ = some (.int .i64 left) ∧ wz.cell? ⟨Y.heap.size, 1, none⟩ = some v ∧ wz.cell? ⟨Y.heap.size, 2, none⟩ = some (.int .i64 lv) := by
  refine ⟨?_, ?_, ?_⟩ <;> rw [cell_of_row _ _ _ _ _ _ h.box] <;> rfl
theorem PuAt.free {Y wz : World} {left lv : Int} {l : List Int} {v : Value} (h : PuAt Y wz left l lv v) (i : Nat) : wz.frozen? ⟨Y.heap.size, i, none⟩ = false := frozen_of_row _ _ i _ _ h.box
theorem PuAt.ne {Y wz : World} {left lv : Int} {l : List Int} {v : Value} (h : PuAt Y wz left l lv v) : v.ownBlock ≠ some Y.heap.size := fun e => by
  have := (h.row.lt _ e).1
  omega
/-- The row has grown, and lies elsewhere or in its place. -/
theorem PuAt.grew {Y wz w4 : World} {left lv : Int} {l : List Int} {v : Value} (h : PuAt Y wz left l lv v) (hg : wz.grownBy w4 v.ownBlock) : w4.heap[Y.heap.size]? = some (.cells #[.int .i64 left, v, .int .i64 lv] 46 (0, 0)) ∧ Y.grownBy w4 none := by
  refine ⟨(hg.block _ h.lt (fun e => h.ne e.symm)).trans h.box, ?_⟩
  cases hv : v.ownBlock with
  | none => rw [hv] at hg; exact grown_trans h.grown hg
  | some q => rw [hv] at hg; exact grown_new h.grown hg (by have := (h.row.lt q hv).1; omega)
theorem PuAt.push {Y wz w4 : World} {left lv x : Int} {l : List Int} {v v' : Value} (h : PuAt Y wz left l lv v) (hg : wz.grownBy w4 v.ownBlock) (ho : w4.ownsRow (Y.heap.size + 1) 3 1 v' (l.length + 1) (l.map (Value.int .i64) ++ [.int .i64 x])) : PuAt Y (w4.setCell ⟨Y.heap.size, 1, none⟩ v') left (l ++ [x]) lv v' := by
  obtain ⟨hb, hG⟩ := h.grew hg
  have hst := grown_setCell (w := w4) Y.heap.size 1 v'
  refine ⟨grown_new hG hst (Nat.le_refl _), by rw [heap_setCell_same w4 _ _ _ _ _ hb]; rfl, ?_⟩
  rw [show (l ++ [x]).length = l.length + 1 by simp, show (l ++ [x]).map (Value.int .i64) = l.map (Value.int .i64) ++ [.int .i64 x] by simp]
  refine ho.kept hst ?_
  cases hv : v'.ownBlock with
  | none => exact .inl rfl
  | some q => right; intro e; have := (ho.lt q hv).1; simp at e; omega
theorem PuAt.setLev {Y wz : World} {left lv z : Int} {l : List Int} {v : Value} (h : PuAt Y wz left l lv v) : PuAt Y (wz.setCell ⟨Y.heap.size, 2, none⟩ (.int .i64 z)) left l z v := by
  have hst := grown_setCell (w := wz) Y.heap.size 2 (.int .i64 z)
  refine ⟨grown_new h.grown hst (Nat.le_refl _), by rw [heap_setCell_same wz _ _ _ _ _ h.box]; rfl, h.row.kept hst ?_⟩
  cases hv : v.ownBlock with
  | none => exact .inl rfl
  | some q => right; intro e; have := (h.row.lt q hv).1; simp at e; omega

/-! ### Places and symbols -/
end Go.Proofs.YtckgjolaoifgkaaGreat
