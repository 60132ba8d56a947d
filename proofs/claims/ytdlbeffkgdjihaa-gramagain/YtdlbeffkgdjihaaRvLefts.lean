/-
  The document's lefts.
-/
import Derived.Test.YtdlbeffkgdjihaaRvProds
import Derived.Test.YtdlbeffkgdjihaaGrammar
namespace Go.Proofs.Ytdlbeffkgdjihaa
open Go.RowKit

attribute [local go_sem] Oper.semAt_some

theorem mem_idx (l : List Int) (x : Int) : x ∈ l ↔ ∃ j, j < l.length ∧ l.getD j 0 = x := by
  constructor
  · intro h
    obtain ⟨j, hj, rfl⟩ := List.getElem_of_mem h
    exact ⟨j, hj, by simp [List.getD, hj]⟩
  · rintro ⟨j, hj, rfl⟩
    have : l.getD j 0 = l[j] := by simp [List.getD, hj]
    rw [this]; exact List.getElem_mem _

theorem PhAt.lt {w wr : World} {Bg : Nat} {cs : Array Value} (h : PhAt w wr Bg cs) : Bg < wr.heap.size := (Array.getElem?_eq_some_iff.1 h.box).1
theorem PhAt.keptRow {w wr wx : World} {cs : Array Value} {q : Nat} (h : PhAt w wr w.heap.size cs) (hg : wr.grownBy wx (some q)) (hq : w.heap.size + 1 ≤ q) : PhAt w wx w.heap.size cs :=
  ⟨grown_new h.grown hg (by omega), (hg.block _ h.lt (by simp; omega)).trans h.box⟩

set_option maxRecDepth 100000 in
set_option maxHeartbeats 2000000 in
theorem rlefts_any (ta na la pa : Option Addr) (tn nn ln pn tc nc lc pc ad : Nat) (st : Int) (L : Nat → Int) (R : Nat → List Int) (ra : Nat → Option Addr) (rc : Nat → Nat) (V : Nat → Int) (w : World) (hP : ProdsAt w pa pn L R ra rc V) (hn : pn ≤ 97) (had : ad ≤ pn)
    (O : Nat → List Int) (hO : ∀ k, O k = leftsTo (fun i => L (ad + i)) k) :
    Calls Try.prog 47 #[.agg #[.slice ta tn tc, .slice na nn nc, .slice la ln lc, .int .i64 st, .slice pa pn pc], .int .i64 ad] w fun e w' => ∃ a' c', e = .returned (.slice a' (O (pn - ad)).length c') ∧ w'.ownsRow w.heap.size 3 1 (.slice a' (O (pn - ad)).length c') (O (pn - ad)).length ((O (pn - ad)).map (Value.int .i64)) ∧ w.grownBy w' none := by
  obtain ⟨i0, hi, hz0, hz1, hz2⟩ := info_parts infoInt
  have HP : Hid (ProdsAt w pa pn L R ra rc V) := hP
  have HX0 : Hid (PhAt w (w.alloc (.cells #[.slice ta tn tc, .slice na nn nc, .slice la ln lc, .int .i64 st, .slice pa pn pc] 42)) w.heap.size #[.slice ta tn tc, .slice na nn nc, .slice la ln lc, .int .i64 st, .slice pa pn pc]) := ⟨World.grownBy_alloc _ _ none, heap_alloc_last w _⟩
  have HOS : Hid (∀ k, O (k + 1) = if L (ad + k) ∈ O k then O k else O k ++ [L (ad + k)]) := fun k => by rw [hO, hO, leftsTo_succ]; rfl
  have HO0 : Hid (O 0 = []) := by show _ = _; rw [hO]; rfl
  have HOL : Hid (∀ k, (O k).length ≤ k) := fun k => by rw [hO]; exact leftsTo_le _ _
  clear hP hO
  go_enter Try.func47, Try.ntmps47
  go_wp2_with fail
  go_loopg [5, 6] (pn - ad) (fun gk v5 i wr => ∃ k : Nat, ad + k ≤ pn ∧ gk = pn - ad - k ∧ i = .int .i64 ((ad : Int) + k) ∧ ∃ a' c', v5 = .slice a' (O k).length c' ∧ PhAt w wr w.heap.size #[.slice ta tn tc, .slice na nn nc, .slice la ln lc, .int .i64 st, .slice pa pn pc] ∧ wr.ownsRow (w.heap.size + 1) 3 1 (.slice a' (O k).length c') (O k).length ((O k).map (Value.int .i64)))
  case atStart => exact ⟨0, by omega, rfl, by simp, none, 0, by rw [HO0.out]; rfl, HX0.out, by rw [HO0.out]; exact World.ownsRow_nil _ _ _ _⟩
  case round =>
    obtain ⟨k, hk, hgk, rfl, a3, c3, rfl, hX, hown⟩ := hrel
    have HX : Hid (PhAt w wr w.heap.size #[.slice ta tn tc, .slice na nn nc, .slice la ln lc, .int .i64 st, .slice pa pn pc]) := hX
    have HW : Hid (wr.ownsRow (w.heap.size + 1) 3 1 (.slice a3 (O k).length c3) (O k).length ((O k).map (Value.int .i64))) := hown
    have HGK : Hid (gk = pn - ad - k) := hgk
    clear hX hown hgk HX0
    obtain ⟨m0, m1, m2, m3, m4⟩ := HX.out.cells
    by_cases hlt : ad + k < pn
    · obtain ⟨bp, off, rfl, hcs⟩ : ∃ b off, pa = some ⟨b, off, none⟩ ∧ ∀ k, k < pn → w.cell? ⟨b, off + k * 3, none⟩ = some (.int .i64 (L k)) ∧ w.cell? ⟨b, off + k * 3 + 1, none⟩ = some (.slice (ra k) (R k).length (rc k)) ∧ w.cell? ⟨b, off + k * 3 + 2, none⟩ = some (.int .i64 (V k)) ∧ IntsAt w (ra k) (R k) ∧ (ra k = none → rc k = 0) ∧ (R k).length ≤ 17592186044416 := by
        rcases HP.out with h | h
        · omega
        · exact h
      have dlt : decide ((ad : Int) + k < (pn : Int)) = true := decide_eq_true (by omega)
      have HC0 : Hid (∀ W, w.grownBy W none → W.cell? ⟨bp, off + (ad + k) * 3, none⟩ = some (.int .i64 (L (ad + k)))) := fun W hg => hg.cell (hcs (ad + k) hlt).1 (by simp)
      have HST := HOS.out k
      have hol := HOL.out k
      clear hcs
      have HIA : Hid (IntsAt wr a3 (O k)) := owns_intsAt HW.out rfl
      have HMM : Hid (L (ad + k) ∈ O k ↔ ∃ j, j < (O k).length ∧ (O k).getD j 0 = L (ad + k)) := mem_idx _ _
      have HST' : Hid (O (k + 1) = if L (ad + k) ∈ O k then O k else O k ++ [L (ad + k)]) := HST
      clear HST
      generalize hl : L (ad + k) = l at *
      generalize hout : O k = out at *
      obtain ⟨on, hon⟩ : ∃ on, on = out.length := ⟨_, rfl⟩
      have HON : Hid (out.length = on) := hon.symm
      rw [← hon] at hol HW HMM ⊢
      clear hon hl hout
      go_wp2_with fail
      clear m0 m1 m2 m3 m4
      generalize wr = X at *
      go_loopg [7, 8] on (fun gx v7 i wz => ∃ (x : Nat) (sm : Bool), x ≤ on ∧ gx = on - x ∧ i = .int .i64 x ∧ v7 = .bool sm ∧ X.grownBy wz none ∧ (sm = true ↔ ∃ j, j < x ∧ out.getD j 0 = l))
      case atStart => exact ⟨0, false, Nat.zero_le _, rfl, rfl, rfl, grown_refl _ _, by simp⟩
      case round =>
        obtain ⟨x, sm, hx, hgx, rfl, rfl, hq, hsm⟩ := hrel
        have HX2 : Hid (PhAt w wr w.heap.size #[.slice ta tn tc, .slice na nn nc, .slice la ln lc, .int .i64 st, .slice (some ⟨bp, off, none⟩) pn pc]) := HX.out.kept hq
        have HQ : Hid (X.grownBy wr none) := hq
        have HSM : Hid (sm = true ↔ ∃ j, j < x ∧ out.getD j 0 = l) := hsm
        have HGX : Hid (gk = on - x) := hgx
        clear hsm hgx hq
        obtain ⟨m0, m1, m2, m3, m4⟩ := HX2.out.cells
        by_cases hlx : x < on
        · have hxl : x < out.length := by rw [HON.out]; exact hlx
          obtain ⟨bl, of2, rfl, hcs⟩ : ∃ b off, a3 = some ⟨b, off, none⟩ ∧ ∀ i, i < out.length → wr.cell? ⟨b, off + i, none⟩ = some (.int .i64 (out.getD i 0)) := by
            rcases HIA.out with h | ⟨b, o, h1, h2⟩
            · rw [h] at hxl; simp at hxl
            · exact ⟨b, o, h1, fun i hi => HQ.out.cell (h2 i hi) (by simp)⟩
          have c0 := hcs x hxl
          have c1 := HC0.out wr HX2.out.grown
          have HS : Hid (∀ f : Bool, (f = true ↔ (sm = true ∨ out.getD x 0 = l)) → (f = true ↔ ∃ j, j < x + 1 ∧ out.getD j 0 = l)) := fun f hf => by
            rw [hf, HSM.out]
            constructor
            · rintro (⟨j, hj, e⟩ | e)
              · exact ⟨j, by omega, e⟩
              · exact ⟨x, by omega, e⟩
            · rintro ⟨j, hj, e⟩
              by_cases ej : j = x
              · right; rw [← ej]; exact e
              · exact .inl ⟨j, by omega, e⟩
          clear hcs hxl
          generalize out.getD x 0 = h at *
          cases sm with
          | true =>
            have HS2 := HS.out true (by simp)
            have HS3 : Hid (∃ j, j < x + 1 ∧ out.getD j 0 = l) := HS2.1 rfl
            clear HS2 HS
            go_wp2_with fail
            go_quiet (fail)
            have HQ2 : Hid (X.grownBy (wr.drewN nq) none) := grown_trans HQ.out (grown_drewN _ _)
            clear m0 m1 m2 m3 m4 c0 c1
            generalize wr.drewN nq = W at *
            go_wp2_with fail
            go_roundg (on - (x + 1))
            case measure => have := HGX.out; omega
            case rel => exact ⟨x + 1, true, by omega, rfl, by go_num, rfl, HQ2.out, ⟨fun _ => HS3.out, fun _ => rfl⟩⟩
          | false =>
            by_cases he : h = l
            · have d1 : (h == l) = true := beq_iff_eq.2 he
              have HS3 : Hid (∃ j, j < x + 1 ∧ out.getD j 0 = l) := (HS.out true (by simp [he])).1 rfl
              clear HS he
              go_wp2_with fail
              go_quiet (fail)
              have HQ2 : Hid (X.grownBy (wr.drewN nq) none) := grown_trans HQ.out (grown_drewN _ _)
              clear m0 m1 m2 m3 m4 c0 c1
              generalize wr.drewN nq = W at *
              go_wp2_with fail
              go_roundg (on - (x + 1))
              case measure => have := HGX.out; omega
              case rel => exact ⟨x + 1, true, by omega, rfl, by go_num, rfl, HQ2.out, ⟨fun _ => HS3.out, fun _ => rfl⟩⟩
            · have d1 : (h == l) = false := beq_eq_false_iff_ne.2 he
              have HS3 : Hid (¬ ∃ j, j < x + 1 ∧ out.getD j 0 = l) := fun hh => by
                have := (HS.out false (by simp [he])).2 hh
                cases this
              clear HS he
              go_wp2_with fail
              go_quiet (fail)
              have HQ2 : Hid (X.grownBy (wr.drewN nq) none) := grown_trans HQ.out (grown_drewN _ _)
              clear m0 m1 m2 m3 m4 c0 c1
              generalize wr.drewN nq = W at *
              go_wp2_with fail
              go_roundg (on - (x + 1))
              case measure => have := HGX.out; omega
              case rel => exact ⟨x + 1, false, by omega, rfl, by go_num, rfl, HQ2.out, ⟨(fun h => by cases h), fun h => absurd h HS3.out⟩⟩
        · obtain rfl : x = on := by omega
          have HME : Hid (sm = true ↔ l ∈ out) := by
            show _ ↔ _
            rw [HSM.out, HMM.out]
          have HW2 : Hid (wr.ownsRow (w.heap.size + 1) 3 1 (.slice a3 x c3) x (out.map (Value.int .i64))) := by
            exact HW.out.kept HQ.out (by cases hv : (Value.slice a3 x c3).ownBlock <;> simp)
          cases sm with
          | true =>
            have HS2 : Hid (O (k + 1) = out) := by show _ = _; rw [HST'.out, if_pos (HME.out.1 rfl)]
            clear HST'
            go_wp2_with fail
            go_roundg (pn - ad - (k + 1))
            case measure => have := HGK.out; omega
            case rel => exact ⟨k + 1, by omega, rfl, by go_num, a3, c3, by rw [HS2.out, HON.out], HX2.out, by rw [HS2.out, HON.out]; exact HW2.out⟩
          | false =>
            have HS2 : Hid (O (k + 1) = out ++ [l]) := by show _ = _; rw [HST'.out, if_neg (fun hm => by have := HME.out.2 hm; cases this)]
            clear HST'
            have c1 := HC0.out wr HX2.out.grown
            have hsz2 := HX2.out.lt
            have c1' := fun o => (World.grownBy_alloc wr o none).cell c1 (by simp)
            go_wp2_with (at_builtin; refine wpList_append_lies _ rfl _ _ 30 rfl (w.heap.size + 1) 3 i0 (.int .i64 0) 1 8 Try.underlying30 hi hz0 hz1 hz2 rfl (by decide) (.slice a3 x c3) x (out.map (Value.int .i64)) rfl (HW2.out.alloc _) ⟨wr.heap.size, 0, none⟩ 1 1 [.int .i64 l] rfl rfl (cell_one_new _ _ _) (ints_oneCell' [l]) (by omega) (by unfold maxLen; omega) (by omega) (by simp; omega) _ rfl ?_; intro g4 c4 w4 hown4 hg4 hloc4 hlt4)
            have HFIN : Hid (w4.ownsRow (w.heap.size + 1) 3 1 (.slice (some ⟨g4, 0, none⟩) (out ++ [l]).length c4) (out ++ [l]).length ((out ++ [l]).map (Value.int .i64)) ∧ PhAt w w4 w.heap.size #[.slice ta tn tc, .slice na nn nc, .slice la ln lc, .int .i64 st, .slice (some ⟨bp, off, none⟩) pn pc]) := by
              refine ⟨by simpa [HON.out] using hown4, ?_⟩
              have hA := HX2.out.kept (World.grownBy_alloc wr (.cells #[.int .i64 l] 3) none)
              cases hv : (Value.slice a3 x c3).ownBlock with
              | none => rw [hv] at hg4; exact hA.kept hg4
              | some q =>
                rw [hv] at hg4
                have hq := (HW2.out.lt q hv).1
                exact hA.keptRow hg4 hq
            clear hown4 hg4 hloc4 hlt4
            go_wp2_with fail
            go_roundg (pn - ad - (k + 1))
            case measure => have := HGK.out; omega
            case rel => exact ⟨k + 1, by omega, rfl, by go_num, some ⟨g4, 0, none⟩, c4, by rw [HS2.out]; simp [HON.out], HFIN.out.2, by rw [HS2.out]; exact HFIN.out.1⟩
    · have dlt : decide ((ad : Int) + k < (pn : Int)) = false := decide_eq_false (by omega)
      have HKE : Hid (k = pn - ad) := by show _ = _; omega
      go_wp2_with fail
      go_ret
      rw [← HKE.out]
      exact ⟨a3, c3, rfl, owns_lower HW.out (by omega), HX.out.grown⟩

end Go.Proofs.Ytdlbeffkgdjihaa
