/-
  The document's Valid of any grammar.
-/
import Derived.Test.YtkbpnafahimeiaaRvFits
namespace Go.Proofs.Ytkbpnafahimeiaa
open Go.RowKit

attribute [local go_sem] Oper.semAt_some

set_option maxRecDepth 100000 in
set_option maxHeartbeats 2000000 in
theorem rvalid_core (ta na la pa : Option Addr) (tn nn ln pn tc nc lc pc : Nat) (st : Int) (w : World) (rF : Bool) (out : List Int) (hol : out.length ≤ 97) (ht : tn ≤ 17592186044416)
    (hF : ∀ W, w.grownBy W none → Calls Try.prog 42 #[.agg #[.slice ta tn tc, .slice na nn nc, .slice la ln lc, .int .i64 st, .slice pa pn pc], .int .i64 0] W fun e w' => e = .returned (.bool rF) ∧ W.grownBy w' none)
    (hL : rF = true → ∀ W, w.grownBy W none → Calls Try.prog 43 #[.agg #[.slice ta tn tc, .slice na nn nc, .slice la ln lc, .int .i64 st, .slice pa pn pc], .int .i64 0] W fun e w' => ∃ a' c', e = .returned (.slice a' out.length c') ∧ IntsAt w' a' out ∧ W.grownBy w' none)
    (r : Bool) (hr : r = true ↔ rF = true ∧ ∀ i, i < out.length → out.getD i 0 = (tn : Int) + i) :
    Calls Try.prog 17 #[.agg #[.slice ta tn tc, .slice na nn nc, .slice la ln lc, .int .i64 st, .slice pa pn pc]] w fun e w' => e = .returned (.bool r) ∧ w.grownBy w' none := by
  have HF : Hid (∀ W, w.grownBy W none → Calls Try.prog 42 #[.agg #[.slice ta tn tc, .slice na nn nc, .slice la ln lc, .int .i64 st, .slice pa pn pc], .int .i64 0] W fun e w' => e = .returned (.bool rF) ∧ W.grownBy w' none) := hF
  have HL : Hid (rF = true → ∀ W, w.grownBy W none → Calls Try.prog 43 #[.agg #[.slice ta tn tc, .slice na nn nc, .slice la ln lc, .int .i64 st, .slice pa pn pc], .int .i64 0] W fun e w' => ∃ a' c', e = .returned (.slice a' out.length c') ∧ IntsAt w' a' out ∧ W.grownBy w' none) := hL
  have HR : Hid (r = true ↔ rF = true ∧ ∀ i, i < out.length → out.getD i 0 = (tn : Int) + i) := hr
  have HX0 : Hid (PhAt w (w.alloc (.cells #[.slice ta tn tc, .slice na nn nc, .slice la ln lc, .int .i64 st, .slice pa pn pc] 42)) w.heap.size #[.slice ta tn tc, .slice na nn nc, .slice la ln lc, .int .i64 st, .slice pa pn pc]) := ⟨World.grownBy_alloc _ _ none, heap_alloc_last w _⟩
  clear hF hL hr
  go_enter Try.func17, Try.ntmps17
  go_wp2_with fail
  refine (HF.out _ HX0.out.grown).mono ?_
  rintro e w1 ⟨rfl, hg1⟩
  have HX1 : Hid (PhAt w w1 w.heap.size #[.slice ta tn tc, .slice na nn nc, .slice la ln lc, .int .i64 st, .slice pa pn pc]) := HX0.out.kept hg1
  clear hg1 HX0 HF
  obtain ⟨m0, m1, m2, m3, m4⟩ := HX1.out.cells
  cases rF with
  | false =>
    have hf : r = false := Bool.eq_false_iff.2 fun hh => by have := (HR.out.1 hh).1; cases this
    go_wp2_with fail
    go_ret
    exact ⟨by first | rfl | (rw [hf]; rfl), HX1.out.grown⟩
  | true =>
    have KL : Hid (∀ W, w.grownBy W none → Calls Try.prog 43 #[.agg #[.slice ta tn tc, .slice na nn nc, .slice la ln lc, .int .i64 st, .slice pa pn pc], .int .i64 0] W fun e w' => ∃ a' c', e = .returned (.slice a' out.length c') ∧ IntsAt w' a' out ∧ W.grownBy w' none) := HL.out rfl
    obtain ⟨on, hon⟩ : ∃ on, on = out.length := ⟨_, rfl⟩
    have HON : Hid (out.length = on) := hon.symm
    rw [← hon] at KL HR hol
    clear hon HL
    go_wp2_with fail
    refine (KL.out _ HX1.out.grown).mono ?_
    rintro e w2 ⟨a', c', rfl, hI, hg2⟩
    have HX2 : Hid (PhAt w w2 w.heap.size #[.slice ta tn tc, .slice na nn nc, .slice la ln lc, .int .i64 st, .slice pa pn pc]) := HX1.out.kept hg2
    have HI : Hid (IntsAt w2 a' out) := hI
    clear hg2 HX1 hI KL m0 m1 m2 m3 m4
    go_wp2_with fail
    go_loopg [5] on (fun gk i wr => ∃ k : Nat, k ≤ on ∧ gk = on - k ∧ i = .int .i64 k ∧ w2.grownBy wr none ∧ ∀ j, j < k → out.getD j 0 = (tn : Int) + j)
    case atStart => exact ⟨0, Nat.zero_le _, rfl, rfl, grown_refl _ _, fun j hj => by omega⟩
    case round =>
      obtain ⟨k, hk, hgk, rfl, hg, hall⟩ := hrel
      have HX : Hid (PhAt w wr w.heap.size #[.slice ta tn tc, .slice na nn nc, .slice la ln lc, .int .i64 st, .slice pa pn pc]) := HX2.out.kept hg
      have HGG : Hid (w2.grownBy wr none) := hg
      have HA : Hid (∀ j, j < k → out.getD j 0 = (tn : Int) + j) := hall
      have HGK : Hid (gk = on - k) := hgk
      clear hg hall hgk
      obtain ⟨m0, m1, m2, m3, m4⟩ := HX.out.cells
      by_cases hlt : k < on
      · have hkl : k < out.length := by rw [HON.out]; exact hlt
        obtain ⟨bl, off, rfl, hcs⟩ : ∃ b off, a' = some ⟨b, off, none⟩ ∧ ∀ i, i < out.length → wr.cell? ⟨b, off + i, none⟩ = some (.int .i64 (out.getD i 0)) := by
          rcases HI.out.kept HGG.out with h | h
          · rw [h] at hkl; simp at hkl
          · exact h
        have c0 := hcs k hkl
        have HNO : Hid (out.getD k 0 ≠ (tn : Int) + k → r = false) := fun hne => Bool.eq_false_iff.2 fun hh => hne ((HR.out.1 hh).2 k hlt)
        have HUP : Hid (out.getD k 0 = (tn : Int) + k → ∀ j, j < k + 1 → out.getD j 0 = (tn : Int) + j) := fun he j hj => by
          by_cases e : j = k
          · rw [e]; exact he
          · exact HA.out j (by omega)
        clear hcs hkl
        generalize out.getD k 0 = h at *
        by_cases he : h = (tn : Int) + k
        · have d1 : (h == (tn : Int) + k) = true := beq_iff_eq.2 he
          have d2 : (h != (tn : Int) + k) = false := by rw [bne, d1]; rfl
          have HA2 : Hid (∀ j, j < k + 1 → out.getD j 0 = (tn : Int) + j) := HUP.out he
          clear he HUP HNO
          go_wp2_with fail
          go_quiet (fail)
          have HG2 : Hid (w2.grownBy (wr.drewN nq) none) := grown_trans HGG.out (grown_drewN _ _)
          clear m0 m1 m2 m3 m4 c0 HX HGG
          generalize wr.drewN nq = W at *
          go_wp2_with fail
          go_roundg (on - (k + 1))
          case measure => have := HGK.out; omega
          case rel => exact ⟨k + 1, by omega, rfl, by go_num, HG2.out, HA2.out⟩
        · have d1 : (h == (tn : Int) + k) = false := beq_eq_false_iff_ne.2 he
          have d2 : (h != (tn : Int) + k) = true := by rw [bne, d1]; rfl
          have hf := HNO.out he
          clear he HUP HNO
          go_wp2_with fail
          go_quiet (fail)
          go_wp2_with fail
          go_ret
          exact ⟨by first | rfl | (rw [hf]; rfl), grown_trans HX.out.grown (grown_drewN _ _)⟩
      · obtain rfl : k = on := by omega
        have hrt : r = true := HR.out.2 ⟨by first | rfl | trivial, HA.out⟩
        go_wp2_with fail
        go_ret
        exact ⟨by first | rfl | (rw [hrt]; rfl), HX.out.grown⟩

/-- The document's Valid: is a grammar plain? -/
theorem rvalid_any (ta na la pa : Option Addr) (tc nc lc pc : Nat) (st : Int) (ts : List (ByteArray × Int)) (ns : List ByteArray) (lv : List Int) (n : Nat) (L : Nat → Int) (R : Nat → List Int) (ra : Nat → Option Addr) (rc : Nat → Nat) (V : Nat → Int) (w : World)
    (hG : GAt w ta na la pa tc nc lc pc ts ns lv n L R ra rc V) (hts : ∀ t ∈ ts, t.1.size ≤ 140737488355328) (hns : ∀ s ∈ ns, s.size ≤ 140737488355328) (r : Bool) (hr : r = true ↔ validOK ts ns lv st n L R V) :
    Calls Try.prog 17 #[.agg #[.slice ta ts.length tc, .slice na ns.length nc, .slice la lv.length lc, .int .i64 st, .slice pa n pc]] w fun e w' => e = .returned (.bool r) ∧ w.grownBy w' none := by
  obtain ⟨rF, hrF⟩ := boolOf (fitsOK 0 ts ns lv st n L R V)
  have e0 : (fun i => L (0 + i)) = L := by funext i; rw [Nat.zero_add]
  have hF : ∀ W, w.grownBy W none → Calls Try.prog 42 #[.agg #[.slice ta ts.length tc, .slice na ns.length nc, .slice la lv.length lc, .int .i64 st, .slice pa n pc], .int .i64 0] W fun e w' => e = .returned (.bool rF) ∧ W.grownBy w' none :=
    fun W hg => fits_any ta na la pa ts.length ns.length lv.length n tc nc lc pc 0 st ts ns lv L R ra rc V W (hG.kept hg) ⟨rfl, rfl, rfl⟩ (by omega) (Nat.zero_le _) hts hns rF hrF
  by_cases hn : n ≤ 97
  · refine rvalid_core ta na la pa ts.length ns.length lv.length n tc nc lc pc st w rF (leftsTo L n) (Nat.le_trans (leftsTo_le _ _) hn) hG.tlen hF (fun _ W hg => ?_) r ?_
    · have := rlefts_any ta na la pa ts.length ns.length lv.length n tc nc lc pc 0 st L R ra rc V W (hG.kept hg).prods hn (Nat.zero_le _) (fun k => leftsTo L k) (fun k => by rw [e0])
      refine this.mono fun e w' h => ?_
      obtain ⟨a', c', he, ho, hg'⟩ := h
      exact ⟨a', c', he, owns_intsAt ho rfl, hg'⟩
    · rw [hr, hrF, fits_holds]
      unfold validOK
      constructor
      · rintro ⟨h1, h2⟩; exact ⟨h1, (order_iff h1).1 h2⟩
      · rintro ⟨h1, h2⟩; exact ⟨h1, (order_iff h1).2 h2⟩
  · have hff : rF = false := Bool.eq_false_iff.2 fun hh => by have := (hrF.1 hh).pn; omega
    refine rvalid_core ta na la pa ts.length ns.length lv.length n tc nc lc pc st w rF [] (by decide) hG.tlen hF (fun h => by rw [hff] at h; cases h) r ?_
    rw [hr, hff]
    constructor
    · intro h; have := h.1.cnt; omega
    · rintro ⟨h, _⟩; cases h

end Go.Proofs.Ytkbpnafahimeiaa
