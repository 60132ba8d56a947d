import Derived.Test.YtljlkmiaemkokaaQgjchgghncfmd
import Derived.Test.YtljlkmiaemkokaaQmghgcoepcnpe
import Derived.Test.YtljlkmiaemkokaaQolbafokccean

/-
  reach: Reduce.
-/
namespace Go.Proofs.Ytljlkmiaemkokaa
open Go.RowKit Go.Maps Go.Shelf

attribute [local go_sem] Oper.semAt_some

theorem results_reduce (tmps : Array Value) (w : World) (g : Nat) (cs : Array Value) (x : Value) (h2 : tmps.getD 2 undef = .pointer (some ⟨g, 0, none⟩)) (h3 : tmps.getD 3 undef = x) (hg : w.heap[g]? = some (.cells cs 27 (0, 0))) (hs : cs.size = 5) :
    (results Try.f16 tmps).run Try.prog w = .ok (.tuple #[.agg cs, x]) w := by
  have h2' : tmps[2]?.getD undef = .pointer (some ⟨g, 0, none⟩) := by simpa using h2
  have h3' : tmps[3]?.getD undef = x := by simpa using h3
  have hl := run_loadVar_row (P := Try.prog) w g 27 27 cs (0, 0) _ hg Try.underlying27 rfl (by rw [infoG, hs])
  simp [results, Try.results16, h2', h3', asAddr, hl]

/-- What was found of a grammar. -/
structure Found (tn nn n : Nat) (st : Int) (L : Nat → Int) (R : Nat → List Int) (cl : Bool) (f : Nat → Bool) (u : Nat) : Prop where
  marks : Fix (stM tn L R) (chM tn L R) n (fun _ => false) f
  used : Fix (stU tn nn L R f) (fun k u => decide (0 < adU tn nn L R f k u)) n (startU (if cl = true then tn else st.toNat) (f (st - tn).toNat)) u

/-- The answer of Reduce. -/
def ReduceTold (ts : List (ByteArray × Int)) (ns : List ByteArray) (lv : List Int) (tn nn n : Nat) (st : Int) (L : Nat → Int) (R : Nat → List Int) (V : Nat → Int) (w : World) (e : Ending) (y : World) : Prop :=
  ∃ f u, Found tn nn n st L R false f u ∧ w.grownBy y none ∧
    ((f (st - tn).toNat = false ∧ e = .returned (.tuple #[.agg #[.slice none 0 0, .slice none 0 0, .slice none 0 0, .int .i64 0, .slice none 0 0], .int .i64 12])) ∨
     (f (st - tn).toNat = true ∧ ∃ vt vn vl vp, e = .returned (.tuple #[.agg #[vt, vn, vl, .int .i64 (numTo tn (fun i => u.testBit (tn + i)) nn st.toNat), vp], .int .i64 0]) ∧ GramNew y w.heap.size (redGR ts ns lv tn nn n st L R V (fun i => u.testBit (tn + i)) (fun k => goU tn L R f k u)) vt vn vl vp))

section
variable (ta na la pa : Option Addr) (tc nc lc pc : Nat) (ts : List (ByteArray × Int)) (ns : List ByteArray) (lv : List Int) (n : Nat) (L : Nat → Int) (R : Nat → List Int) (ra : Nat → Option Addr) (rc : Nat → Nat) (V : Nat → Int) (st : Int) (w : World) (tn nn ln : Nat) (hlen : ts.length = tn ∧ ns.length = nn ∧ lv.length = ln) (hG : GAt w ta na la pa tc nc lc pc ts ns lv n L R ra rc V)
include hlen hG

set_option maxRecDepth 100000 in
theorem reduce_bad (h1 : ¬ validOK ts ns lv st n L R V) :
    Calls Try.prog 16 #[.agg #[.slice ta tn tc, .slice na nn nc, .slice la ln lc, .int .i64 st, .slice pa n pc]] w fun e y => e = .returned (.tuple #[.agg #[.slice none 0 0, .slice none 0 0, .slice none 0 0, .int .i64 0, .slice none 0 0], .int .i64 1]) ∧ w.grownBy y none := by
  have HV : Hid (∀ Y, w.grownBy Y none → Calls Try.prog 32 #[.agg #[.slice ta tn tc, .slice na nn nc, .slice la ln lc, .int .i64 st, .slice pa n pc]] Y fun e w' => e = .returned (.bool false) ∧ Y.grownBy w' none) := fun Y hY => by
    have := valid_any ta na la pa tc nc lc pc ts ns lv n L R ra rc V st Y (hG.kept hY) false (by simp [h1])
    rwa [hlen.1, hlen.2.1, hlen.2.2] at this
  have b1 := heap_alloc_last w (.cells #[.slice ta tn tc, .slice na nn nc, .slice la ln lc, .int .i64 st, .slice pa n pc] 27)
  have b2 := heap_alloc_last (w.alloc (.cells #[.slice ta tn tc, .slice na nn nc, .slice la ln lc, .int .i64 st, .slice pa n pc] 27)) (.cells #[.slice none 0 0, .slice none 0 0, .slice none 0 0, .int .i64 0, .slice none 0 0] 27)
  rw [World.size_alloc] at b2
  have HB2 := show Hid _ from b2
  have HG0 : Hid (w.grownBy ((w.alloc (.cells #[.slice ta tn tc, .slice na nn nc, .slice la ln lc, .int .i64 st, .slice pa n pc] 27)).alloc (.cells #[.slice none 0 0, .slice none 0 0, .slice none 0 0, .int .i64 0, .slice none 0 0] 27)) none) := grown_trans (World.grownBy_alloc _ _ none) (World.grownBy_alloc _ _ none)
  have k0 : ((w.alloc (.cells #[.slice ta tn tc, .slice na nn nc, .slice la ln lc, .int .i64 st, .slice pa n pc] 27)).alloc (.cells #[.slice none 0 0, .slice none 0 0, .slice none 0 0, .int .i64 0, .slice none 0 0] 27)).heap[w.heap.size]? = some (.cells #[.slice ta tn tc, .slice na nn nc, .slice la ln lc, .int .i64 st, .slice pa n pc] 27 (0, 0)) := (boxKept b1 (World.grownBy_alloc _ _ none)).out
  obtain ⟨m0, m1, m2, m3, m4⟩ := PhAt.cells (w := w) ⟨HG0.out, k0⟩
  clear hG hlen h1 b1 b2 k0
  go_enter Try.func16, Try.ntmps16
  go_wp2_with fail
  refine Calls.mono (HV.out _ HG0.out) ?_
  rintro e w1 ⟨rfl, hg1⟩
  have HB3 := boxKept HB2.out hg1
  have HG1 : Hid (w.grownBy w1 none) := grown_trans HG0.out hg1
  obtain ⟨s0, s1, s2, s3, s4⟩ : w1.cell? ⟨w.heap.size + 1, 0, none⟩ = some (.slice none 0 0) ∧ w1.cell? ⟨w.heap.size + 1, 1, none⟩ = some (.slice none 0 0) ∧ w1.cell? ⟨w.heap.size + 1, 2, none⟩ = some (.slice none 0 0) ∧ w1.cell? ⟨w.heap.size + 1, 3, none⟩ = some (.int .i64 0) ∧ w1.cell? ⟨w.heap.size + 1, 4, none⟩ = some (.slice none 0 0) := by
    refine ⟨?_, ?_, ?_, ?_, ?_⟩ <;> rw [cell_of_row _ _ _ _ _ _ HB3.out] <;> rfl
  have sf : ∀ j, w1.frozen? ⟨w.heap.size + 1, j, none⟩ = false := fun j => frozen_of_row _ _ _ _ _ HB3.out
  have HST := show Hid _ from set5_grown w1 (w.heap.size + 1) (.slice none 0 0) (.slice none 0 0) (.slice none 0 0) (.int .i64 0) (.slice none 0 0)
  have HF3 := show Hid _ from set5_heap HB3.out (.slice none 0 0) (.slice none 0 0) (.slice none 0 0) (.int .i64 0) (.slice none 0 0)
  clear hg1 m0 m1 m2 m3 m4
  go_wp2_with fail
  refine bodyPost_ret (v := .tuple #[.agg #[.slice none 0 0, .slice none 0 0, .slice none 0 0, .int .i64 0, .slice none 0 0], .int .i64 1]) (results_reduce _ _ (w.heap.size + 1) _ _ rfl rfl HF3.out rfl) rfl ⟨rfl, grown_at HG1.out HST.out (by omega)⟩

set_option maxRecDepth 100000 in
set_option maxHeartbeats 2000000 in
theorem reduce_ok (hnt : ta = none → tn = 0 ∧ tc = 0) (hnl : la = none → ln = 0 ∧ lc = 0) (h1 : validOK ts ns lv st n L R V) :
    Calls Try.prog 16 #[.agg #[.slice ta tn tc, .slice na nn nc, .slice la ln lc, .int .i64 st, .slice pa n pc]] w fun e y => ReduceTold ts ns lv tn nn n st L R V w e y := by
  have hM : MayOK tn nn n st L R false := by
    obtain ⟨rfl, rfl, rfl⟩ := hlen
    exact mayOK_valid h1
  have HM := show Hid _ from hM
  have hcl : false = true ↔ closedOK ts ns lv st n L R V := ⟨fun h => (by cases h), fun h => absurd h.1.name (valid_name h1)⟩
  have HV : Hid (∀ Y, w.grownBy Y none → Calls Try.prog 32 #[.agg #[.slice ta tn tc, .slice na nn nc, .slice la ln lc, .int .i64 st, .slice pa n pc]] Y fun e w' => e = .returned (.bool true) ∧ Y.grownBy w' none) := fun Y hY => by
    have := valid_any ta na la pa tc nc lc pc ts ns lv n L R ra rc V st Y (hG.kept hY) true (by simp [h1])
    rwa [hlen.1, hlen.2.1, hlen.2.2] at this
  have HUO : Hid (∀ X, w.grownBy X none → Calls Try.prog 29 #[.agg #[.slice ta tn tc, .slice na nn nc, .slice la ln lc, .int .i64 st, .slice pa n pc]] X fun e y => UseTold tn nn n st L R ra rc V false X e y) := fun X hX => useOf_any ta na la pa tc nc lc pc ts ns lv n L R ra rc V st X tn nn ln hlen (hG.kept hX) false hcl hM
  have HRD : Hid (∀ (w0 X : World) (kb pb ub : Nat) (q : Nat → Nat) (c : Nat → Value) (m u : Nat) (f : Nat → Bool), w.grownBy X none → UseIs w0 X kb pb ub n (tn + nn) L R ra rc V q c m u → bitsN tn nn m f → Calls Try.prog 34 #[.agg #[.slice ta tn tc, .slice na nn nc, .slice la ln lc, .int .i64 st, .slice pa n pc], .agg #[.slice (some ⟨kb, 0, none⟩) n n, .pointer (some ⟨pb, 0, none⟩), .pointer (some ⟨ub, 0, none⟩)]] X fun e y => RedTold ts ns lv tn nn n st L R V (fun i => u.testBit (tn + i)) (fun k => goU tn L R f k u) X e y) := fun w0 X kb pb ub q c m u f hX hU hB => reduced_any ta na la pa tc nc lc pc ts ns lv n L R ra rc V st w0 X tn nn ln hlen (hG.kept hX) hnt hnl false hM kb pb ub q c m u f hU hB
  have b1 := heap_alloc_last w (.cells #[.slice ta tn tc, .slice na nn nc, .slice la ln lc, .int .i64 st, .slice pa n pc] 27)
  have b2 := heap_alloc_last (w.alloc (.cells #[.slice ta tn tc, .slice na nn nc, .slice la ln lc, .int .i64 st, .slice pa n pc] 27)) (.cells #[.slice none 0 0, .slice none 0 0, .slice none 0 0, .int .i64 0, .slice none 0 0] 27)
  rw [World.size_alloc] at b2
  have HB2 := show Hid _ from b2
  have hG0 : w.grownBy ((w.alloc (.cells #[.slice ta tn tc, .slice na nn nc, .slice la ln lc, .int .i64 st, .slice pa n pc] 27)).alloc (.cells #[.slice none 0 0, .slice none 0 0, .slice none 0 0, .int .i64 0, .slice none 0 0] 27)) none := grown_trans (World.grownBy_alloc _ _ none) (World.grownBy_alloc _ _ none)
  have HPH : Hid (PhAt w ((w.alloc (.cells #[.slice ta tn tc, .slice na nn nc, .slice la ln lc, .int .i64 st, .slice pa n pc] 27)).alloc (.cells #[.slice none 0 0, .slice none 0 0, .slice none 0 0, .int .i64 0, .slice none 0 0] 27)) w.heap.size #[.slice ta tn tc, .slice na nn nc, .slice la ln lc, .int .i64 st, .slice pa n pc]) := ⟨hG0, (boxKept b1 (World.grownBy_alloc _ _ none)).out⟩
  obtain ⟨m0, m1, m2, m3, m4⟩ := HPH.out.cells
  clear hG hlen h1 b1 b2 hM hcl hG0 hnt hnl
  go_enter Try.func16, Try.ntmps16
  go_wp2_with fail
  refine Calls.mono (HV.out _ HPH.out.grown) ?_
  rintro e w1 ⟨rfl, hg1⟩
  have HB3 := boxKept HB2.out hg1
  have HP1 : Hid (PhAt w w1 w.heap.size #[.slice ta tn tc, .slice na nn nc, .slice la ln lc, .int .i64 st, .slice pa n pc]) := HPH.out.kept hg1
  clear hg1 m0 m1 m2 m3 m4 HPH HB2
  obtain ⟨m0, m1, m2, m3, m4⟩ := HP1.out.cells
  go_wp2_with fail
  refine Calls.mono (HUO.out _ HP1.out.grown) ?_
  rintro e w2 ⟨kb, pb, ub, q, c, m, u, f, rfl, hU2, hB2, hF2, hD2, hg2⟩
  have HU2 : Hid (UseIs w1 w2 kb pb ub n (tn + nn) L R ra rc V q c m u) := hU2
  have HBN : Hid (bitsN tn nn m f) := hB2
  have HFD : Hid (Found tn nn n st L R false f u) := ⟨hF2, hD2⟩
  have HB4 := boxKept HB3.out hg2
  have HP2 : Hid (PhAt w w2 w.heap.size #[.slice ta tn tc, .slice na nn nc, .slice la ln lc, .int .i64 st, .slice pa n pc]) := HP1.out.kept hg2
  have hal := World.grownBy_alloc w2 (.cells #[.slice (some ⟨kb, 0, none⟩) n n, .pointer (some ⟨pb, 0, none⟩), .pointer (some ⟨ub, 0, none⟩)] 53) none
  have HP3 : Hid (PhAt w (w2.alloc (.cells #[.slice (some ⟨kb, 0, none⟩) n n, .pointer (some ⟨pb, 0, none⟩), .pointer (some ⟨ub, 0, none⟩)] 53)) w.heap.size #[.slice ta tn tc, .slice na nn nc, .slice la ln lc, .int .i64 st, .slice pa n pc]) := HP2.out.kept hal
  have HB5 := boxKept HB4.out hal
  have HU3 : Hid (UseIs w1 (w2.alloc (.cells #[.slice (some ⟨kb, 0, none⟩) n n, .pointer (some ⟨pb, 0, none⟩), .pointer (some ⟨ub, 0, none⟩)] 53)) kb pb ub n (tn + nn) L R ra rc V q c m u) := ⟨hU2.row.kept hal, hU2.is.kept hal, SetM_kept hU2.prod hal, SetM_kept hU2.used hal⟩
  have HBU := show Hid _ from heap_alloc_last w2 (.cells #[.slice (some ⟨kb, 0, none⟩) n n, .pointer (some ⟨pb, 0, none⟩), .pointer (some ⟨ub, 0, none⟩)] 53)
  obtain ⟨p, hp⟩ : ∃ p, p = f (st - tn).toNat := ⟨_, rfl⟩
  have HPP : Hid (p = f (st - tn).toNat) := hp
  have HHS : Hid (∀ X, B.SetM X (some ⟨pb, 0, none⟩) (tn + nn) m → Calls Try.prog 33 #[.pointer (some ⟨pb, 0, none⟩), .int .i64 st] X fun e w' => e = .returned (.bool p) ∧ X.grownBy w' none) := fun X hX => (B.has_any (some ⟨pb, 0, none⟩) (tn + nn) m st X hX).mono fun e w' ⟨he, j, hj⟩ => ⟨by
    have h1 := HM.out.start
    have e1 : B.hasB m st = p := by
      unfold B.hasB
      rw [HBN.out st.toNat, hp]
      have a1 : decide ((0 : Int) ≤ st) = true := decide_eq_true (by omega)
      have a2 : decide (st.toNat < tn) = false := decide_eq_false (by omega)
      have a3 : decide (st.toNat < tn + nn) = true := decide_eq_true (by omega)
      have a4 : st.toNat - tn = (st - tn).toNat := by omega
      rw [a1, a2, a3, a4]; simp
    rw [← e1]; exact he, by rw [hj]; exact grown_drewN _ _⟩
  clear hU2 hB2 hF2 hD2 hg2 m0 m1 m2 m3 m4 HP1 HB3 hal hp HU2 HP2 HB4
  obtain ⟨m0, m1, m2, m3, m4⟩ := HP3.out.cells
  obtain ⟨⟨b0, b1, b2⟩, f0, f1, f2⟩ := box3 HBU.out
  go_wp2_with fail
  refine Calls.mono (HHS.out _ HU3.out.prod) ?_
  rintro e w4 ⟨rfl, hg4⟩
  have HP4 : Hid (PhAt w w4 w.heap.size #[.slice ta tn tc, .slice na nn nc, .slice la ln lc, .int .i64 st, .slice pa n pc]) := HP3.out.kept hg4
  have HB6 := boxKept HB5.out hg4
  have HBV := boxKept HBU.out hg4
  have HU4 : Hid (UseIs w1 w4 kb pb ub n (tn + nn) L R ra rc V q c m u) := ⟨HU3.out.row.kept hg4, HU3.out.is.kept hg4, SetM_kept HU3.out.prod hg4, SetM_kept HU3.out.used hg4⟩
  clear hg4 m0 m1 m2 m3 m4 b0 b1 b2 f0 f1 f2 HP3 HB5 HBU HU3
  obtain ⟨m0, m1, m2, m3, m4⟩ := HP4.out.cells
  obtain ⟨⟨b0, b1, b2⟩, f0, f1, f2⟩ := box3 HBV.out
  cases p with
  | false =>
    obtain ⟨s0, s1, s2, s3, s4⟩ : w4.cell? ⟨w.heap.size + 1, 0, none⟩ = some (.slice none 0 0) ∧ w4.cell? ⟨w.heap.size + 1, 1, none⟩ = some (.slice none 0 0) ∧ w4.cell? ⟨w.heap.size + 1, 2, none⟩ = some (.slice none 0 0) ∧ w4.cell? ⟨w.heap.size + 1, 3, none⟩ = some (.int .i64 0) ∧ w4.cell? ⟨w.heap.size + 1, 4, none⟩ = some (.slice none 0 0) := by
      refine ⟨?_, ?_, ?_, ?_, ?_⟩ <;> rw [cell_of_row _ _ _ _ _ _ HB6.out] <;> rfl
    have sf : ∀ j, w4.frozen? ⟨w.heap.size + 1, j, none⟩ = false := fun j => frozen_of_row _ _ _ _ _ HB6.out
    have HST := show Hid _ from set5_grown w4 (w.heap.size + 1) (.slice none 0 0) (.slice none 0 0) (.slice none 0 0) (.int .i64 0) (.slice none 0 0)
    have HF3 := show Hid _ from set5_heap HB6.out (.slice none 0 0) (.slice none 0 0) (.slice none 0 0) (.int .i64 0) (.slice none 0 0)
    go_wp2_with fail
    exact bodyPost_ret (v := .tuple #[.agg #[.slice none 0 0, .slice none 0 0, .slice none 0 0, .int .i64 0, .slice none 0 0], .int .i64 12]) (results_reduce _ _ (w.heap.size + 1) _ _ rfl rfl HF3.out rfl) rfl ⟨f, u, HFD.out, grown_at HP4.out.grown HST.out (by omega), .inl ⟨HPP.out.symm, rfl⟩⟩
  | true =>
    go_wp2_with fail
    refine Calls.mono (HRD.out w1 w4 kb pb ub q c m u f HP4.out.grown HU4.out HBN.out) ?_
    rintro e w5 ⟨vt, vn, vl, vp, rfl, hN5, hg5⟩
    have HB7 := boxKept HB6.out hg5
    obtain ⟨z, hz⟩ : ∃ z, z = numTo tn (fun i => u.testBit (tn + i)) nn st.toNat := ⟨_, rfl⟩
    have HZ := show Hid _ from hz
    rw [← hz]
    obtain ⟨a1, c1, e1⟩ := owns_slice hN5.terms
    obtain ⟨a2, c2, e2⟩ := owns_slice hN5.nons
    obtain ⟨a3, c3, e3⟩ := owns_slice hN5.levels
    obtain ⟨rg, hp4, _⟩ := hN5.prods
    obtain ⟨a4, c4, e4⟩ := owns_slice hp4
    have HN5 := show Hid _ from hN5
    have HG5 : Hid (w.grownBy w5 none) := grown_trans HP4.out.grown hg5
    have hlo : w.heap.size + 1 < w4.heap.size := (Array.getElem?_eq_some_iff.1 HB6.out).1
    generalize (redGR ts ns lv tn nn n st L R V (fun i => u.testBit (tn + i)) (fun k => goU tn L R f k u)).terms.length = y1 at *
    generalize (redGR ts ns lv tn nn n st L R V (fun i => u.testBit (tn + i)) (fun k => goU tn L R f k u)).nons.length = y2 at *
    generalize (redGR ts ns lv tn nn n st L R V (fun i => u.testBit (tn + i)) (fun k => goU tn L R f k u)).levels.length = y3 at *
    generalize (redGR ts ns lv tn nn n st L R V (fun i => u.testBit (tn + i)) (fun k => goU tn L R f k u)).prods.length = y4 at *
    subst e1 e2 e3 e4
    obtain ⟨s0, s1, s2, s3, s4⟩ : w5.cell? ⟨w.heap.size + 1, 0, none⟩ = some (.slice none 0 0) ∧ w5.cell? ⟨w.heap.size + 1, 1, none⟩ = some (.slice none 0 0) ∧ w5.cell? ⟨w.heap.size + 1, 2, none⟩ = some (.slice none 0 0) ∧ w5.cell? ⟨w.heap.size + 1, 3, none⟩ = some (.int .i64 0) ∧ w5.cell? ⟨w.heap.size + 1, 4, none⟩ = some (.slice none 0 0) := by
      refine ⟨?_, ?_, ?_, ?_, ?_⟩ <;> rw [cell_of_row _ _ _ _ _ _ HB7.out] <;> rfl
    have sf : ∀ j, w5.frozen? ⟨w.heap.size + 1, j, none⟩ = false := fun j => frozen_of_row _ _ _ _ _ HB7.out
    have HST := show Hid _ from set5_grown w5 (w.heap.size + 1) (.slice a1 y1 c1) (.slice a2 y2 c2) (.slice a3 y3 c3) (.int .i64 z) (.slice a4 y4 c4)
    have HF3 := show Hid _ from set5_heap HB7.out (.slice a1 y1 c1) (.slice a2 y2 c2) (.slice a3 y3 c3) (.int .i64 z) (.slice a4 y4 c4)
    clear hN5 hg5 hp4 hz
    go_wp2_with fail
    refine bodyPost_ret (v := .tuple #[.agg #[.slice a1 y1 c1, .slice a2 y2 c2, .slice a3 y3 c3, .int .i64 z, .slice a4 y4 c4], .int .i64 0]) (results_reduce _ _ (w.heap.size + 1) _ _ rfl rfl HF3.out rfl) rfl ?_
    refine ⟨f, u, HFD.out, grown_at HG5.out HST.out (by omega), .inr ⟨HPP.out.symm, .slice a1 y1 c1, .slice a2 y2 c2, .slice a3 y3 c3, .slice a4 y4 c4, by rw [HZ.out], ?_⟩⟩
    exact GramNew.off' HN5.out HST.out (by omega) (by omega)
end

end Go.Proofs.Ytljlkmiaemkokaa

/-
  reach: the chapter's example.
-/
namespace Go.Proofs.Ytljlkmiaemkokaa
open Go.RowKit Go.Maps Go.Shelf

attribute [local go_sem] Oper.semAt_some

/-! ### What is reduced hangs on the marks of the nonterminals and rules that there are -/
theorem filter_same {g g' : Nat → Bool} {k : Nat} (h : ∀ i, i < k → g i = g' i) : (List.range k).filter g = (List.range k).filter g' := List.filter_congr fun i hi => h i (by simpa using hi)
theorem redGR_same {ts : List (ByteArray × Int)} {ns : List ByteArray} {lv : List Int} {tn nn n : Nat} {st : Int} {L : Nat → Int} {R : Nat → List Int} {V : Nat → Int} {g g' go go' : Nat → Bool} (h1 : ∀ i, i < nn → g i = g' i) (h2 : ∀ k, k < n → go k = go' k) : redGR ts ns lv tn nn n st L R V g go = redGR ts ns lv tn nn n st L R V g' go' := by
  have e1 : numTo tn g nn = numTo tn g' nn := by
    funext i
    unfold numTo
    by_cases ht : i < tn
    · rw [if_pos ht, if_pos ht]
    · rw [if_neg ht, if_neg ht]
      by_cases hi : i - tn < nn
      · have e2 : cntU g (i - tn) = cntU g' (i - tn) := by unfold cntU; rw [filter_same fun j hj => h1 j (by omega)]
        rw [h1 _ hi, e2]
      · rw [if_neg (fun h => hi h.1), if_neg (fun h => hi h.1)]
  have e3 : namesTo g ns nn = namesTo g' ns nn := by unfold namesTo; rw [filter_same h1]
  unfold redGR prodsTo
  rw [e1, e3, filter_same h2]

/-! ### The example -/
def eTs : List (ByteArray × Int) := [(⟨#[]⟩, 0), (⟨#[97]⟩, 0)]
def eNs : List ByteArray := [⟨#[83]⟩, ⟨#[88]⟩]
def eL (i : Nat) : Int := if i = 2 then 3 else 2
def eR (i : Nat) : List Int := if i = 0 then [1] else if i = 1 then [3] else [3, 1]
theorem e_valid : validOK eTs eNs [] 2 3 eL eR (fun _ => 0) := by
  refine ⟨⟨by decide, by decide, ⟨[(⟨#[97]⟩, 0)], rfl, ?_, by decide⟩, ⟨?_, by decide⟩, fun j hj => absurd hj (Nat.not_lt_zero j), ?_, rfl, ⟨by decide, by decide⟩⟩, ?_⟩
  · intro t ht
    simp only [List.mem_singleton] at ht
    subst ht
    exact ⟨by rfl, by decide, by decide⟩
  · intro s hs
    simp only [eNs, List.mem_cons, List.not_mem_nil, or_false] at hs
    rcases hs with rfl | rfl <;> rfl
  · intro i hi
    have h3 : i = 0 ∨ i = 1 ∨ i = 2 := by omega
    rcases h3 with rfl | rfl | rfl
    · refine ⟨⟨by decide, by decide⟩, ⟨by decide, by decide⟩, ?_⟩
      intro x hx
      simp [eR] at hx
      subst hx
      exact .inl ⟨by decide, by decide⟩
    · refine ⟨⟨by decide, by decide⟩, ⟨by decide, by decide⟩, ?_⟩
      intro x hx
      simp [eR] at hx
      subst hx
      exact .inr ⟨by decide, by decide⟩
    · refine ⟨⟨by decide, by decide⟩, ⟨by decide, by decide⟩, ?_⟩
      intro x hx
      simp [eR] at hx
      rcases hx with rfl | rfl
      · exact .inr ⟨by decide, by decide⟩
      · exact .inl ⟨by decide, by decide⟩
  · intro i hi
    have : (leftsTo eL 3).length = 2 := by rfl
    have h0 : i = 0 := by omega
    subst h0
    decide

def eF : Nat → Bool := itr (stM 2 eL eR) 3 1 (fun _ => false)
theorem eF_fix : Fix (stM 2 eL eR) (chM 2 eL eR) 3 (fun _ => false) eF := ⟨1, rfl, by decide⟩
def eD : Nat → Bool := itr (stD 2 eL eR eF) 3 1 (startD 0 false true)
theorem eD_fix : Fix (stD 2 eL eR eF) (chD 2 eL eR eF) 3 (startD 0 false true) eD := ⟨1, rfl, by decide⟩

theorem e_found {f : Nat → Bool} {u : Nat} (h : Found 2 2 3 2 eL eR false f u) : f = eF ∧ u.testBit 2 = true ∧ u.testBit 3 = false := by
  have hf : f = eF := Fix.unique _ _ (fun k s hs => stM_same 2 eL eR k s hs) h.marks eF_fix
  subst hf
  have hM : MayOK 2 2 3 2 eL eR false := mayOK_valid e_valid
  have hp : true = eF ((2 : Int) - 2).toNat := by decide
  have hu := used_same hM (F := eD) (U := u) (root := 2) (p := true) (may := eF) hp rfl eD_fix (by rw [hp]; exact h.used)
  exact ⟨rfl, (hu 0 (by omega)).trans (by decide), (hu 1 (by omega)).trans (by decide)⟩

theorem e_red {f : Nat → Bool} {u : Nat} (h : Found 2 2 3 2 eL eR false f u) : redGR eTs eNs [] 2 2 3 2 eL eR (fun _ => 0) (fun i => u.testBit (2 + i)) (fun k => goU 2 eL eR f k u) = ⟨eTs, [⟨#[]⟩, ⟨#[83]⟩], [], 3, [⟨2, [3], 0⟩, ⟨3, [1], 0⟩]⟩ := by
  obtain ⟨rfl, h2, h3⟩ := e_found h
  rw [redGR_same (g' := fun i => decide (i = 0)) (go' := fun k => decide (k = 0)) (fun i hi => ?_) (fun k hk => ?_)]
  · rfl
  · have hi2 : i = 0 ∨ i = 1 := by omega
    rcases hi2 with rfl | rfl
    · exact h2
    · exact h3
  · have e2 : B.hasB u 2 = true := by unfold B.hasB; rw [show Int.toNat 2 = 2 from rfl, h2]; rfl
    have e3 : B.hasB u 3 = false := by unfold B.hasB; rw [show Int.toNat 3 = 3 from rfl, h3]; rfl
    have hk3 : k = 0 ∨ k = 1 ∨ k = 2 := by omega
    unfold goU
    rcases hk3 with rfl | rfl | rfl
    · rw [show eL 0 = 2 from rfl, e2]; decide
    · rw [show eL 1 = 2 from rfl, e2]; decide
    · rw [show eL 2 = 3 from rfl, e3]; rfl

theorem e_num {f : Nat → Bool} {u : Nat} (h : Found 2 2 3 2 eL eR false f u) : numTo 2 (fun i => u.testBit (2 + i)) 2 (Int.toNat 2) = 3 := by
  have := congrArg GR.start (e_red h)
  exact this

def eRa (B : Nat) (i : Nat) : Option Addr := if i = 0 then some ⟨B + 1 + 1, 0, none⟩ else if i = 1 then some ⟨B + 1 + 1 + 1, 0, none⟩ else some ⟨B + 1 + 1 + 1 + 1, 0, none⟩
def eRc (i : Nat) : Nat := if i = 2 then 2 else 1

theorem e_gat (w : World) : GAt ((((((w.alloc (.cells #[.string ⟨#[]⟩, .int .i64 0, .string ⟨#[97]⟩, .int .i64 0] 57)).alloc (.cells #[.string ⟨#[83]⟩, .string ⟨#[88]⟩] 9)).alloc (.cells #[.int .i64 1] 3)).alloc (.cells #[.int .i64 3] 3)).alloc (.cells #[.int .i64 3, .int .i64 1] 3)).alloc (.cells #[.int .i64 2, .slice (some ⟨w.heap.size + 1 + 1, 0, none⟩) 1 1, .int .i64 0, .int .i64 2, .slice (some ⟨w.heap.size + 1 + 1 + 1, 0, none⟩) 1 1, .int .i64 0, .int .i64 3, .slice (some ⟨w.heap.size + 1 + 1 + 1 + 1, 0, none⟩) 2 2, .int .i64 0] 45)) (some ⟨w.heap.size, 0, none⟩) (some ⟨w.heap.size + 1, 0, none⟩) none (some ⟨w.heap.size + 1 + 1 + 1 + 1 + 1, 0, none⟩) 2 2 0 3 eTs eNs [] 3 eL eR (eRa w.heap.size) eRc (fun _ => 0) ∧ w.grownBy ((((((w.alloc (.cells #[.string ⟨#[]⟩, .int .i64 0, .string ⟨#[97]⟩, .int .i64 0] 57)).alloc (.cells #[.string ⟨#[83]⟩, .string ⟨#[88]⟩] 9)).alloc (.cells #[.int .i64 1] 3)).alloc (.cells #[.int .i64 3] 3)).alloc (.cells #[.int .i64 3, .int .i64 1] 3)).alloc (.cells #[.int .i64 2, .slice (some ⟨w.heap.size + 1 + 1, 0, none⟩) 1 1, .int .i64 0, .int .i64 2, .slice (some ⟨w.heap.size + 1 + 1 + 1, 0, none⟩) 1 1, .int .i64 0, .int .i64 3, .slice (some ⟨w.heap.size + 1 + 1 + 1 + 1, 0, none⟩) 2 2, .int .i64 0] 45)) none := by
  have g1 := World.grownBy_alloc w (.cells #[.string ⟨#[]⟩, .int .i64 0, .string ⟨#[97]⟩, .int .i64 0] 57) none
  have b1 := heap_alloc_last w (.cells #[.string ⟨#[]⟩, .int .i64 0, .string ⟨#[97]⟩, .int .i64 0] 57)
  have g2 := World.grownBy_alloc (w.alloc (.cells #[.string ⟨#[]⟩, .int .i64 0, .string ⟨#[97]⟩, .int .i64 0] 57)) (.cells #[.string ⟨#[83]⟩, .string ⟨#[88]⟩] 9) none
  have b2 := heap_alloc_last (w.alloc (.cells #[.string ⟨#[]⟩, .int .i64 0, .string ⟨#[97]⟩, .int .i64 0] 57)) (.cells #[.string ⟨#[83]⟩, .string ⟨#[88]⟩] 9)
  have g3 := World.grownBy_alloc ((w.alloc (.cells #[.string ⟨#[]⟩, .int .i64 0, .string ⟨#[97]⟩, .int .i64 0] 57)).alloc (.cells #[.string ⟨#[83]⟩, .string ⟨#[88]⟩] 9)) (.cells #[.int .i64 1] 3) none
  have b3 := heap_alloc_last ((w.alloc (.cells #[.string ⟨#[]⟩, .int .i64 0, .string ⟨#[97]⟩, .int .i64 0] 57)).alloc (.cells #[.string ⟨#[83]⟩, .string ⟨#[88]⟩] 9)) (.cells #[.int .i64 1] 3)
  have g4 := World.grownBy_alloc (((w.alloc (.cells #[.string ⟨#[]⟩, .int .i64 0, .string ⟨#[97]⟩, .int .i64 0] 57)).alloc (.cells #[.string ⟨#[83]⟩, .string ⟨#[88]⟩] 9)).alloc (.cells #[.int .i64 1] 3)) (.cells #[.int .i64 3] 3) none
  have b4 := heap_alloc_last (((w.alloc (.cells #[.string ⟨#[]⟩, .int .i64 0, .string ⟨#[97]⟩, .int .i64 0] 57)).alloc (.cells #[.string ⟨#[83]⟩, .string ⟨#[88]⟩] 9)).alloc (.cells #[.int .i64 1] 3)) (.cells #[.int .i64 3] 3)
  have g5 := World.grownBy_alloc ((((w.alloc (.cells #[.string ⟨#[]⟩, .int .i64 0, .string ⟨#[97]⟩, .int .i64 0] 57)).alloc (.cells #[.string ⟨#[83]⟩, .string ⟨#[88]⟩] 9)).alloc (.cells #[.int .i64 1] 3)).alloc (.cells #[.int .i64 3] 3)) (.cells #[.int .i64 3, .int .i64 1] 3) none
  have b5 := heap_alloc_last ((((w.alloc (.cells #[.string ⟨#[]⟩, .int .i64 0, .string ⟨#[97]⟩, .int .i64 0] 57)).alloc (.cells #[.string ⟨#[83]⟩, .string ⟨#[88]⟩] 9)).alloc (.cells #[.int .i64 1] 3)).alloc (.cells #[.int .i64 3] 3)) (.cells #[.int .i64 3, .int .i64 1] 3)
  have g6 := World.grownBy_alloc (((((w.alloc (.cells #[.string ⟨#[]⟩, .int .i64 0, .string ⟨#[97]⟩, .int .i64 0] 57)).alloc (.cells #[.string ⟨#[83]⟩, .string ⟨#[88]⟩] 9)).alloc (.cells #[.int .i64 1] 3)).alloc (.cells #[.int .i64 3] 3)).alloc (.cells #[.int .i64 3, .int .i64 1] 3)) (.cells #[.int .i64 2, .slice (some ⟨w.heap.size + 1 + 1, 0, none⟩) 1 1, .int .i64 0, .int .i64 2, .slice (some ⟨w.heap.size + 1 + 1 + 1, 0, none⟩) 1 1, .int .i64 0, .int .i64 3, .slice (some ⟨w.heap.size + 1 + 1 + 1 + 1, 0, none⟩) 2 2, .int .i64 0] 45) none
  have b6 := heap_alloc_last (((((w.alloc (.cells #[.string ⟨#[]⟩, .int .i64 0, .string ⟨#[97]⟩, .int .i64 0] 57)).alloc (.cells #[.string ⟨#[83]⟩, .string ⟨#[88]⟩] 9)).alloc (.cells #[.int .i64 1] 3)).alloc (.cells #[.int .i64 3] 3)).alloc (.cells #[.int .i64 3, .int .i64 1] 3)) (.cells #[.int .i64 2, .slice (some ⟨w.heap.size + 1 + 1, 0, none⟩) 1 1, .int .i64 0, .int .i64 2, .slice (some ⟨w.heap.size + 1 + 1 + 1, 0, none⟩) 1 1, .int .i64 0, .int .i64 3, .slice (some ⟨w.heap.size + 1 + 1 + 1 + 1, 0, none⟩) 2 2, .int .i64 0] 45)
  rw [World.size_alloc] at b2
  rw [World.size_alloc, World.size_alloc] at b3
  rw [World.size_alloc, World.size_alloc, World.size_alloc] at b4
  rw [World.size_alloc, World.size_alloc, World.size_alloc, World.size_alloc] at b5
  rw [World.size_alloc, World.size_alloc, World.size_alloc, World.size_alloc, World.size_alloc] at b6
  have c1 := (boxKept b1 g2).out
  have c1 := (boxKept c1 g3).out
  have c1 := (boxKept c1 g4).out
  have c1 := (boxKept c1 g5).out
  have c1 := (boxKept c1 g6).out
  have c2 := (boxKept b2 g3).out
  have c2 := (boxKept c2 g4).out
  have c2 := (boxKept c2 g5).out
  have c2 := (boxKept c2 g6).out
  have c3 := (boxKept b3 g4).out
  have c3 := (boxKept c3 g5).out
  have c3 := (boxKept c3 g6).out
  have c4 := (boxKept b4 g5).out
  have c4 := (boxKept c4 g6).out
  have c5 := (boxKept b5 g6).out
  refine ⟨⟨.inr ⟨_, 0, rfl, fun i hi => ?_⟩, .inr ⟨_, 0, rfl, fun i hi => ?_⟩, .inl rfl, .inr ⟨_, 0, rfl, fun k hk => ?_⟩, by decide, by decide, by decide, (fun h => by cases h), (fun h => by cases h), by decide, by decide, by decide, by decide⟩, grown_trans g1 (grown_trans g2 (grown_trans g3 (grown_trans g4 (grown_trans g5 g6))))⟩
  · have h2 : i = 0 ∨ i = 1 := by simp [eTs] at hi; omega
    rcases h2 with rfl | rfl
    · exact ⟨by rw [cell_of_row _ _ _ _ _ _ c1]; rfl, by rw [cell_of_row _ _ _ _ _ _ c1]; rfl⟩
    · exact ⟨by rw [cell_of_row _ _ _ _ _ _ c1]; rfl, by rw [cell_of_row _ _ _ _ _ _ c1]; rfl⟩
  · have h2 : i = 0 ∨ i = 1 := by simp [eNs] at hi; omega
    rcases h2 with rfl | rfl <;> (rw [cell_of_row _ _ _ _ _ _ c2]; rfl)
  · have h3 : k = 0 ∨ k = 1 ∨ k = 2 := by omega
    rcases h3 with rfl | rfl | rfl
    · refine ⟨by rw [cell_of_row _ _ _ _ _ _ b6]; rfl, by rw [cell_of_row _ _ _ _ _ _ b6]; rfl, by rw [cell_of_row _ _ _ _ _ _ b6]; rfl, .inr ⟨w.heap.size + 1 + 1, 0, rfl, fun i hi => ?_⟩, (fun h => by cases h), by decide⟩
      have h2 : i = 0 := by simp [eR] at hi; omega
      subst h2
      rw [cell_of_row _ _ _ _ _ _ c3]; rfl
    · refine ⟨by rw [cell_of_row _ _ _ _ _ _ b6]; rfl, by rw [cell_of_row _ _ _ _ _ _ b6]; rfl, by rw [cell_of_row _ _ _ _ _ _ b6]; rfl, .inr ⟨w.heap.size + 1 + 1 + 1, 0, rfl, fun i hi => ?_⟩, (fun h => by cases h), by decide⟩
      have h2 : i = 0 := by simp [eR] at hi; omega
      subst h2
      rw [cell_of_row _ _ _ _ _ _ c4]; rfl
    · refine ⟨by rw [cell_of_row _ _ _ _ _ _ b6]; rfl, by rw [cell_of_row _ _ _ _ _ _ b6]; rfl, by rw [cell_of_row _ _ _ _ _ _ b6]; rfl, .inr ⟨w.heap.size + 1 + 1 + 1 + 1, 0, rfl, fun i hi => ?_⟩, (fun h => by cases h), by decide⟩
      have h2 : i = 0 ∨ i = 1 := by simp [eR] at hi; omega
      rcases h2 with rfl | rfl <;> (rw [cell_of_row _ _ _ _ _ _ c5]; rfl)

set_option maxRecDepth 100000 in
set_option maxHeartbeats 2000000 in
theorem eawake_any (w : World) : Calls Try.prog 15 #[] w fun e w' => e = .returned (.bool true) ∧ w.grownBy w' none := by
  obtain ⟨hG, hg⟩ := e_gat w
  obtain ⟨W, hW⟩ : ∃ W, W = ((((((w.alloc (.cells #[.string ⟨#[]⟩, .int .i64 0, .string ⟨#[97]⟩, .int .i64 0] 57)).alloc (.cells #[.string ⟨#[83]⟩, .string ⟨#[88]⟩] 9)).alloc (.cells #[.int .i64 1] 3)).alloc (.cells #[.int .i64 3] 3)).alloc (.cells #[.int .i64 3, .int .i64 1] 3)).alloc (.cells #[.int .i64 2, .slice (some ⟨w.heap.size + 1 + 1, 0, none⟩) 1 1, .int .i64 0, .int .i64 2, .slice (some ⟨w.heap.size + 1 + 1 + 1, 0, none⟩) 1 1, .int .i64 0, .int .i64 3, .slice (some ⟨w.heap.size + 1 + 1 + 1 + 1, 0, none⟩) 2 2, .int .i64 0] 45)) := ⟨_, rfl⟩
  rw [← hW] at hG hg
  have hWs : W.heap.size = w.heap.size + 1 + 1 + 1 + 1 + 1 + 1 := by rw [hW]; simp
  obtain ⟨X, hX⟩ : ∃ X, X = W.alloc (.cells #[.slice (some ⟨w.heap.size, 0, none⟩) 2 2, .slice (some ⟨w.heap.size + 1, 0, none⟩) 2 2, .slice none 0 0, .int .i64 2, .slice (some ⟨w.heap.size + 1 + 1 + 1 + 1 + 1, 0, none⟩) 3 3] 27) := ⟨_, rfl⟩
  have HX0 : Hid (PhAt W X (w.heap.size + 1 + 1 + 1 + 1 + 1 + 1) #[.slice (some ⟨w.heap.size, 0, none⟩) 2 2, .slice (some ⟨w.heap.size + 1, 0, none⟩) 2 2, .slice none 0 0, .int .i64 2, .slice (some ⟨w.heap.size + 1 + 1 + 1 + 1 + 1, 0, none⟩) 3 3]) := by
    have h9 := heap_alloc_last W (.cells #[.slice (some ⟨w.heap.size, 0, none⟩) 2 2, .slice (some ⟨w.heap.size + 1, 0, none⟩) 2 2, .slice none 0 0, .int .i64 2, .slice (some ⟨w.heap.size + 1 + 1 + 1 + 1 + 1, 0, none⟩) 3 3] 27)
    rw [hWs, ← hX] at h9
    exact ⟨by rw [hX]; exact World.grownBy_alloc _ _ none, h9⟩
  have HXE : Hid (X = ((((((w.alloc (.cells #[.string ⟨#[]⟩, .int .i64 0, .string ⟨#[97]⟩, .int .i64 0] 57)).alloc (.cells #[.string ⟨#[83]⟩, .string ⟨#[88]⟩] 9)).alloc (.cells #[.int .i64 1] 3)).alloc (.cells #[.int .i64 3] 3)).alloc (.cells #[.int .i64 3, .int .i64 1] 3)).alloc (.cells #[.int .i64 2, .slice (some ⟨w.heap.size + 1 + 1, 0, none⟩) 1 1, .int .i64 0, .int .i64 2, .slice (some ⟨w.heap.size + 1 + 1 + 1, 0, none⟩) 1 1, .int .i64 0, .int .i64 3, .slice (some ⟨w.heap.size + 1 + 1 + 1 + 1, 0, none⟩) 2 2, .int .i64 0] 45)).alloc (.cells #[.slice (some ⟨w.heap.size, 0, none⟩) 2 2, .slice (some ⟨w.heap.size + 1, 0, none⟩) 2 2, .slice none 0 0, .int .i64 2, .slice (some ⟨w.heap.size + 1 + 1 + 1 + 1 + 1, 0, none⟩) 3 3] 27)) := by show X = _; rw [hX, hW]
  have HP : Hid (∀ Y, W.grownBy Y none → Calls Try.prog 9 #[.agg #[.slice (some ⟨w.heap.size, 0, none⟩) 2 2, .slice (some ⟨w.heap.size + 1, 0, none⟩) 2 2, .slice none 0 0, .int .i64 2, .slice (some ⟨w.heap.size + 1 + 1 + 1 + 1 + 1, 0, none⟩) 3 3]] Y fun e y => ProdTold 2 2 3 eL eR Y e y) := fun Y hY => productive_ok _ _ _ _ _ _ _ _ eTs eNs [] 3 eL eR _ _ (fun _ => 0) 2 Y 2 2 0 ⟨rfl, rfl, rfl⟩ (hG.kept hY) false ⟨fun h => (by cases h), fun h => absurd h.1.name (valid_name e_valid)⟩ (fun _ => e_valid)
  have HR : Hid (∀ Y, W.grownBy Y none → Calls Try.prog 16 #[.agg #[.slice (some ⟨w.heap.size, 0, none⟩) 2 2, .slice (some ⟨w.heap.size + 1, 0, none⟩) 2 2, .slice none 0 0, .int .i64 2, .slice (some ⟨w.heap.size + 1 + 1 + 1 + 1 + 1, 0, none⟩) 3 3]] Y fun e y => ReduceTold eTs eNs [] 2 2 3 2 eL eR (fun _ => 0) Y e y) := fun Y hY => reduce_ok _ _ _ _ _ _ _ _ eTs eNs [] 3 eL eR _ _ (fun _ => 0) 2 Y 2 2 0 ⟨rfl, rfl, rfl⟩ (hG.kept hY) (fun h => by cases h) (fun _ => ⟨rfl, rfl⟩) e_valid
  have HG : Hid (w.grownBy W none) := hg
  clear hG hg hW hX hWs
  go_enter Try.func15, Try.ntmps15
  go_wp2_with fail
  rw [← HXE.out]
  refine Calls.mono (HP.out _ HX0.out.grown) ?_
  rintro e w1 ⟨k, f, rfl, hk, hB, hF, hg1⟩
  have HX1 : Hid (PhAt W w1 (w.heap.size + 1 + 1 + 1 + 1 + 1 + 1) #[.slice (some ⟨w.heap.size, 0, none⟩) 2 2, .slice (some ⟨w.heap.size + 1, 0, none⟩) 2 2, .slice none 0 0, .int .i64 2, .slice (some ⟨w.heap.size + 1 + 1 + 1 + 1 + 1, 0, none⟩) 3 3]) := HX0.out.kept hg1
  have hf : f = eF := Fix.unique _ _ (fun k s hs => stM_same 2 eL eR k s hs) hF eF_fix
  rw [hf] at hB
  have HB1 : Hid (BoolAt w1 k 2 eF) := hB
  clear hg1 hk hB hF hf HX0 HXE
  obtain ⟨k0, k1, k2, k3, k4⟩ := HX1.out.cells
  go_wp2_with fail
  refine Calls.mono (HR.out _ HX1.out.grown) ?_
  rintro e w2 ⟨f2, u2, hFd, hg2, hcase⟩
  have hft : f2 ((2 : Int) - 2).toNat = true := by rw [(e_found hFd).1]; decide
  rcases hcase with ⟨h0, _⟩ | ⟨_, vt, vn, vl, vp, rfl, hN⟩
  · rw [show ((2 : Nat) : Int) = 2 from rfl, hft] at h0; cases h0
  · rw [e_red hFd] at hN
    rw [e_num hFd]
    obtain ⟨a1, c1, e1⟩ := owns_slice hN.terms
    obtain ⟨a2, c2, e2⟩ := owns_slice hN.nons
    obtain ⟨a3, c3, e3⟩ := owns_slice hN.levels
    obtain ⟨rg, hp4, _⟩ := hN.prods
    obtain ⟨a4, c4, e4⟩ := owns_slice hp4
    have e1' : vt = .slice a1 2 c1 := e1
    have e2' : vn = .slice a2 2 c2 := e2
    have e3' : vl = .slice a3 0 c3 := e3
    have e4' : vp = .slice a4 2 c4 := e4
    subst e1' e2' e3' e4'
    have hS : StrsAt w2 a2 [⟨#[]⟩, ⟨#[83]⟩] := StrsIn.strsAt (v := .slice a2 2 c2) (owns_base hN.nons) rfl
    obtain ⟨bn, on, rfl, hcs⟩ : ∃ b off, a2 = some ⟨b, off, none⟩ ∧ ∀ i, i < 2 → w2.cell? ⟨b, off + i, none⟩ = some (.string (([⟨#[]⟩, ⟨#[83]⟩] : List ByteArray).getD i ⟨#[]⟩)) := by
      rcases hS with h | h
      · cases h
      · exact h
    have n1 : ∀ o, (w2.alloc o).cell? ⟨bn, on + 1, none⟩ = some (.string ⟨#[83]⟩) := fun o => (World.grownBy_alloc w2 o none).cell (hcs 1 (by omega)) (by simp)
    have HB2 : Hid (∀ o, BoolAt (w2.alloc o) k 2 eF) := fun o => (HB1.out.kept hg2).kept (World.grownBy_alloc _ _ none)
    have b0 : ∀ o, (w2.alloc o).cell? ⟨k, 0, none⟩ = some (.bool true) := fun o => (HB2.out o).cell 0 (by omega)
    have b1 : ∀ o, (w2.alloc o).cell? ⟨k, 1, none⟩ = some (.bool false) := fun o => (HB2.out o).cell 1 (by omega)
    have HG2 : Hid (w.grownBy w2 none) := grown_trans HG.out (grown_trans HX1.out.grown hg2)
    clear hFd hft hN hp4 hS hcs hg2 HB1 HX1 k0 k1 k2 k3 k4 e1 e2 e3 e4
    go_wp2_with fail
    go_ret
    exact ⟨rfl, grown_trans HG2.out (World.grownBy_alloc _ _ none)⟩

end Go.Proofs.Ytljlkmiaemkokaa

/-
  reach: the document's Productive and Useful; what both sides tell, in one form.
-/
namespace Go.Proofs.Ytljlkmiaemkokaa
open Go.RowKit Go.Maps Go.Shelf

attribute [local go_sem] Oper.semAt_some

section
variable {σ : Type} (step : Nat → σ → σ) (chg : Nat → σ → Bool)
theorem itr_shift (n : Nat) (s : σ) : ∀ t, itr step n (t + 1) s = itr step n t (rnd step n s)
  | 0 => rfl
  | t + 1 => by
    show rnd step n (itr step n (t + 1) s) = rnd step n (itr step n t (rnd step n s))
    rw [itr_shift n s t]
theorem Fix.exists (mu : σ → Nat) (n : Nat) (h : ∀ s, mu (rnd step n s) + (rchg step chg n s).toNat ≤ mu s) : ∀ (m : Nat) (s : σ), mu s ≤ m → ∃ F, Fix step chg n s F
  | 0, s, hm => by
    have := h s
    refine ⟨s, 0, rfl, ?_⟩
    cases hc : rchg step chg n s with
    | false => rfl
    | true => rw [hc] at this; simp at this; omega
  | m + 1, s, hm => by
    cases hc : rchg step chg n s with
    | false => exact ⟨s, 0, rfl, hc⟩
    | true =>
      have h1 := h s
      rw [hc] at h1
      obtain ⟨F, t, hF, hr⟩ := Fix.exists mu n h m (rnd step n s) (by simp at h1; omega)
      exact ⟨F, t + 1, by rw [itr_shift]; exact hF, hr⟩
end

section
variable {tn nn n : Nat} {st : Int} {L : Nat → Int} {R : Nat → List Int} {cl : Bool}
theorem MayOK.marks (h : MayOK tn nn n st L R cl) : ∃ F, Fix (stM tn L R) (chM tn L R) n (fun _ => false) F :=
  Fix.exists _ _ (un nn) n (fun s => un_rnd tn nn L R s n h.left) (un nn (fun _ => false)) _ (Nat.le_refl _)
theorem MayOK.useds (h : MayOK tn nn n st L R cl) (may : Nat → Bool) (s0 : Nat → Bool) : ∃ F, Fix (stD tn L R may) (chD tn L R may) n s0 F :=
  Fix.exists _ _ (un nn) n (fun s => un_rndD tn nn L R may s n h.right) (un nn s0) _ (Nat.le_refl _)
end

/-- What a grammar's marks are: the productive ones, the useful ones. -/
structure MarksOf (tn nn n : Nat) (st : Int) (L : Nat → Int) (R : Nat → List Int) (cl : Bool) (F G : Nat → Bool) : Prop where
  may : MayOK tn nn n st L R cl
  f : Fix (stM tn L R) (chM tn L R) n (fun _ => false) F
  g : Fix (stD tn L R F) (chD tn L R F) n (startD (st - tn).toNat cl (F (st - tn).toNat)) G
theorem MayOK.marksOf {tn nn n : Nat} {st : Int} {L : Nat → Int} {R : Nat → List Int} {cl : Bool} (h : MayOK tn nn n st L R cl) : ∃ F G, MarksOf tn nn n st L R cl F G := by
  obtain ⟨F, hF⟩ := h.marks
  obtain ⟨G, hG⟩ := h.useds F (startD (st - tn).toNat cl (F (st - tn).toNat))
  exact ⟨F, G, h, hF, hG⟩
section
variable {tn nn n : Nat} {st : Int} {L : Nat → Int} {R : Nat → List Int} {cl : Bool} {F G f : Nat → Bool} {u : Nat}
theorem MarksOf.f_eq (h : MarksOf tn nn n st L R cl F G) (hf : Fix (stM tn L R) (chM tn L R) n (fun _ => false) f) : f = F := Fix.unique _ _ (fun k s hs => stM_same tn L R k s hs) hf h.f
theorem MarksOf.g_eq (h : MarksOf tn nn n st L R cl F G) (hf : Fix (stD tn L R F) (chD tn L R F) n (startD (st - tn).toNat cl (F (st - tn).toNat)) f) : f = G := Fix.unique _ _ (fun k s hs => stD_same k s hs) hf h.g
theorem MarksOf.u_eq (h : MarksOf tn nn n st L R cl F G) (hu : Fix (stU tn nn L R F) (fun k u => decide (0 < adU tn nn L R F k u)) n (startU (if cl = true then tn else st.toNat) (F (st - tn).toNat)) u) : ∀ i, i < nn → u.testBit (tn + i) = G i := by
  refine used_same h.may (may := F) (p := F (st - tn).toNat) rfl ?_ h.g hu
  have := h.may.start
  by_cases hc : cl = true
  · rw [if_pos hc, if_pos hc]
  · rw [if_neg hc, if_neg hc]; omega
end

/-- A row of marks that was told: none, or new ones. -/
def BRow (w y : World) (a : Option Addr) (m : Nat) (f : Nat → Bool) : Prop := (a = none ∧ m = 0) ∨ ∃ k, a = some ⟨k, 0, none⟩ ∧ w.heap.size ≤ k ∧ BoolAt y k m f
/-- The answer of each of the four. -/
def MTold (ec : Int) (m : Nat) (f : Nat → Bool) (X : World) (e : Ending) (y : World) : Prop := ∃ a, e = .returned (.tuple #[.slice a m m, .int .i64 ec]) ∧ BRow X y a m f ∧ X.grownBy y none

section
variable (ta na la pa : Option Addr) (tc nc lc pc : Nat) (ts : List (ByteArray × Int)) (ns : List ByteArray) (lv : List Int) (n : Nat) (L : Nat → Int) (R : Nat → List Int) (ra : Nat → Option Addr) (rc : Nat → Nat) (V : Nat → Int) (st : Int) (w : World) (tn nn ln : Nat) (hlen : ts.length = tn ∧ ns.length = nn ∧ lv.length = ln) (hG : GAt w ta na la pa tc nc lc pc ts ns lv n L R ra rc V) (hts : ∀ t ∈ ts, t.1.size ≤ 140737488355328) (hns : ∀ s ∈ ns, s.size ≤ 140737488355328)
include hlen hG hts hns

theorem rvc (X : World) (hX : w.grownBy X none) (rV rC : Bool) (hV : rV = true ↔ validOK ts ns lv st n L R V) (hC : rC = true ↔ closedOK ts ns lv st n L R V) :
    Calls Try.prog 20 #[.agg #[.slice ta tn tc, .slice na nn nc, .slice la ln lc, .int .i64 st, .slice pa n pc]] X (fun e w' => e = .returned (.bool rV) ∧ X.grownBy w' none) ∧ Calls Try.prog 18 #[.agg #[.slice ta tn tc, .slice na nn nc, .slice la ln lc, .int .i64 st, .slice pa n pc]] X (fun e w' => e = .returned (.bool rC) ∧ X.grownBy w' none) := by
  have h1 := rvalid_any ta na la pa tc nc lc pc st ts ns lv n L R ra rc V X (hG.kept hX) hts hns rV hV
  have h2 := rclosed_any ta na la pa tc nc lc pc st ts ns lv n L R ra rc V X (hG.kept hX) hts hns rC hC
  rw [hlen.1, hlen.2.1, hlen.2.2] at h1 h2
  exact ⟨h1, h2⟩

set_option maxRecDepth 100000 in
theorem rproductive_any (rV rC : Bool) (hV : rV = true ↔ validOK ts ns lv st n L R V) (hC : rC = true ↔ closedOK ts ns lv st n L R V) (cl : Bool) (F G : Nat → Bool) (hM : (rV || rC) = true → MarksOf tn nn n st L R cl F G) :
    Calls Try.prog 11 #[.agg #[.slice ta tn tc, .slice na nn nc, .slice la ln lc, .int .i64 st, .slice pa n pc]] w fun e y => MTold (if (rV || rC) = true then 0 else 1) (if (rV || rC) = true then nn else 0) F w e y := by
  have HV : Hid (∀ X, w.grownBy X none → Calls Try.prog 20 #[.agg #[.slice ta tn tc, .slice na nn nc, .slice la ln lc, .int .i64 st, .slice pa n pc]] X (fun e w' => e = .returned (.bool rV) ∧ X.grownBy w' none)) := fun X hX => (rvc ta na la pa tc nc lc pc ts ns lv n L R ra rc V st w tn nn ln hlen hG hts hns X hX rV rC hV hC).1
  have HC : Hid (∀ X, w.grownBy X none → Calls Try.prog 18 #[.agg #[.slice ta tn tc, .slice na nn nc, .slice la ln lc, .int .i64 st, .slice pa n pc]] X (fun e w' => e = .returned (.bool rC) ∧ X.grownBy w' none)) := fun X hX => (rvc ta na la pa tc nc lc pc ts ns lv n L R ra rc V st w tn nn ln hlen hG hts hns X hX rV rC hV hC).2
  have HK : Hid ((rV || rC) = true → ∀ X, w.grownBy X none → Calls Try.prog 25 #[.agg #[.slice ta tn tc, .slice na nn nc, .slice la ln lc, .int .i64 st, .slice pa n pc]] X fun e w' => ∃ k, e = .returned (.slice (some ⟨k, 0, none⟩) nn nn) ∧ BRow X w' (some ⟨k, 0, none⟩) nn F ∧ X.grownBy w' none) := fun hok X hX => by
    have hm := (hM hok).may
    refine (rmarks_any ta na la pa tn nn ln n tc nc lc pc st L R ra rc V X (hG.kept hX).prods hm.pmax (by have := hm.nmax; omega) hm.left (fun k hk x hx => ⟨by have := hm.right k hk x hx; omega, (hm.right k hk x hx).2⟩)).mono ?_
    rintro e w' ⟨k, rfl, hk, ⟨f, hB, hF⟩, hg⟩
    rw [(hM hok).f_eq hF] at hB
    exact ⟨k, rfl, .inr ⟨k, rfl, hk, hB⟩, hg⟩
  have HX0 : Hid (PhAt w (w.alloc (.cells #[.slice ta tn tc, .slice na nn nc, .slice la ln lc, .int .i64 st, .slice pa n pc] 27)) w.heap.size #[.slice ta tn tc, .slice na nn nc, .slice la ln lc, .int .i64 st, .slice pa n pc]) := ⟨World.grownBy_alloc _ _ none, heap_alloc_last w _⟩
  clear hlen hG hts hns hV hC hM
  cases rV with
  | true =>
    go_enter Try.func11, Try.ntmps11
    go_wp2_with fail
    refine Calls.mono (HV.out _ HX0.out.grown) ?_
    rintro e w1 ⟨rfl, hg1⟩
    have HX1 : Hid (PhAt w w1 w.heap.size #[.slice ta tn tc, .slice na nn nc, .slice la ln lc, .int .i64 st, .slice pa n pc]) := HX0.out.kept hg1
    obtain ⟨m0, m1, m2, m3, m4⟩ := HX1.out.cells
    clear hg1 HX0
    go_wp2_with fail
    refine Calls.mono (HK.out rfl _ HX1.out.grown) ?_
    rintro e w2 ⟨k, rfl, hB, hg2⟩
    have HB : Hid (BRow w1 w2 (some ⟨k, 0, none⟩) nn F) := hB
    have HG2 : Hid (w.grownBy w2 none) := grown_trans HX1.out.grown hg2
    clear hB hg2
    go_wp2_with fail
    go_ret2
    refine ⟨some ⟨k, 0, none⟩, rfl, ?_, HG2.out⟩
    rcases HB.out with ⟨h, _⟩ | ⟨k', e, h1, h2⟩
    · cases h
    · exact .inr ⟨k', e, Nat.le_trans HX1.out.grown.size h1, h2⟩
  | false =>
    cases rC with
    | true =>
      go_enter Try.func11, Try.ntmps11
      go_wp2_with fail
      refine Calls.mono (HV.out _ HX0.out.grown) ?_
      rintro e w1 ⟨rfl, hg1⟩
      have HX1 : Hid (PhAt w w1 w.heap.size #[.slice ta tn tc, .slice na nn nc, .slice la ln lc, .int .i64 st, .slice pa n pc]) := HX0.out.kept hg1
      obtain ⟨m0, m1, m2, m3, m4⟩ := HX1.out.cells
      clear hg1 HX0
      go_wp2_with fail
      refine Calls.mono (HC.out _ HX1.out.grown) ?_
      rintro e w2 ⟨rfl, hg2⟩
      have HX2 : Hid (PhAt w w2 w.heap.size #[.slice ta tn tc, .slice na nn nc, .slice la ln lc, .int .i64 st, .slice pa n pc]) := HX1.out.kept hg2
      clear hg2 HX1 m0 m1 m2 m3 m4
      obtain ⟨m0, m1, m2, m3, m4⟩ := HX2.out.cells
      go_wp2_with fail
      refine Calls.mono (HK.out rfl _ HX2.out.grown) ?_
      rintro e w3 ⟨k, rfl, hB, hg3⟩
      have HB : Hid (BRow w2 w3 (some ⟨k, 0, none⟩) nn F) := hB
      have HG3 : Hid (w.grownBy w3 none) := grown_trans HX2.out.grown hg3
      clear hB hg3
      go_wp2_with fail
      go_ret2
      refine ⟨some ⟨k, 0, none⟩, rfl, ?_, HG3.out⟩
      rcases HB.out with ⟨h, _⟩ | ⟨k', e, h1, h2⟩
      · cases h
      · exact .inr ⟨k', e, Nat.le_trans HX2.out.grown.size h1, h2⟩
    | false =>
      go_enter Try.func11, Try.ntmps11
      go_wp2_with fail
      refine Calls.mono (HV.out _ HX0.out.grown) ?_
      rintro e w1 ⟨rfl, hg1⟩
      have HX1 : Hid (PhAt w w1 w.heap.size #[.slice ta tn tc, .slice na nn nc, .slice la ln lc, .int .i64 st, .slice pa n pc]) := HX0.out.kept hg1
      obtain ⟨m0, m1, m2, m3, m4⟩ := HX1.out.cells
      clear hg1 HX0
      go_wp2_with fail
      refine Calls.mono (HC.out _ HX1.out.grown) ?_
      rintro e w2 ⟨rfl, hg2⟩
      have HG2 : Hid (w.grownBy w2 none) := grown_trans HX1.out.grown hg2
      clear hg2
      go_wp2_with fail
      go_ret2
      exact ⟨none, rfl, .inl ⟨rfl, rfl⟩, HG2.out⟩

set_option maxRecDepth 100000 in
theorem ruseful_any (rV rC : Bool) (hV : rV = true ↔ validOK ts ns lv st n L R V) (hC : rC = true ↔ closedOK ts ns lv st n L R V) (cl : Bool) (F G : Nat → Bool) (hM : (rV || rC) = true → MarksOf tn nn n st L R cl F G) (hcl : (rV || rC) = true → (cl = true ↔ ns.getD 0 ⟨#[]⟩ = ⟨#[]⟩)) :
    Calls Try.prog 12 #[.agg #[.slice ta tn tc, .slice na nn nc, .slice la ln lc, .int .i64 st, .slice pa n pc]] w fun e y => MTold (if (rV || rC) = true then 0 else 1) (if (rV || rC) = true then nn else 0) G w e y := by
  have HV : Hid (∀ X, w.grownBy X none → Calls Try.prog 20 #[.agg #[.slice ta tn tc, .slice na nn nc, .slice la ln lc, .int .i64 st, .slice pa n pc]] X (fun e w' => e = .returned (.bool rV) ∧ X.grownBy w' none)) := fun X hX => (rvc ta na la pa tc nc lc pc ts ns lv n L R ra rc V st w tn nn ln hlen hG hts hns X hX rV rC hV hC).1
  have HC : Hid (∀ X, w.grownBy X none → Calls Try.prog 18 #[.agg #[.slice ta tn tc, .slice na nn nc, .slice la ln lc, .int .i64 st, .slice pa n pc]] X (fun e w' => e = .returned (.bool rC) ∧ X.grownBy w' none)) := fun X hX => (rvc ta na la pa tc nc lc pc ts ns lv n L R ra rc V st w tn nn ln hlen hG hts hns X hX rV rC hV hC).2
  have HK : Hid ((rV || rC) = true → ∀ X, w.grownBy X none → Calls Try.prog 24 #[.agg #[.slice ta tn tc, .slice na nn nc, .slice la ln lc, .int .i64 st, .slice pa n pc]] X fun e w' => ∃ k, e = .returned (.slice (some ⟨k, 0, none⟩) nn nn) ∧ BRow X w' (some ⟨k, 0, none⟩) nn G ∧ X.grownBy w' none) := fun hok X hX => by
    have hm := (hM hok).may
    refine (rused_any ta na la pa tc nc lc pc ts ns lv n L R ra rc V st X tn nn ln hlen (hG.kept hX) cl hm (hcl hok)).mono ?_
    rintro e w' ⟨k, may, F', rfl, hk, hB, hF, hD, hg⟩
    rw [(hM hok).f_eq hF] at hD
    rw [(hM hok).g_eq hD] at hB
    exact ⟨k, rfl, .inr ⟨k, rfl, hk, hB⟩, hg⟩
  have HX0 : Hid (PhAt w (w.alloc (.cells #[.slice ta tn tc, .slice na nn nc, .slice la ln lc, .int .i64 st, .slice pa n pc] 27)) w.heap.size #[.slice ta tn tc, .slice na nn nc, .slice la ln lc, .int .i64 st, .slice pa n pc]) := ⟨World.grownBy_alloc _ _ none, heap_alloc_last w _⟩
  clear hlen hG hts hns hV hC hM hcl
  cases rV with
  | true =>
    go_enter Try.func12, Try.ntmps12
    go_wp2_with fail
    refine Calls.mono (HV.out _ HX0.out.grown) ?_
    rintro e w1 ⟨rfl, hg1⟩
    have HX1 : Hid (PhAt w w1 w.heap.size #[.slice ta tn tc, .slice na nn nc, .slice la ln lc, .int .i64 st, .slice pa n pc]) := HX0.out.kept hg1
    obtain ⟨m0, m1, m2, m3, m4⟩ := HX1.out.cells
    clear hg1 HX0
    go_wp2_with fail
    refine Calls.mono (HK.out rfl _ HX1.out.grown) ?_
    rintro e w2 ⟨k, rfl, hB, hg2⟩
    have HB : Hid (BRow w1 w2 (some ⟨k, 0, none⟩) nn G) := hB
    have HG2 : Hid (w.grownBy w2 none) := grown_trans HX1.out.grown hg2
    clear hB hg2
    go_wp2_with fail
    go_ret2
    refine ⟨some ⟨k, 0, none⟩, rfl, ?_, HG2.out⟩
    rcases HB.out with ⟨h, _⟩ | ⟨k', e, h1, h2⟩
    · cases h
    · exact .inr ⟨k', e, Nat.le_trans HX1.out.grown.size h1, h2⟩
  | false =>
    cases rC with
    | true =>
      go_enter Try.func12, Try.ntmps12
      go_wp2_with fail
      refine Calls.mono (HV.out _ HX0.out.grown) ?_
      rintro e w1 ⟨rfl, hg1⟩
      have HX1 : Hid (PhAt w w1 w.heap.size #[.slice ta tn tc, .slice na nn nc, .slice la ln lc, .int .i64 st, .slice pa n pc]) := HX0.out.kept hg1
      obtain ⟨m0, m1, m2, m3, m4⟩ := HX1.out.cells
      clear hg1 HX0
      go_wp2_with fail
      refine Calls.mono (HC.out _ HX1.out.grown) ?_
      rintro e w2 ⟨rfl, hg2⟩
      have HX2 : Hid (PhAt w w2 w.heap.size #[.slice ta tn tc, .slice na nn nc, .slice la ln lc, .int .i64 st, .slice pa n pc]) := HX1.out.kept hg2
      clear hg2 HX1 m0 m1 m2 m3 m4
      obtain ⟨m0, m1, m2, m3, m4⟩ := HX2.out.cells
      go_wp2_with fail
      refine Calls.mono (HK.out rfl _ HX2.out.grown) ?_
      rintro e w3 ⟨k, rfl, hB, hg3⟩
      have HB : Hid (BRow w2 w3 (some ⟨k, 0, none⟩) nn G) := hB
      have HG3 : Hid (w.grownBy w3 none) := grown_trans HX2.out.grown hg3
      clear hB hg3
      go_wp2_with fail
      go_ret2
      refine ⟨some ⟨k, 0, none⟩, rfl, ?_, HG3.out⟩
      rcases HB.out with ⟨h, _⟩ | ⟨k', e, h1, h2⟩
      · cases h
      · exact .inr ⟨k', e, Nat.le_trans HX2.out.grown.size h1, h2⟩
    | false =>
      go_enter Try.func12, Try.ntmps12
      go_wp2_with fail
      refine Calls.mono (HV.out _ HX0.out.grown) ?_
      rintro e w1 ⟨rfl, hg1⟩
      have HX1 : Hid (PhAt w w1 w.heap.size #[.slice ta tn tc, .slice na nn nc, .slice la ln lc, .int .i64 st, .slice pa n pc]) := HX0.out.kept hg1
      obtain ⟨m0, m1, m2, m3, m4⟩ := HX1.out.cells
      clear hg1 HX0
      go_wp2_with fail
      refine Calls.mono (HC.out _ HX1.out.grown) ?_
      rintro e w2 ⟨rfl, hg2⟩
      have HG2 : Hid (w.grownBy w2 none) := grown_trans HX1.out.grown hg2
      clear hg2
      go_wp2_with fail
      go_ret2
      exact ⟨none, rfl, .inl ⟨rfl, rfl⟩, HG2.out⟩
end

end Go.Proofs.Ytljlkmiaemkokaa

/-
  reach: the program's marks in the law's form; the law's bools.
-/
namespace Go.Proofs.Ytljlkmiaemkokaa
open Go.RowKit Go.Maps Go.Shelf

attribute [local go_sem] Oper.semAt_some

theorem closed_name {ts : List (ByteArray × Int)} {ns : List ByteArray} {lv : List Int} {st : Int} {n : Nat} {L : Nat → Int} {R : Nat → List Int} {V : Nat → Int} {rV rC : Bool} (hV : rV = true ↔ validOK ts ns lv st n L R V) (hC : rC = true ↔ closedOK ts ns lv st n L R V) (hok : (rV || rC) = true) : rC = true ↔ ns.getD 0 ⟨#[]⟩ = ⟨#[]⟩ := by
  constructor
  · exact fun h => (hC.1 h).1.name
  · intro h
    cases hc : rC with
    | true => rfl
    | false =>
      rw [hc, Bool.or_false] at hok
      exact absurd h (valid_name (hV.1 hok))
theorem may_of {ts : List (ByteArray × Int)} {ns : List ByteArray} {lv : List Int} {st : Int} {n : Nat} {L : Nat → Int} {R : Nat → List Int} {V : Nat → Int} {rV rC : Bool} {tn nn ln : Nat} (hlen : ts.length = tn ∧ ns.length = nn ∧ lv.length = ln) (hV : rV = true ↔ validOK ts ns lv st n L R V) (hC : rC = true ↔ closedOK ts ns lv st n L R V) (hok : (rV || rC) = true) : MayOK tn nn n st L R rC := by
  obtain ⟨rfl, rfl, rfl⟩ := hlen
  cases hc : rC with
  | true => exact mayOK_closed (hC.1 hc)
  | false => rw [hc, Bool.or_false] at hok; exact mayOK_valid (hV.1 hok)
/-- The marks of a grammar, if it may be. -/
theorem marks_of {ts : List (ByteArray × Int)} {ns : List ByteArray} {lv : List Int} {st : Int} {n : Nat} {L : Nat → Int} {R : Nat → List Int} {V : Nat → Int} {rV rC : Bool} {tn nn ln : Nat} (hlen : ts.length = tn ∧ ns.length = nn ∧ lv.length = ln) (hV : rV = true ↔ validOK ts ns lv st n L R V) (hC : rC = true ↔ closedOK ts ns lv st n L R V) : ∃ F G, (rV || rC) = true → MarksOf tn nn n st L R rC F G := by
  by_cases h : (rV || rC) = true
  · obtain ⟨F, G, hM⟩ := (may_of hlen hV hC h).marksOf
    exact ⟨F, G, fun _ => hM⟩
  · exact ⟨fun _ => false, fun _ => false, fun h' => absurd h' h⟩

section
variable (ta na la pa : Option Addr) (tc nc lc pc : Nat) (ts : List (ByteArray × Int)) (ns : List ByteArray) (lv : List Int) (n : Nat) (L : Nat → Int) (R : Nat → List Int) (ra : Nat → Option Addr) (rc : Nat → Nat) (V : Nat → Int) (st : Int) (w : World) (tn nn ln : Nat) (hlen : ts.length = tn ∧ ns.length = nn ∧ lv.length = ln) (hG : GAt w ta na la pa tc nc lc pc ts ns lv n L R ra rc V) (rV rC : Bool) (hV : rV = true ↔ validOK ts ns lv st n L R V) (hC : rC = true ↔ closedOK ts ns lv st n L R V) (F G : Nat → Bool) (hM : (rV || rC) = true → MarksOf tn nn n st L R rC F G)
include hlen hG hV hC hM

theorem productive_any :
    Calls Try.prog 9 #[.agg #[.slice ta tn tc, .slice na nn nc, .slice la ln lc, .int .i64 st, .slice pa n pc]] w fun e y => MTold (if (rV || rC) = true then 0 else 1) (if (rV || rC) = true then nn else 0) F w e y := by
  by_cases hok : (rV || rC) = true
  · rw [if_pos hok, if_pos hok]
    refine (productive_ok ta na la pa tc nc lc pc ts ns lv n L R ra rc V st w tn nn ln hlen hG rC hC (fun h => hV.1 (by rw [h, Bool.or_false] at hok; exact hok))).mono ?_
    rintro e y ⟨k, f, rfl, hk, hB, hF, hg⟩
    rw [(hM hok).f_eq hF] at hB
    exact ⟨some ⟨k, 0, none⟩, rfl, .inr ⟨k, rfl, hk, hB⟩, hg⟩
  · rw [if_neg hok, if_neg hok]
    rw [Bool.not_eq_true, Bool.or_eq_false_iff] at hok
    refine (productive_bad ta na la pa tc nc lc pc ts ns lv n L R ra rc V st w tn nn ln hlen hG (fun h => by rw [hV.2 h] at hok; cases hok.1) (fun h => by rw [hC.2 h] at hok; cases hok.2)).mono ?_
    rintro e y ⟨rfl, hg⟩
    exact ⟨none, rfl, .inl ⟨rfl, rfl⟩, hg⟩
theorem useful_any :
    Calls Try.prog 10 #[.agg #[.slice ta tn tc, .slice na nn nc, .slice la ln lc, .int .i64 st, .slice pa n pc]] w fun e y => MTold (if (rV || rC) = true then 0 else 1) (if (rV || rC) = true then nn else 0) G w e y := by
  by_cases hok : (rV || rC) = true
  · rw [if_pos hok, if_pos hok]
    refine (useful_ok ta na la pa tc nc lc pc ts ns lv n L R ra rc V st w tn nn ln hlen hG rC hC (fun h => hV.1 (by rw [h, Bool.or_false] at hok; exact hok))).mono ?_
    rintro e y ⟨k, u, f, rfl, hk, hB, hF, hD, hg⟩
    rw [(hM hok).f_eq hF] at hD
    exact ⟨some ⟨k, 0, none⟩, rfl, .inr ⟨k, rfl, hk, hB.ext fun i hi => (hM hok).u_eq hD i hi⟩, hg⟩
  · rw [if_neg hok, if_neg hok]
    rw [Bool.not_eq_true, Bool.or_eq_false_iff] at hok
    refine (useful_bad ta na la pa tc nc lc pc ts ns lv n L R ra rc V st w tn nn ln hlen hG (fun h => by rw [hV.2 h] at hok; cases hok.1) (fun h => by rw [hC.2 h] at hok; cases hok.2)).mono ?_
    rintro e y ⟨rfl, hg⟩
    exact ⟨none, rfl, .inl ⟨rfl, rfl⟩, hg⟩
end

/-- A row of marks, or none of them. -/
def BAt (w : World) (a : Option Addr) (m : Nat) (f : Nat → Bool) : Prop := m = 0 ∨ ∃ k, a = some ⟨k, 0, none⟩ ∧ BoolAt w k m f
theorem BRow.at {w y : World} {a : Option Addr} {m : Nat} {f : Nat → Bool} (h : BRow w y a m f) : BAt y a m f := by
  rcases h with ⟨_, h⟩ | ⟨k, e, _, h⟩
  · exact .inl h
  · exact .inr ⟨k, e, h⟩
theorem BAt.kept {w y : World} {a : Option Addr} {m : Nat} {f : Nat → Bool} (h : BAt w a m f) (hg : w.grownBy y none) : BAt y a m f := by
  rcases h with h | ⟨k, e, h⟩
  · exact .inl h
  · exact .inr ⟨k, e, h.kept hg⟩

set_option maxRecDepth 100000 in
set_option maxHeartbeats 1000000 in
theorem bools_same (a b : Option Addr) (m : Nat) (f : Nat → Bool) (w : World) (ha : BAt w a m f) (hb : BAt w b m f) (hm : m ≤ 1000) :
    Calls Try.prog 13 #[.slice a m m, .slice b m m] w fun e w' => e = .returned (.bool true) ∧ w.grownBy w' none := by
  have HA : Hid (BAt w a m f) := ha
  have HB : Hid (BAt w b m f) := hb
  clear ha hb
  go_enter Try.func13, Try.ntmps13
  go_wp2_with fail
  go_loopg [5] m (fun gk i wr => ∃ k : Nat, k ≤ m ∧ gk = m - k ∧ i = .int .i64 k ∧ w.grownBy wr none)
  case atStart => exact ⟨0, Nat.zero_le _, rfl, rfl, grown_refl _ _⟩
  case round =>
    obtain ⟨k, hk, hgk, rfl, hg⟩ := hrel
    have HGK : Hid (gk = m - k) := hgk
    have HG : Hid (w.grownBy wr none) := hg
    clear hgk hg
    by_cases hlt : k < m
    · obtain ⟨x, rfl, hx⟩ : ∃ x, a = some ⟨x, 0, none⟩ ∧ BoolAt w x m f := by
        rcases HA.out with h | h
        · omega
        · exact h
      obtain ⟨y, rfl, hy⟩ : ∃ y, b = some ⟨y, 0, none⟩ ∧ BoolAt w y m f := by
        rcases HB.out with h | h
        · omega
        · exact h
      have c0 := (hx.kept HG.out).cell k hlt
      have c1 := (hy.kept HG.out).cell k hlt
      obtain ⟨z, hz⟩ : ∃ z, z = f k := ⟨_, rfl⟩
      rw [← hz] at c0 c1
      have hk0 : (0 : Int) ≤ (k : Int) := by omega
      have hk1 : (k : Int) < (m : Int) := by omega
      have hkd : decide (k < m) = true := decide_eq_true hlt
      clear hx hy hz
      go_wp2_with fail
      go_region_held3 (fun u => u.cell? ⟨x, k, none⟩ = some (.bool z) ∧ u.cell? ⟨y, k, none⟩ = some (.bool z)) (exact ⟨c0, c1⟩) (fail)
      go_wp2_with fail
      go_roundg (m - (k + 1))
      case measure => have := HGK.out; omega
      case rel => exact ⟨k + 1, by omega, rfl, by go_num, grown_trans HG.out (grown_drewN _ 1)⟩
    · have hkn : m = k := by omega
      subst hkn
      go_wp2_with fail
      go_ret
      exact ⟨rfl, HG.out⟩

end Go.Proofs.Ytljlkmiaemkokaa
