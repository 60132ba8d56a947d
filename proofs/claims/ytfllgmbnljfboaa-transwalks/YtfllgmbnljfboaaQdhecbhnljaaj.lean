import Derived.Test.YtfllgmbnljfboaaRows
import Derived.Test.YtfllgmbnljfboaaQhjicjclenhbh
import Derived.Test.YtfllgmbnljfboaaQnpmfgjpklmba
import Derived.Test.YtfllgmbnljfboaaQacmenffecndm

/-
  trans: what the laws' theorems share.
-/
namespace Go.Proofs.Ytfllgmbnljfboaa.J
open Go.ChangeShapes Go.WideShapes Go.ChangeAt Go.RowKit Go.Deep

theorem own : ownKnob Try.prog.godebug = none := by kernel_rfl
theorem laidOut : laidOutB Try.prog = true := by kernel_rfl

end Go.Proofs.Ytfllgmbnljfboaa.J

/-
  trans: the law TransWalks, walked.
-/
namespace Go.Proofs.Ytfllgmbnljfboaa.J
open Go.RowKit Go.Maps Go.Shelf

attribute [local go_sem] Oper.semAt_some

section
variable (ta na la pa : Option Addr) (tc nc lc pc : Nat) (n : Nat) (st : Int) (w : World) (tn nn ln : Nat)
set_option maxRecDepth 100000 in
theorem walks_any (z : Int) (ra : Option Addr) (rc : Nat) (row : List Int) (hr : IntsAt w ra row) (hrb : row.length ≤ 17592186044416) (vv ev0 : Int)
    (hW : ∀ X a' c', w.grownBy X none → IntsAt X a' row → Calls Try.prog 10 #[.agg #[.slice ta tn tc, .slice na nn nc, .slice la ln lc, .int .i64 st, .slice pa n pc], .int .i64 z, .slice a' row.length c'] X fun e y => e = .returned (.tuple #[.int .i64 vv, .int .i64 ev0]) ∧ X.grownBy y none)
    (hD : ∀ X, w.grownBy X none → Calls Try.prog 11 #[.agg #[.slice ta tn tc, .slice na nn nc, .slice la ln lc, .int .i64 st, .slice pa n pc], .int .i64 z, .slice ra row.length rc] X fun e y => e = .returned (.tuple #[.int .i64 vv, .int .i64 ev0]) ∧ X.grownBy y none) :
    Calls Try.prog 3 #[.agg #[.slice ta tn tc, .slice na nn nc, .slice la ln lc, .int .i64 st, .slice pa n pc], .int .i64 z, .slice ra row.length rc] w fun e w' => e = .returned (.bool true) ∧ w.grownBy w' none := by
  have HW := show Hid _ from hW
  have HD := show Hid _ from hD
  have HL : Hid (∀ X, w.grownBy X none → Calls Try.prog 9 #[.slice ra row.length rc] X fun e y => e = .returned (.tuple #[.slice (some ⟨X.heap.size, 0, none⟩) row.length (row.length + 8), .slice (some ⟨X.heap.size, 0, none⟩) (row.length + 8) (row.length + 8)]) ∧ LentAt y X.heap.size row 8 ∧ X.grownBy y none) := fun X hX => by
    refine (Go.Proofs.Ytfllgmbnljfboaa.lent_any ra rc row X (hr.kept hX) hrb).mono ?_
    rintro e y ⟨rfl, h1, h2⟩
    exact ⟨rfl, h1, h2.os, h2.tape, h2.output, h2.size, fun k hk _ => h2.block k hk⟩
  have HH : Hid (∀ X g, w.grownBy X none → LentAt X g row 8 → Calls Try.prog 12 #[.slice (some ⟨g, 0, none⟩) (row.length + 8) (row.length + 8), .slice ra row.length rc] X fun e y => e = .returned (.bool true) ∧ X.grownBy y none) := fun X g hX hg => by
    refine (Go.Proofs.Ytfllgmbnljfboaa.whole_any g (row.length + 8) ra rc row X hg (hr.kept hX) hrb).mono ?_
    rintro e y ⟨rfl, k, rfl⟩
    exact ⟨rfl, grown_drewN _ _⟩
  obtain ⟨m, hm⟩ : ∃ m, m = row.length := ⟨_, rfl⟩
  rw [← hm] at HW HD HL HH
  rw [← hm]
  have HX0 : Hid (PhAt w (w.alloc (.cells #[.slice ta tn tc, .slice na nn nc, .slice la ln lc, .int .i64 st, .slice pa n pc] 27)) w.heap.size #[.slice ta tn tc, .slice na nn nc, .slice la ln lc, .int .i64 st, .slice pa n pc]) := ⟨World.grownBy_alloc _ _ none, heap_alloc_last w _⟩
  have hee : (ev0 == ev0) = true := beq_self_eq_true _
  have hvv : (vv == vv) = true := beq_self_eq_true _
  clear hW hD hr hrb hm
  go_enter Try.func3, Try.ntmps3
  go_wp2_with fail
  refine Calls.mono (awake_any _) ?_
  rintro e w1 ⟨rfl, hg1⟩
  have HX1 : Hid (PhAt w w1 w.heap.size #[.slice ta tn tc, .slice na nn nc, .slice la ln lc, .int .i64 st, .slice pa n pc]) := HX0.out.kept hg1
  clear hg1 HX0
  go_wp2_with fail
  refine Calls.mono (HL.out _ HX1.out.grown) ?_
  rintro e w2 ⟨rfl, hl2, hg2⟩
  obtain ⟨g, hgE⟩ : ∃ g, g = w1.heap.size := ⟨_, rfl⟩
  rw [← hgE] at hl2
  rw [← hgE]
  have HX2 : Hid (PhAt w w2 w.heap.size #[.slice ta tn tc, .slice na nn nc, .slice la ln lc, .int .i64 st, .slice pa n pc]) := HX1.out.kept hg2
  have HL2 : Hid (LentAt w2 g row 8) := hl2
  clear hg2 hl2 hgE HX1
  obtain ⟨k0, k1, k2, k3, k4⟩ := HX2.out.cells
  go_wp2_with fail
  refine Calls.mono (HW.out _ (some ⟨g, 0, none⟩) (m + 8) HX2.out.grown HL2.out.ints) ?_
  rintro e w3 ⟨rfl, hg3⟩
  have HX3 : Hid (PhAt w w3 w.heap.size #[.slice ta tn tc, .slice na nn nc, .slice la ln lc, .int .i64 st, .slice pa n pc]) := HX2.out.kept hg3
  have HL3 : Hid (LentAt w3 g row 8) := box_kept HL2.out hg3
  clear hg3 HX2 HL2 k0 k1 k2 k3 k4
  obtain ⟨k0, k1, k2, k3, k4⟩ := HX3.out.cells
  go_wp2_with fail
  refine Calls.mono (HD.out _ HX3.out.grown) ?_
  rintro e w4 ⟨rfl, hg4⟩
  have HX4 : Hid (PhAt w w4 w.heap.size #[.slice ta tn tc, .slice na nn nc, .slice la ln lc, .int .i64 st, .slice pa n pc]) := HX3.out.kept hg4
  have HL4 : Hid (LentAt w4 g row 8) := box_kept HL3.out hg4
  clear hg4 HX3 HL3 k0 k1 k2 k3 k4
  go_wp2_with fail
  refine Calls.mono (HH.out _ g HX4.out.grown HL4.out) ?_
  rintro e w5 ⟨rfl, hg5⟩
  have HG5 : Hid (w.grownBy w5 none) := grown_trans HX4.out.grown hg5
  clear hg5 HX4 HL4
  go_wp2_with fail
  go_ret
  exact ⟨rfl, HG5.out⟩
end

theorem rbuild_some (ta na la pa : Option Addr) (tc nc lc pc : Nat) (ts : List (ByteArray × Int)) (ns : List ByteArray) (lv : List Int) (n : Nat) (L : Nat → Int) (R : Nat → List Int) (ra : Nat → Option Addr) (rc : Nat → Nat) (V : Nat → Int) (st : Int) (w : World) (tn nn ln : Nat) (hlen : ts.length = tn ∧ ns.length = nn ∧ lv.length = ln) (hG : GAt w ta na la pa tc nc lc pc ts ns lv n L R ra rc V) (hts : ∀ t ∈ ts, t.1.size ≤ 140737488355328) (hns : ∀ s ∈ ns, s.size ≤ 140737488355328) (hc : closedOK ts ns lv st n L R V) {ks : List (List It)} {es : List (List (Nat × Nat))} (h : autoF (GG tn n L R) (tn + nn) 256 = some (ks, es)) (X : World) (hX : w.grownBy X none) : Calls Try.prog 23 #[.agg #[.slice ta tn tc, .slice na nn nc, .slice la ln lc, .int .i64 st, .slice pa n pc]] X fun e y => ∃ sa sc kv ev, e = .returned (.tuple #[.agg #[.slice sa ks.length sc, .int .i64 (askN es : Int), .int .i64 (ks.length : Int)], .int .i64 0]) ∧ AutP X.heap.size y (.slice sa ks.length sc) ks (elF es) kv ev ∧ X.grownBy y none := by
  refine (rbuildOk ta na la pa tc nc lc pc ts ns lv n L R ra rc V st X tn nn ln hlen (hG.kept hX) hts hns hc).mono ?_
  rintro e y (⟨ks', es', sa, sc, kv, ev, hau, rfl, hA, hg⟩ | ⟨hau, _⟩)
  · have h2 := h.symm.trans hau
    simp only [Option.some.injEq, Prod.mk.injEq] at h2
    obtain ⟨rfl, rfl⟩ := h2
    exact ⟨sa, sc, kv, ev, rfl, hA, hg⟩
  · have h2 := h.symm.trans hau
    cases h2
theorem rbuild_none (ta na la pa : Option Addr) (tc nc lc pc : Nat) (ts : List (ByteArray × Int)) (ns : List ByteArray) (lv : List Int) (n : Nat) (L : Nat → Int) (R : Nat → List Int) (ra : Nat → Option Addr) (rc : Nat → Nat) (V : Nat → Int) (st : Int) (w : World) (tn nn ln : Nat) (hlen : ts.length = tn ∧ ns.length = nn ∧ lv.length = ln) (hG : GAt w ta na la pa tc nc lc pc ts ns lv n L R ra rc V) (hts : ∀ t ∈ ts, t.1.size ≤ 140737488355328) (hns : ∀ s ∈ ns, s.size ≤ 140737488355328) (hc : closedOK ts ns lv st n L R V) (h : autoF (GG tn n L R) (tn + nn) 256 = none) (X : World) (hX : w.grownBy X none) : Calls Try.prog 23 #[.agg #[.slice ta tn tc, .slice na nn nc, .slice la ln lc, .int .i64 st, .slice pa n pc]] X fun e y => e = .returned (.tuple #[.agg #[.slice none 0 0, .int .i64 0, .int .i64 0], .int .i64 11]) ∧ X.grownBy y none := by
  refine (rbuildOk ta na la pa tc nc lc pc ts ns lv n L R ra rc V st X tn nn ln hlen (hG.kept hX) hts hns hc).mono ?_
  rintro e y (⟨ks', es', sa, sc, kv, ev, hau, rfl, hA, hg⟩ | ⟨hau, rfl, hg⟩)
  · have h2 := h.symm.trans hau
    cases h2
  · exact ⟨rfl, hg⟩

theorem walks_core (ta na la pa : Option Addr) (tc nc lc pc : Nat) (ts : List (ByteArray × Int)) (ns : List ByteArray) (lv : List Int) (n : Nat) (L : Nat → Int) (R : Nat → List Int) (ra : Nat → Option Addr) (rc : Nat → Nat) (V : Nat → Int) (st : Int) (w : World) (tn nn ln : Nat) (hlen : ts.length = tn ∧ ns.length = nn ∧ lv.length = ln) (hG : GAt w ta na la pa tc nc lc pc ts ns lv n L R ra rc V) (hts : ∀ t ∈ ts, t.1.size ≤ 140737488355328) (hns : ∀ s ∈ ns, s.size ≤ 140737488355328) (z : Int) (sa : Option Addr) (cap : Nat) (row : List Int) (hr : IntsAt w sa row) (hrb : row.length ≤ 17592186044416) : Calls Try.prog 3 #[.agg #[.slice ta tn tc, .slice na nn nc, .slice la ln lc, .int .i64 st, .slice pa n pc], .int .i64 z, .slice sa row.length cap] w fun e w' => e = .returned (.bool true) ∧ w.grownBy w' none := by
  by_cases hc : closedOK ts ns lv st n L R V
  · have hM : MayOK tn nn n st L R true := by obtain ⟨rfl, rfl, rfl⟩ := hlen; exact mayOK_closed hc
    cases hau : autoF (GG tn n L R) (tn + nn) 256 with
    | none =>
      have hO := ofBad11 ta na la pa tc nc lc pc ts ns lv n L R ra rc V st w tn nn ln hlen hG hc hau
      exact walks_any ta na la pa tc nc lc pc n st w tn nn ln z sa cap row hr hrb 0 11 (fun X a' c' hX _ => walkX_bad ta na la pa tc nc lc pc n st X tn nn ln 11 (.inr rfl) (fun Y hY => hO Y (grown_trans hX hY)) z a' row.length c') (fun X hX => rwalk_bad ta na la pa tc nc lc pc n st X tn nn ln 11 (.inr rfl) z sa row.length cap (fun Y hY => rbuild_none ta na la pa tc nc lc pc ts ns lv n L R ra rc V st w tn nn ln hlen hG hts hns hc hau Y (grown_trans hX hY)))
    | some p =>
      obtain ⟨ks, es⟩ := p
      obtain ⟨hO, hE⟩ := ofOk ta na la pa tc nc lc pc ts ns lv n L R ra rc V st w tn nn ln hlen hG hc hau
      have hB := fun X (hX : w.grownBy X none) Y (hY : X.grownBy Y none) => rbuild_some ta na la pa tc nc lc pc ts ns lv n L R ra rc V st w tn nn ln hlen hG hts hns hc hau Y (grown_trans hX hY)
      by_cases hbad : z < 0 ∨ (ks.length : Int) ≤ z ∨ ∃ x ∈ row, noB (tn + nn) x = true
      · refine walks_any ta na la pa tc nc lc pc n st w tn nn ln z sa cap row hr hrb 0 1 (fun X a' c' hX hI => walkX_arg ta na la pa tc nc lc pc n st X tn nn ln ks es hM.tmax hM.nmax (fun Y hY => hO Y (grown_trans hX hY)) z a' c' row hI (by omega) hbad) (fun X hX => rwalk_any ta na la pa tc nc lc pc n st X tn nn ln ks.length (askN es : Int) hM.tmax hM.nmax ks es rfl hE z sa cap row (hr.kept hX) (by omega) (hB X hX) 0 1 (fun _ => ⟨rfl, rfl⟩) (fun q e1 e2 e3 => ?_))
        exfalso
        rcases hbad with h | h | ⟨x, hx, h⟩
        · omega
        · omega
        · rw [e3 x hx] at h; cases h
      · have h1 : ¬ z < 0 := fun h => hbad (.inl h)
        have h2 : ¬ (ks.length : Int) ≤ z := fun h => hbad (.inr (.inl h))
        have h3 : ∀ x ∈ row, noB (tn + nn) x = false := fun x hx => Bool.eq_false_iff.2 fun h => hbad (.inr (.inr ⟨x, hx, h⟩))
        obtain ⟨q, rfl⟩ : ∃ q : Nat, z = (q : Int) := ⟨z.toNat, by omega⟩
        exact walks_any ta na la pa tc nc lc pc n st w tn nn ln (q : Int) sa cap row hr hrb (wayV (wayF es (some (q : Int)) row)) 0 (fun X a' c' hX hI => walkX_ok ta na la pa tc nc lc pc n st X tn nn ln ks es hM.tmax hM.nmax hE.le hE.ok (fun Y hY => hO Y (grown_trans hX hY)) q (by omega) a' c' row hI (by omega) h3) (fun X hX => rwalk_any ta na la pa tc nc lc pc n st X tn nn ln ks.length (askN es : Int) hM.tmax hM.nmax ks es rfl hE (q : Int) sa cap row (hr.kept hX) (by omega) (hB X hX) _ 0 (fun h => absurd h hbad) (fun q' e1 e2 e3 => by
          obtain rfl : q = q' := by omega
          exact ⟨rfl, rfl⟩))
  · have hO := ofBad1 ta na la pa tc nc lc pc ts ns lv n L R ra rc V st w tn nn ln hlen hG hc
    exact walks_any ta na la pa tc nc lc pc n st w tn nn ln z sa cap row hr hrb 0 1 (fun X a' c' hX _ => walkX_bad ta na la pa tc nc lc pc n st X tn nn ln 1 (.inl rfl) (fun Y hY => hO Y (grown_trans hX hY)) z a' row.length c') (fun X hX => rwalk_bad ta na la pa tc nc lc pc n st X tn nn ln 1 (.inl rfl) z sa row.length cap (fun Y hY => rbuildBad ta na la pa tc nc lc pc ts ns lv n L R ra rc V st Y tn nn ln hlen (hG.kept (grown_trans hX hY)) hts hns hc))

end Go.Proofs.Ytfllgmbnljfboaa.J

/-
  trans: numbers and rows of numbers among the arguments.
-/
namespace Go.Proofs.Ytfllgmbnljfboaa.J
open Go.ChangeShapes Go.WideShapes Go.ChangeAt Go.RowKit Go.Deep

set_option maxRecDepth 100000 in
theorem open_int {H : Type} {enc : TypeId × Value → H} {W : World} {base : Nat} {v : Value} {d : DataW H} {p : List MemPlace} (hv : Value.okWide Try.prog W .any base 3 v) (h : DataW.Trod enc Try.prog W 0 (fun _ => true) true 3 v d p) : ∃ z, v = .int .i64 z := by
  obtain ⟨z, rfl⟩ := okWide_int Try.underlying3 hv
  exact ⟨z, rfl⟩
theorem cellsIntT : Try.prog.cellsOf 3 = 1 := by kernel_rfl
theorem bytesIntT : Try.prog.bytesOf 3 = 8 := by kernel_rfl
set_option maxRecDepth 100000 in
/-- A row of numbers among the arguments, opened. -/
theorem open_rowT {H : Type} {enc : TypeId × Value → H} {W : World} {base : Nat} {ts : List TypeId} {ds : List (DataW H)} {j : Nat} {v : Value} {d : DataW H} {p : List MemPlace}
    (hsz : (DataW.weightsEach Try.prog ts ds).all (· ≤ reachBytes) = true) (ht : ts[j]? = some 24) (hd : ds[j]? = some d) (hv : Value.okWide Try.prog W .any base 24 v) (h : DataW.Trod enc Try.prog W 0 (fun _ => true) true 24 v d p) :
    ∃ (a : Option Addr) (l : List Int) (cap : Nat), v = .slice a l.length cap ∧ IntsAt W a l ∧ (a = none → l.length = 0 ∧ cap = 0) ∧ l.length ≤ 17592186044416 := by
  obtain ⟨a, len, cap, rfl⟩ := okWide_slice Try.underlying24 hv
  obtain ⟨fuel, hf⟩ := h
  rcases open_ints Try.underlying24 Try.underlying3 cellsIntT hf with ⟨hcs, _⟩ | ⟨x, l, c, zs, hcs, _, hl, hm, hz, hx, hcell, hwz⟩
  · simp [Value.cells] at hcs
    obtain ⟨rfl, rfl, rfl⟩ := hcs
    exact ⟨none, [], 0, rfl, .inl rfl, fun _ => ⟨rfl, rfl⟩, by decide⟩
  · simp [Value.cells] at hcs
    obtain ⟨rfl, rfl, rfl⟩ := hcs
    have hz' : zs.length = cap := by simpa using hz
    have hlt : (zs.take len).length = len := by simp; omega
    refine ⟨some x, zs.take len, cap, by rw [hlt], ints_of_open hl hz' hcell, fun h => (by cases h), ?_⟩
    simp only [Prod.mk.injEq] at hx
    obtain ⟨rfl, _⟩ := hx
    have := sized_slice hsz ht hd Try.underlying24
    rw [bytesIntT] at this
    simp only [lits, List.length_map, List.length_take, List.length_drop, reachBytes] at this
    rw [hlt]
    omega

end Go.Proofs.Ytfllgmbnljfboaa.J
