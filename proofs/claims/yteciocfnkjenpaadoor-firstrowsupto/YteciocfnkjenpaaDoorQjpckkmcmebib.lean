import Derived.Test.YteciocfnkjenpaaDoorQhbihhlfbpfgm
import Derived.Test.YteciocfnkjenpaaDoorQmieinnblneeh
import Derived.Deep.DeepHandedRow

/-
  FirstRows, walked: of any grammar and any two rows.
-/
namespace Go.Proofs.YteciocfnkjenpaaDoor
open Go.RowKit Go.Maps Go.Shelf

theorem row_mask {tn : Nat} (ht : tn ≤ 65) (n : Nat) (L : Nat → Int) (R : Nat → List Int) (l : List Int) : ∃ (b : Bool) (q : Nat), q < 2 ^ 65 ∧ (b = true ↔ RowN n L R l) ∧ ∀ t : Nat, q.testBit t = true ↔ RowB tn n L R l (t : Int) := by
  obtain ⟨b, hb⟩ := boolOf (RowN n L R l)
  obtain ⟨m, hm, h⟩ := exists_mask (fun t => RowB tn n L R l (t : Int)) 65
  refine ⟨b, m, hm, hb, fun t => (h t).trans ⟨fun h => h.2, fun h => ⟨?_, h⟩⟩⟩
  have := h.bound; omega

section
variable (ta na la pa : Option Addr) (tc nc lc pc : Nat) (ts : List (ByteArray × Int)) (ns : List ByteArray) (lv : List Int) (n : Nat) (L : Nat → Int) (R : Nat → List Int) (ra : Nat → Option Addr) (rc : Nat → Nat) (V : Nat → Int) (st : Int) (w : World) (tn nn ln : Nat) (hlen : ts.length = tn ∧ ns.length = nn ∧ lv.length = ln) (hG : GAt w ta na la pa tc nc lc pc ts ns lv n L R ra rc V) (hT : B.Tab w) (h0 : 0 < w.heap.size)
include hlen hG hT h0

omit hT h0 in
theorem row_is0 (a : Option Addr) (len c : Nat) (hv : ¬ validOK ts ns lv st n L R V) (hc : ¬ closedOK ts ns lv st n L R V) : ∀ X, w.grownBy X none → Calls Tryd.prog 17 #[.agg #[.slice ta tn tc, .slice na nn nc, .slice la ln lc, .int .i64 st, .slice pa n pc], .slice a len c] X fun e y => RowIs [] false 1 X e y := fun X hX =>
  (row_bad1 ta na la pa tc nc lc pc ts ns lv n L R ra rc V st X tn nn ln hlen (hG.kept hX) a len c hv hc).mono fun _ _ ⟨he, hg⟩ => ⟨none, 0, he, .inl rfl, hg⟩

omit hT h0 in
theorem row_is1 (a : Option Addr) (c : Nat) (l : List Int) (hl : ∀ X, w.grownBy X none → IntsAt X a l) (hn : l.length ≤ 17592186044416) (h : validOK ts ns lv st n L R V ∨ closedOK ts ns lv st n L R V) {cl : Bool} (hM : MayOK tn nn n st L R cl) (hx : ∃ x ∈ l, symB (tn + nn) x = false) : ∀ X, w.grownBy X none → Calls Tryd.prog 17 #[.agg #[.slice ta tn tc, .slice na nn nc, .slice la ln lc, .int .i64 st, .slice pa n pc], .slice a l.length c] X fun e y => RowIs [] false 1 X e y := fun X hX =>
  (row_bad2 ta na la pa tc nc lc pc ts ns lv n L R ra rc V st X tn nn ln hlen (hG.kept hX) a c l (hl X hX) hn h hM hx).mono fun _ _ ⟨he, hg⟩ => ⟨none, 0, he, .inl rfl, hg⟩

theorem row_is2 (a : Option Addr) (c : Nat) (l : List Int) (X : World) (hX : w.grownBy X none) (hl : IntsAt X a l) (hn : l.length ≤ 17592186044416) (h : validOK ts ns lv st n L R V ∨ closedOK ts ns lv st n L R V) {cl : Bool} (hM : MayOK tn nn n st L R cl) (hx : ¬ ∃ x ∈ l, symB (tn + nn) x = false) (b : Bool) (q : Nat) (hb : b = true ↔ RowN n L R l) (hq : ∀ t : Nat, q.testBit t = true ↔ RowB tn n L R l (t : Int)) : Calls Tryd.prog 17 #[.agg #[.slice ta tn tc, .slice na nn nc, .slice la ln lc, .int .i64 st, .slice pa n pc], .slice a l.length c] X fun e y => RowIs (B.mems 1024 q) b 0 X e y := by
  refine (row_ok ta na la pa tc nc lc pc ts ns lv n L R ra rc V st X tn nn ln hlen (hG.kept hX) a c l hl hn h hM (fun x hxl => ?_) (Tab_kept hT hX h0) (Nat.lt_of_lt_of_le h0 hX.size) b q hb hq).mono ?_
  · cases hs : symB (tn + nn) x with
    | false => exact absurd ⟨x, hxl, hs⟩ hx
    | true =>
      unfold symB at hs
      simp at hs
      omega
  · rintro e y ⟨a', c', rfl, ho, hg⟩
    exact ⟨a', c', rfl, (RowIn.of ho (Nat.zero_le _)).ints, hg⟩

theorem rows_core (a1 a2 : Option Addr) (c1 c2 : Nat) (l1 l2 : List Int) (hi1 : IntsAt w a1 l1) (hi2 : IntsAt w a2 l2) (hn1 : a1 = none → l1.length = 0 ∧ c1 = 0) (hn2 : a2 = none → l2.length = 0 ∧ c2 = 0) (hs : l1.length + l2.length ≤ 17592186044416) :
    Calls Tryd.prog 4 #[.agg #[.slice ta tn tc, .slice na nn nc, .slice la ln lc, .int .i64 st, .slice pa n pc], .slice a1 l1.length c1, .slice a2 l2.length c2] w fun e y => e = .returned (.bool true) ∧ w.grownBy y none := by
  have HAW : Hid (∀ X, w.grownBy X none → Calls Tryd.prog 8 #[] X fun e w' => e = .returned (.bool true) ∧ X.grownBy w' none) := fun X hX => kawake_any X (Tab_kept hT hX h0) (Nat.lt_of_lt_of_le h0 hX.size)
  by_cases hok : validOK ts ns lv st n L R V ∨ closedOK ts ns lv st n L R V
  · obtain ⟨cl, hM⟩ : ∃ cl, MayOK tn nn n st L R cl := by
      obtain ⟨e1, e2, e3⟩ := hlen
      rcases hok with h | h
      · exact ⟨false, by rw [← e1, ← e2]; exact mayOK_valid h⟩
      · exact ⟨true, by rw [← e1, ← e2]; exact mayOK_closed h⟩
    have hls : (l1 ++ l2).length ≤ 17592186044416 := by rw [List.length_append]; exact hs
    by_cases hx1 : ∃ x ∈ l1, symB (tn + nn) x = false
    · have hx3 : ∃ x ∈ l1 ++ l2, symB (tn + nn) x = false := by obtain ⟨x, h1, h2⟩ := hx1; exact ⟨x, by simp [h1], h2⟩
      have hr1 := row_is1 ta na la pa tc nc lc pc ts ns lv n L R ra rc V st w tn nn ln hlen hG a1 c1 l1 (fun X hX => hi1.kept hX) (by omega) hok hM hx1
      have hr3 : ∀ X a c, w.grownBy X none → IntsAt X a (l1 ++ l2) → Calls Tryd.prog 17 #[.agg #[.slice ta tn tc, .slice na nn nc, .slice la ln lc, .int .i64 st, .slice pa n pc], .slice a (l1 ++ l2).length c] X fun e y => RowIs [] false 1 X e y := fun X a c hX hl => (row_is1 ta na la pa tc nc lc pc ts ns lv n L R ra rc V st X tn nn ln hlen (hG.kept hX) a c (l1 ++ l2) (fun Y hY => hl.kept hY) hls hok hM hx3) X (grown_refl _ _)
      by_cases hx2 : ∃ x ∈ l2, symB (tn + nn) x = false
      · exact rows_bad1 ta na la pa a1 a2 tn nn ln n tc nc lc pc c1 c2 st l1 l2 w [] [] [] false false 1 hi1 hi2 hn1 hn2 hs HAW hr1 (row_is1 ta na la pa tc nc lc pc ts ns lv n L R ra rc V st w tn nn ln hlen hG a2 c2 l2 (fun X hX => hi2.kept hX) (by omega) hok hM hx2) hr3 rfl
      · obtain ⟨b2, q2, _, hb2, hq2⟩ := row_mask hM.tmax n L R l2
        exact rows_bad1 ta na la pa a1 a2 tn nn ln n tc nc lc pc c1 c2 st l1 l2 w [] _ [] false b2 0 hi1 hi2 hn1 hn2 hs HAW hr1 (fun X hX => row_is2 ta na la pa tc nc lc pc ts ns lv n L R ra rc V st w tn nn ln hlen hG hT h0 a2 c2 l2 X hX (hi2.kept hX) (by omega) hok hM hx2 b2 q2 hb2 hq2) hr3 rfl
    · obtain ⟨b1, q1, hl1, hb1, hq1⟩ := row_mask hM.tmax n L R l1
      have hr1 : ∀ X, w.grownBy X none → Calls Tryd.prog 17 #[.agg #[.slice ta tn tc, .slice na nn nc, .slice la ln lc, .int .i64 st, .slice pa n pc], .slice a1 l1.length c1] X fun e y => RowIs (B.mems 1024 q1) b1 0 X e y := fun X hX => row_is2 ta na la pa tc nc lc pc ts ns lv n L R ra rc V st w tn nn ln hlen hG hT h0 a1 c1 l1 X hX (hi1.kept hX) (by omega) hok hM hx1 b1 q1 hb1 hq1
      by_cases hx2 : ∃ x ∈ l2, symB (tn + nn) x = false
      · have hx3 : ∃ x ∈ l1 ++ l2, symB (tn + nn) x = false := by obtain ⟨x, h1, h2⟩ := hx2; exact ⟨x, by simp [h1], h2⟩
        have hr3 : ∀ X a c, w.grownBy X none → IntsAt X a (l1 ++ l2) → Calls Tryd.prog 17 #[.agg #[.slice ta tn tc, .slice na nn nc, .slice la ln lc, .int .i64 st, .slice pa n pc], .slice a (l1 ++ l2).length c] X fun e y => RowIs [] false 1 X e y := fun X a c hX hl => (row_is1 ta na la pa tc nc lc pc ts ns lv n L R ra rc V st X tn nn ln hlen (hG.kept hX) a c (l1 ++ l2) (fun Y hY => hl.kept hY) hls hok hM hx3) X (grown_refl _ _)
        exact rows_bad2 ta na la pa a1 a2 tn nn ln n tc nc lc pc c1 c2 st l1 l2 w _ [] [] b1 false hi1 hi2 hn1 hn2 hs HAW hr1 (row_is1 ta na la pa tc nc lc pc ts ns lv n L R ra rc V st w tn nn ln hlen hG a2 c2 l2 (fun X hX => hi2.kept hX) (by omega) hok hM hx2) hr3 rfl
      · obtain ⟨b2, q2, hl2, hb2, hq2⟩ := row_mask hM.tmax n L R l2
        have hr2 : ∀ X, w.grownBy X none → Calls Tryd.prog 17 #[.agg #[.slice ta tn tc, .slice na nn nc, .slice la ln lc, .int .i64 st, .slice pa n pc], .slice a2 l2.length c2] X fun e y => RowIs (B.mems 1024 q2) b2 0 X e y := fun X hX => row_is2 ta na la pa tc nc lc pc ts ns lv n L R ra rc V st w tn nn ln hlen hG hT h0 a2 c2 l2 X hX (hi2.kept hX) (by omega) hok hM hx2 b2 q2 hb2 hq2
        have hx3 : ¬ ∃ x ∈ l1 ++ l2, symB (tn + nn) x = false := by
          rintro ⟨x, h1, h2⟩
          rcases List.mem_append.1 h1 with h1 | h1
          · exact hx1 ⟨x, h1, h2⟩
          · exact hx2 ⟨x, h1, h2⟩
        cases b1 with
        | false =>
          have hno : ¬ RowN n L R l1 := fun h => by have := hb1.2 h; cases this
          have hr3 : ∀ X a c, w.grownBy X none → IntsAt X a (l1 ++ l2) → Calls Tryd.prog 17 #[.agg #[.slice ta tn tc, .slice na nn nc, .slice la ln lc, .int .i64 st, .slice pa n pc], .slice a (l1 ++ l2).length c] X fun e y => RowIs (B.mems 1024 q1) false 0 X e y := fun X a c hX hl => row_is2 ta na la pa tc nc lc pc ts ns lv n L R ra rc V st w tn nn ln hlen hG hT h0 a c (l1 ++ l2) X hX hl hls hok hM hx3 false q1 ⟨fun h => (by cases h), fun h => absurd ((rowN_append l1 l2).1 h).1 hno⟩ (fun t => (hq1 t).trans ⟨fun h => (rowB_append l1 l2 _).2 (.inl h), fun h => by
            rcases (rowB_append l1 l2 _).1 h with h | ⟨h, _⟩
            · exact h
            · exact absurd h hno⟩)
          exact rows_okf ta na la pa a1 a2 tn nn ln n tc nc lc pc c1 c2 st l1 l2 w _ _ _ b2 hi1 hi2 hn1 hn2 hs HAW hr1 hr2 hr3 (by
            show _ = _
            have := both_mems hl1 (show (0 : Nat) < 2 ^ 65 from Nat.two_pow_pos 65)
            rw [mems_zero, Nat.or_zero] at this
            exact this.symm) (mems_short _) (mems_short _)
        | true =>
          have hyes : RowN n L R l1 := hb1.1 rfl
          have hr3 : ∀ X a c, w.grownBy X none → IntsAt X a (l1 ++ l2) → Calls Tryd.prog 17 #[.agg #[.slice ta tn tc, .slice na nn nc, .slice la ln lc, .int .i64 st, .slice pa n pc], .slice a (l1 ++ l2).length c] X fun e y => RowIs (B.mems 1024 (q1 ||| q2)) b2 0 X e y := fun X a c hX hl => row_is2 ta na la pa tc nc lc pc ts ns lv n L R ra rc V st w tn nn ln hlen hG hT h0 a c (l1 ++ l2) X hX hl hls hok hM hx3 b2 (q1 ||| q2) (hb2.trans ⟨fun h => (rowN_append l1 l2).2 ⟨hyes, h⟩, fun h => ((rowN_append l1 l2).1 h).2⟩) (fun t => by
            rw [Nat.testBit_or, Bool.or_eq_true, hq1, hq2, rowB_append]
            exact ⟨fun h => h.imp id (fun h => ⟨hyes, h⟩), fun h => h.imp id (fun h => h.2)⟩)
          exact rows_okt ta na la pa a1 a2 tn nn ln n tc nc lc pc c1 c2 st l1 l2 w _ _ _ b2 hi1 hi2 hn1 hn2 hs HAW hr1 hr2 hr3 (both_mems hl1 hl2).symm (mems_short _) (mems_short _)
  · have hv : ¬ validOK ts ns lv st n L R V := fun h => hok (.inl h)
    have hc : ¬ closedOK ts ns lv st n L R V := fun h => hok (.inr h)
    exact rows_bad1 ta na la pa a1 a2 tn nn ln n tc nc lc pc c1 c2 st l1 l2 w [] [] [] false false 1 hi1 hi2 hn1 hn2 hs HAW (row_is0 ta na la pa tc nc lc pc ts ns lv n L R ra rc V st w tn nn ln hlen hG a1 l1.length c1 hv hc) (row_is0 ta na la pa tc nc lc pc ts ns lv n L R ra rc V st w tn nn ln hlen hG a2 l2.length c2 hv hc) (fun X a c hX _ => row_is0 ta na la pa tc nc lc pc ts ns lv n L R ra rc V st w tn nn ln hlen hG a (l1 ++ l2).length c hv hc X hX) rfl
end

end Go.Proofs.YteciocfnkjenpaaDoor

/-
  FirstRows holds where what it reads is of bulk at most 1048576: it answers true for every such grammar and every two such rows, which read afterwards as they did before; the library's table of trailing zeros starts as the program's text lays it.
-/
namespace Go.Proofs.YteciocfnkjenpaaDoor
open Go.ChangeShapes Go.WideShapes Go.ChangeAt Go.RowKit

theorem cellsIntK : Tryd.prog.cellsOf 3 = 1 := by kernel_rfl

theorem ints_of_openK {W : World} {x : Addr} {len cap : Nat} {zs : List Int} (hl : len ≤ cap) (hz : zs.length = cap) (hc : ∀ i, i < zs.length → W.cell? (x.add i) = some (.int .i64 (zs.getD i 0))) :
    IntsAt W (some x) (zs.take len) := by
  by_cases h0 : len = 0
  · subst h0; exact .inl (by simp)
  · obtain ⟨b, off, spot⟩ := x
    have h1 := hc 0 (by omega)
    have hs : spot = none := by simpa [Addr.add] using World.cell?_spot h1
    subst hs
    refine .inr ⟨b, off, rfl, fun i hi => ?_⟩
    have hi' : i < len := by simp at hi; omega
    have h2 := hc i (by omega)
    rw [Addr.add_mid] at h2
    rw [h2]
    congr 2
    simp [List.getD, hi']

/-- A list of numbers among the arguments, opened. -/
theorem open_listK {H : Type} {enc : TypeId × Value → H} {W : World} {a : Option Addr} {len cap : Nat} {d : DataW H} {p : List MemPlace} (h : DataW.Trod enc Tryd.prog W 0 (fun _ => true) true 24 (.slice a len cap) d p) :
    ∃ l : List Int, len = l.length ∧ IntsAt W a l ∧ (a = none → l.length = 0 ∧ cap = 0) ∧ l.length ≤ Rows.uptoBulk d := by
  obtain ⟨fuel, hf⟩ := h
  have hb := ints_bulk (x := (d, p)) (a := a) (len := len) (cap := cap) (by simpa [Value.cells] using hf)
  rcases open_ints Tryd.underlying24 Tryd.underlying3 cellsIntK hf with ⟨hcs, _⟩ | ⟨x, l, c, zs, hcs, _, hl, hm, hz, hx, hcell, hwz⟩
  · simp [Value.cells] at hcs
    obtain ⟨rfl, rfl, rfl⟩ := hcs
    exact ⟨[], rfl, .inl rfl, fun _ => ⟨rfl, rfl⟩, Nat.zero_le _⟩
  · simp [Value.cells] at hcs
    obtain ⟨rfl, rfl, rfl⟩ := hcs
    have hz' : zs.length = cap := by simpa using hz
    have hlt : (zs.take len).length = len := by simp; omega
    exact ⟨zs.take len, hlt.symm, ints_of_openK hl hz' hcell, fun h => (by cases h), by rw [hlt]; exact hb⟩

theorem rowsU_reads (os : Os) {H : Type} (enc : TypeId × Value → H) : ∃ places, DataW.whole enc Tryd.prog ((World.doorLaid Tryd.prog 14 os).forCall (fun _ _ => 0) ⟨#[], #[.agg #[.slice none 0 0, .slice none 0 0, .slice none 0 0, .int .i64 0, .slice none 0 0], .slice none 0 0, .slice none 0 0], []⟩).memory Tryd.f4.params.toList Rows.firstRowsSpec.vars false #[Value.agg #[.slice none 0 0, .slice none 0 0, .slice none 0 0, .int .i64 0, .slice none 0 0], .slice none 0 0, .slice none 0 0].toList 8 = some ([.agg [.nil, .nil, .nil, .lit (.int .i64 0), .nil], .nil, .nil], [], places) :=
  ⟨[], by kernel_rfl⟩

set_option maxRecDepth 100000 in
theorem rows_lifted (os : Os) (started : os.Started) (H : Type) (enc : TypeId × Value → H) (F : Stop.Interp) :
    ReturnsInHanded {} Tryd.checked os 4 .any ((Rows.OpenSpec.upto Rows.firstRowsSpec).preRow enc Tryd.prog Tryd.f4 Rows.firstRowsUptoRow.domain false Rows.firstRowsUptoRow.laid) (((Rows.OpenSpec.upto Rows.firstRowsSpec).at F).post enc Tryd.prog Tryd.f4 false true false false) := by
  obtain ⟨places, hx⟩ := rowsU_reads os enc
  refine returnsInHanded_of_row (C := Tryd.checked) (s := Rows.OpenSpec.upto Rows.firstRowsSpec) own started (by kernel_rfl) Tryd.func4
    (witness_row_at (enc := enc) (C := Tryd.checked) false (World.doorLaid Tryd.prog 14 os) #[.agg #[.slice none 0 0, .slice none 0 0, .slice none 0 0, .int .i64 0, .slice none 0 0], .slice none 0 0, .slice none 0 0] rfl (by kernel_rfl) (by kernel_rfl) (by kernel_rfl)
      (OpenSpec.preRow_of_cond 8 hx (by kernel_rfl) (fun k hk => by cases hk; kernel_rfl) (by kernel_rfl) (laidMet_of_run' 65 (by kernel_rfl) (by kernel_rfl)))) ?_
  intro W base args ds gs before hval0 hW _ hcond hsz0 hL0 _ _
  have hval : ∀ (j : Nat) t v, Tryd.f4.params[j]? = some t → args[j]? = some v → Value.okWide Tryd.prog W .any base t v := hval0
  have hsz : (DataW.weightsEach Tryd.prog (Tryd.f4.params.toList ++ Rows.firstRowsSpec.plain.varTypes Tryd.prog) (ds ++ gs)).all (· ≤ reachBytes) = true := hsz0
  have hk : Rows.uptoBulkAll (ds ++ gs) ≤ 1048576 := of_decide_eq_true (hcond _ rfl)
  have hL : laidMetH Tryd.prog laid1 W := hL0
  have hW' := hW
  obtain ⟨p, q, hA0, hV, rfl, hfz, hnd⟩ := hW
  have hA : DataW.TrodAll enc Tryd.prog W 0 (fun _ => true) true Tryd.f4.params.toList args.toList ds p := hA0
  rw [Tryd.params4] at hA hval hsz
  obtain ⟨v0, vs0, d0, ds0, p0, q0, hargs, rfl, rfl, h0, r0⟩ := trodAll_cons hA
  obtain ⟨v1, vs1, d1, ds1, p1, q1, rfl, rfl, rfl, h1, r1⟩ := trodAll_cons r0
  obtain ⟨v2, vs2, d2, ds2, p2, q2, rfl, rfl, rfl, h2, r2⟩ := trodAll_cons r1
  obtain ⟨rfl, rfl, rfl⟩ := trodAll_nil r2
  obtain rfl : args = #[v0, v1, v2] := by cases args; simp_all
  obtain ⟨rfl, rfl⟩ := trodVars_none hV
  have lt0 : ∀ x ∈ p0, x.block < W.heap.size := by obtain ⟨m, hm⟩ := h0; exact DataW.trod_lt m _ _ _ hm
  have lt1 : ∀ x ∈ p1, x.block < W.heap.size := by obtain ⟨m, hm⟩ := h1; exact DataW.trod_lt m _ _ _ hm
  have lt2 : ∀ x ∈ p2, x.block < W.heap.size := by obtain ⟨m, hm⟩ := h2; exact DataW.trod_lt m _ _ _ hm
  have hw0 : ∀ n ∈ d0.weights Tryd.prog 27, n ≤ reachBytes := fun n hn => by
    have := List.all_eq_true.1 hsz n (DataW.weights_mem_each (j := 0) (t := 27) (d := d0) rfl rfl n hn)
    simpa using this
  obtain ⟨ta, na, la, pa, tc, nc, lc, pc, ts, ns, lv, n, L, R, ra, rc, V, st, rfl, hG, hIn⟩ := open_gram (hval 0 27 v0 rfl rfl) h0 hw0
  obtain ⟨a1, len1, cap1, rfl⟩ := okWide_slice Tryd.underlying24 (hval 1 24 v1 rfl rfl)
  obtain ⟨a2, len2, cap2, rfl⟩ := okWide_slice Tryd.underlying24 (hval 2 24 v2 rfl rfl)
  obtain ⟨l1, rfl, hl1, hn1, hb1⟩ := open_listK h1
  obtain ⟨l2, rfl, hl2, hn2, hb2⟩ := open_listK h2
  have hd1 : Rows.uptoBulk d1 ≤ 1048576 := Nat.le_trans (bulk_part (by simp)) hk
  have hd2 : Rows.uptoBulk d2 ≤ 1048576 := Nat.le_trans (bulk_part (by simp)) hk
  have hT := tab_of_laid hL
  clear hA0 hval0
  refine (rows_core ta na la pa tc nc lc pc ts ns lv n L R ra rc V st W ts.length ns.length lv.length ⟨rfl, rfl, rfl⟩ hG hT (heap_pos hT) a1 a2 cap1 cap2 l1 l2 hl1 hl2 hn1 hn2 (by omega)).mono fun e W' ⟨he, hg⟩ => ?_
  subst he
  have bel := grown_below0 hg
  exact ⟨_, rfl, _, _, _, [], _, [], hW', trodAll_mk1 (shut_bool Tryd.underlying4 _), trodAll_cons_mk (Below.trod laidOut (by kernel_rfl) (of_decide_eq_true (by kernel_rfl)) h0 bel lt0) (trodAll_cons_mk (Below.trod laidOut (by kernel_rfl) (of_decide_eq_true (by kernel_rfl)) h1 bel lt1) (trodAll_cons_mk (Below.trod laidOut (by kernel_rfl) (of_decide_eq_true (by kernel_rfl)) h2 bel lt2) trodAll_mk0)), rfl, bel.frame _, fun h => by cases h⟩

theorem firstRowsUpto_holds : Rows.FirstRowsUptoSaid :=
  OpenClaim.holds_of_cond 4 Tryd.f4 rfl rfl rfl rfl rfl rfl rfl ⟨rfl, rfl, rfl, rfl, rfl⟩ rfl rfl rfl rfl rfl (by kernel_rfl) Tryd.func4 (by kernel_rfl)
    (of_decide_eq_true (by kernel_rfl)) (by unfold Func.isWrapper; first | (rw [if_pos (by decide +kernel)]; kernel_rfl) | (rw [if_neg (by decide +kernel)]; exact ⟨rfl, rfl⟩))
    (fun os started H enc _ F => by rw [OpenClaim.pre_eq_preRow]; exact rows_lifted os started H enc F)

end Go.Proofs.YteciocfnkjenpaaDoor
