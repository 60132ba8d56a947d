import Derived.Test.YteciocfnkjenpaaDoorQaapkkpkebfjm
import Derived.Test.YteciocfnkjenpaaDoorQiafbmcifdpcj

/-
  FirstGrows, walked: of any grammar and any production.
-/
namespace Go.Proofs.YteciocfnkjenpaaDoor
open Go.RowKit Go.Maps Go.Shelf

attribute [local go_sem] Oper.semAt_some

set_option maxRecDepth 100000 in
set_option maxHeartbeats 1000000 in
theorem grows_none (ta na la pa : Option Addr) (tc nc lc pc : Nat) (ts : List (ByteArray × Int)) (ns : List ByteArray) (lv : List Int) (n : Nat) (L : Nat → Int) (R : Nat → List Int) (ra : Nat → Option Addr) (rc : Nat → Nat) (V : Nat → Int) (st : Int) (w : World) (tn nn ln : Nat) (hlen : ts.length = tn ∧ ns.length = nn ∧ lv.length = ln) (hG : GAt w ta na la pa tc nc lc pc ts ns lv n L R ra rc V) (hts : ∀ t ∈ ts, t.1.size ≤ 140737488355328) (hns : ∀ s ∈ ns, s.size ≤ 140737488355328) (hT : B.Tab w) (h0 : 0 < w.heap.size) (lf : Int) (rv : Value) (hval : ¬ validOK ts ns lv st n L R V) :
    Calls Tryd.prog 7 #[.agg #[.slice ta tn tc, .slice na nn nc, .slice la ln lc, .int .i64 st, .slice pa n pc], .int .i64 lf, rv] w fun e y => e = .returned (.bool true) ∧ w.grownBy y none := by
  have HAW : Hid (∀ X, w.grownBy X none → Calls Tryd.prog 8 #[] X fun e w' => e = .returned (.bool true) ∧ X.grownBy w' none) := fun X hX => kawake_any X (Tab_kept hT hX h0) (Nat.lt_of_lt_of_le h0 hX.size)
  have HVL : Hid (∀ X, w.grownBy X none → Calls Tryd.prog 23 #[.agg #[.slice ta tn tc, .slice na nn nc, .slice la ln lc, .int .i64 st, .slice pa n pc]] X fun e w' => e = .returned (.bool false) ∧ X.grownBy w' none) := fun X hX => by
    have := rvalid_any ta na la pa tc nc lc pc st ts ns lv n L R ra rc V X (hG.kept hX) hts hns false ⟨fun h => (by cases h), fun h => absurd h hval⟩
    rwa [hlen.1, hlen.2.1, hlen.2.2] at this
  have HX0 : Hid (PhAt w (w.alloc (.cells #[.slice ta tn tc, .slice na nn nc, .slice la ln lc, .int .i64 st, .slice pa n pc] 27)) w.heap.size #[.slice ta tn tc, .slice na nn nc, .slice la ln lc, .int .i64 st, .slice pa n pc]) := ⟨World.grownBy_alloc _ _ none, heap_alloc_last w _⟩
  clear hG hlen hts hns hT h0 hval
  go_enter Tryd.func7, Tryd.ntmps7
  go_wp2_with fail
  refine Calls.mono (HAW.out _ HX0.out.grown) ?_
  rintro e w1 ⟨rfl, hg1⟩
  have HX1 : Hid (PhAt w w1 w.heap.size #[.slice ta tn tc, .slice na nn nc, .slice la ln lc, .int .i64 st, .slice pa n pc]) := HX0.out.kept hg1
  clear hg1 HX0
  obtain ⟨k0, k1, k2, k3, k4⟩ := HX1.out.cells
  go_wp2_with fail
  refine Calls.mono (HVL.out _ HX1.out.grown) ?_
  rintro e w2 ⟨rfl, hg2⟩
  have HX2 : Hid (PhAt w w2 w.heap.size #[.slice ta tn tc, .slice na nn nc, .slice la ln lc, .int .i64 st, .slice pa n pc]) := HX1.out.kept hg2
  clear hg2 HX1 k0 k1 k2 k3 k4
  go_wp2_with fail
  go_ret
  exact ⟨rfl, HX2.out.grown⟩

theorem grows_core (ta na la pa : Option Addr) (tc nc lc pc : Nat) (ts : List (ByteArray × Int)) (ns : List ByteArray) (lv : List Int) (n : Nat) (L : Nat → Int) (R : Nat → List Int) (ra : Nat → Option Addr) (rc : Nat → Nat) (V : Nat → Int) (st : Int) (w : World) (tn nn ln : Nat) (hlen : ts.length = tn ∧ ns.length = nn ∧ lv.length = ln) (hG : GAt w ta na la pa tc nc lc pc ts ns lv n L R ra rc V) (hts : ∀ t ∈ ts, t.1.size ≤ 140737488355328) (hns : ∀ s ∈ ns, s.size ≤ 140737488355328) (hT : B.Tab w) (h0 : 0 < w.heap.size) (hnt : ta = none → tn = 0 ∧ tc = 0) (hnl : la = none → ln = 0 ∧ lc = 0) (lf : Int) (av : Option Addr) (cv : Nat) (l : List Int) (hI : IntsAt w av l) (hnv : av = none → l.length = 0 ∧ cv = 0) (hll : l.length ≤ 17592186044416) :
    Calls Tryd.prog 7 #[.agg #[.slice ta tn tc, .slice na nn nc, .slice la ln lc, .int .i64 st, .slice pa n pc], .int .i64 lf, .slice av l.length cv] w fun e y => e = .returned (.bool true) ∧ w.grownBy y none := by
  by_cases hval : validOK ts ns lv st n L R V
  · by_cases hmore : validOK ts ns lv st (n + 1) (fun i => if i < n then L i else lf) (fun i => if i < n then R i else l) (fun i => if i < n then V i else 0)
    · exact grows_ok ta na la pa tc nc lc pc ts ns lv n L R ra rc V st w tn nn ln hlen hG hts hns hT h0 hnt hnl lf av cv l hI hnv hll hval hmore
    · exact grows_bad ta na la pa tc nc lc pc ts ns lv n L R ra rc V st w tn nn ln hlen hG hts hns hT h0 hnt hnl lf av cv l hI hnv hll hval hmore
  · exact grows_none ta na la pa tc nc lc pc ts ns lv n L R ra rc V st w tn nn ln hlen hG hts hns hT h0 lf _ hval

end Go.Proofs.YteciocfnkjenpaaDoor

/-
  FirstGrows holds: it answers true for every grammar and every production, which read afterwards as they did before; the library's table of trailing zeros starts as the program's text lays it.
-/
namespace Go.Proofs.YteciocfnkjenpaaDoor
open Go.ChangeShapes Go.WideShapes Go.ChangeAt Go.RowKit

theorem cellsIntK : Tryd.prog.cellsOf 3 = 1 := by kernel_rfl

theorem ints_of_openK {W : World} {x : Addr} {len cap : Nat} {zs : List Int} (hl : len ≤ cap) (hz : zs.length = cap) (hc : ∀ i, i < zs.length → W.cell? (x.add i) = some (.int .i64 (zs.getD i 0))) :
    IntsAt W (some x) (zs.take len) := by
  by_cases h0 : len = 0
  · subst h0; exact .inl (by simp)
  · obtain ⟨b, off, spot⟩ := x
    have h1 := hc 0 (by omega)
    have hs : spot = none := by simpa [Addr.add] using World.cell?_spot h1
    subst hs
    refine .inr ⟨b, off, rfl, fun i hi => ?_⟩
    have hi' : i < len := by simp at hi; omega
    have h2 := hc i (by omega)
    rw [Addr.add_mid] at h2
    rw [h2]
    congr 2
    simp [List.getD, hi']

theorem bytesIntK : Tryd.prog.bytesOf 3 = 8 := by kernel_rfl
/-- A list of numbers among the arguments, opened. -/
theorem open_listS {H : Type} {enc : TypeId × Value → H} {W : World} {ts : List TypeId} {ds : List (DataW H)} {j : Nat} {a : Option Addr} {len cap : Nat} {d : DataW H} {p : List MemPlace}
    (hsz : (DataW.weightsEach Tryd.prog ts ds).all (· ≤ reachBytes) = true) (ht : ts[j]? = some 24) (hd : ds[j]? = some d) (h : DataW.Trod enc Tryd.prog W 0 (fun _ => true) true 24 (.slice a len cap) d p) :
    ∃ l : List Int, len = l.length ∧ IntsAt W a l ∧ (a = none → l.length = 0 ∧ cap = 0) ∧ l.length ≤ 17592186044416 := by
  obtain ⟨fuel, hf⟩ := h
  rcases open_ints Tryd.underlying24 Tryd.underlying3 cellsIntK hf with ⟨hcs, _⟩ | ⟨x, l, c, zs, hcs, _, hl, hm, hz, hx, hcell, hwz⟩
  · simp [Value.cells] at hcs
    obtain ⟨rfl, rfl, rfl⟩ := hcs
    exact ⟨[], rfl, .inl rfl, fun _ => ⟨rfl, rfl⟩, by decide⟩
  · simp [Value.cells] at hcs
    obtain ⟨rfl, rfl, rfl⟩ := hcs
    have hz' : zs.length = cap := by simpa using hz
    have hlt : (zs.take len).length = len := by simp; omega
    refine ⟨zs.take len, hlt.symm, ints_of_openK hl hz' hcell, fun h => (by cases h), ?_⟩
    simp only [Prod.mk.injEq] at hx
    obtain ⟨rfl, _⟩ := hx
    have := sized_slice hsz ht hd Tryd.underlying24
    rw [bytesIntK] at this
    simp only [lits, List.length_map, List.length_take, List.length_drop, reachBytes] at this
    rw [hlt]
    omega

set_option maxRecDepth 100000 in
theorem grows_lifted (os : Os) (started : os.Started) (H : Type) (enc : TypeId × Value → H) :
    ReturnsInHanded {} Tryd.checked os 7 .any (fun w args => (Rows.firstGrowsSpec.pre enc Tryd.prog Tryd.f7 [] false w args ∧ laidMetH Tryd.prog laid1 w) ∧ sizedMet enc Tryd.prog Tryd.f7 (OpenSpec.ofChange Rows.firstGrowsSpec) false w args)
      (Rows.firstGrowsSpec.post enc Tryd.prog Tryd.f7 false true false false) := by
  refine returnsInHanded_of_change_and (C := Tryd.checked) (X := fun w _ => laidMetH Tryd.prog laid1 w) (fun _ _ _ hh h => h.of_heap hh) own started (by kernel_rfl) Tryd.func7
    (ChangeSpec.witness_shaped (enc := enc) (C := Tryd.checked) (os := os) (X := fun w _ => laidMetH Tryd.prog laid1 w) false (World.doorLaid Tryd.prog 14 os) #[.agg #[.slice none 0 0, .slice none 0 0, .slice none 0 0, .int .i64 0, .slice none 0 0], .int .i64 0, .slice none 0 0] 8 rfl (World.shaped_of_RefB (by kernel_rfl) (by kernel_rfl)) (by kernel_rfl) (by kernel_rfl) (by kernel_rfl) (door_met os _)) ?_
  intro W base args ds gs before hval0 hW _ hsz0 hL _
  have hval : ∀ (j : Nat) t v, Tryd.f7.params[j]? = some t → args[j]? = some v → Value.okWide Tryd.prog W .any base t v := hval0
  have hsz : (DataW.weightsEach Tryd.prog (Tryd.f7.params.toList ++ Rows.firstGrowsSpec.plain.varTypes Tryd.prog) (ds ++ gs)).all (· ≤ reachBytes) = true := hsz0
  have hW' := hW
  obtain ⟨p, q, hA0, hV, rfl, hfz, hnd⟩ := hW
  have hA : DataW.TrodAll enc Tryd.prog W 0 (fun _ => true) true Tryd.f7.params.toList args.toList ds p := hA0
  rw [Tryd.params7] at hA hval hsz
  obtain ⟨v0, vs0, d0, ds0, p0, q0, hargs, rfl, rfl, h0, r0⟩ := trodAll_cons hA
  obtain ⟨v1, vs1, d1, ds1, p1, q1, rfl, rfl, rfl, h1, r1⟩ := trodAll_cons r0
  obtain ⟨v2, vs2, d2, ds2, p2, q2, rfl, rfl, rfl, h2, r2⟩ := trodAll_cons r1
  obtain ⟨rfl, rfl, rfl⟩ := trodAll_nil r2
  obtain rfl : args = #[v0, v1, v2] := by cases args; simp_all
  obtain ⟨rfl, rfl⟩ := trodVars_none hV
  have lt0 : ∀ x ∈ p0, x.block < W.heap.size := by obtain ⟨m, hm⟩ := h0; exact DataW.trod_lt m _ _ _ hm
  have hw0 : ∀ n ∈ d0.weights Tryd.prog 27, n ≤ reachBytes := fun n hn => by
    have := List.all_eq_true.1 hsz n (DataW.weights_mem_each (j := 0) (t := 27) (d := d0) rfl rfl n hn)
    simpa using this
  obtain ⟨ta, na, la, pa, tc, nc, lc, pc, ts, ns, lv, n, L, R, ra, rc, V, st, rfl, hG, hIn⟩ := open_gram (hval 0 27 v0 rfl rfl) h0 hw0
  obtain ⟨lf, rfl, rfl, rfl, wl⟩ := open_int Tryd.underlying3 (hval 1 3 v1 rfl rfl) h1
  obtain ⟨av, len2, cap2, rfl⟩ := okWide_slice Tryd.underlying24 (hval 2 24 v2 rfl rfl)
  have lt2 : ∀ x ∈ p2, x.block < W.heap.size := by obtain ⟨m, hm⟩ := h2; exact DataW.trod_lt m _ _ _ hm
  obtain ⟨l, rfl, hl, hnv, hll⟩ := open_listS hsz (j := 2) rfl rfl h2
  have hT := tab_of_laid hL
  clear hA0 hval0
  refine (grows_core ta na la pa tc nc lc pc ts ns lv n L R ra rc V st W ts.length ns.length lv.length ⟨rfl, rfl, rfl⟩ hG (fun t ht => (hIn.lvl t ht).2) hIn.nsz hT (heap_pos hT) hIn.tnil hIn.lnil lf av cap2 l hl hnv hll).mono fun e W' ⟨he, hg⟩ => ?_
  subst he
  have bel := grown_below0 hg
  exact ⟨_, rfl, _, _, _, [], _, [], hW', trodAll_mk1 (shut_bool Tryd.underlying4 _), trodAll_cons_mk (Below.trod laidOut (by kernel_rfl) (of_decide_eq_true (by kernel_rfl)) h0 bel lt0) (trodAll_cons_mk (shut_int Tryd.underlying3 wl) (trodAll_cons_mk (Below.trod laidOut (by kernel_rfl) (of_decide_eq_true (by kernel_rfl)) h2 bel lt2) trodAll_mk0)), rfl, bel.frame _, fun h => by cases h⟩

theorem firstGrows_holds : Rows.FirstGrowsSaid :=
  OpenClaim.holds_of_wide 7 Tryd.f7 rfl rfl rfl rfl rfl rfl rfl ⟨rfl, rfl, rfl, rfl, rfl⟩ rfl rfl rfl rfl rfl (by kernel_rfl) Tryd.func7 (by kernel_rfl)
    (of_decide_eq_true (by kernel_rfl)) (by unfold Func.isWrapper; first | (rw [if_pos (by decide +kernel)]; kernel_rfl) | (rw [if_neg (by decide +kernel)]; exact ⟨rfl, rfl⟩))
    (fun os started H enc _ => grows_lifted os started H enc)

end Go.Proofs.YteciocfnkjenpaaDoor
