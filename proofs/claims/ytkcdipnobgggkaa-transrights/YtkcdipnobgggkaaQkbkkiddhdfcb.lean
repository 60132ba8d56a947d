import Derived.Test.YtkcdipnobgggkaaQpkepiejolafp
import Derived.Test.YtkcdipnobgggkaaQfkkneoaplgkb
import Derived.ProofKit
import Derived.OpenShut
import Derived.SliceStrings
import Derived.Deep.Slices
import Derived.SizedLaws
import Derived.Test.YtkcdipnobgggkaaRows

/-
  trans: automatonOf of any grammar; the law's awake.
-/
namespace Go.Proofs.Ytkcdipnobgggkaa.J
open Go.RowKit Go.Maps Go.Shelf

attribute [local go_sem] Oper.semAt_some

theorem esOK_of {G : List It → Nat → List It} {n : Nat} {R : Nat → List Int} {S : Nat} {ks : List (List It)} {es : List (List (Nat × Nat))} (h : AutF G n R S ks es) (hS : S ≤ 130) : EsOK ks es :=
  ⟨h.kok.le, h.len, fun q hq => ⟨by rw [h.elen hq]; exact Nat.le_trans (symsT_len _ _) hS, by rw [h.fst q hq]; exact symsT_nodup _ _, fun x hx => by
    have := h.snd q hq x hx
    omega⟩⟩

section
variable (ta na la pa : Option Addr) (tc nc lc pc : Nat) (ts : List (ByteArray × Int)) (ns : List ByteArray) (lv : List Int) (n : Nat) (L : Nat → Int) (R : Nat → List Int) (ra : Nat → Option Addr) (rc : Nat → Nat) (V : Nat → Int) (st : Int) (w : World) (tn nn ln : Nat) (hlen : ts.length = tn ∧ ns.length = nn ∧ lv.length = ln) (hG : GAt w ta na la pa tc nc lc pc ts ns lv n L R ra rc V)
include hlen hG
theorem ofBad1 (hc : ¬ closedOK ts ns lv st n L R V) : OfBad ta na la pa tc nc lc pc n st w tn nn ln 1 := fun X hX =>
  of_bad ta na la pa tc nc lc pc n st X tn nn ln 1 (.inl rfl) fun Y hY => buildBad ta na la pa tc nc lc pc ts ns lv n L R ra rc V st Y tn nn ln hlen (hG.kept (grown_trans hX hY)) hc
theorem ofBad11 (hc : closedOK ts ns lv st n L R V) (h : autoF (GG tn n L R) (tn + nn) 256 = none) : OfBad ta na la pa tc nc lc pc n st w tn nn ln 11 := fun X hX =>
  of_bad ta na la pa tc nc lc pc n st X tn nn ln 11 (.inr rfl) fun Y hY => build_none ta na la pa tc nc lc pc ts ns lv n L R ra rc V st w tn nn ln hlen hG hc h Y (grown_trans hX hY)
theorem ofOk (hc : closedOK ts ns lv st n L R V) {ks : List (List It)} {es : List (List (Nat × Nat))} (h : autoF (GG tn n L R) (tn + nn) 256 = some (ks, es)) : OfOk ta na la pa tc nc lc pc n st w tn nn ln ks es ∧ EsOK ks es := by
  have hM : MayOK tn nn n st L R true := by obtain ⟨rfl, rfl, rfl⟩ := hlen; exact mayOK_closed hc
  have hE : EsOK ks es := esOK_of (autF hM.p0 h) (by have := hM.tmax; have := hM.nmax; omega)
  refine ⟨fun X hX => of_ok ta na la pa tc nc lc pc n st X tn nn ln (askN es) ks es hE.le hE.len (fun q hq => ⟨(hE.each q hq).1, (hE.each q hq).2.1, fun x hx => by have := (hE.each q hq).2.2 x hx; have := hE.le; omega⟩) fun Y hY => ?_, hE⟩
  refine (build_some ta na la pa tc nc lc pc ts ns lv n L R ra rc V st w tn nn ln hlen hG hc h Y (grown_trans hX hY)).mono ?_
  rintro e y ⟨sa, sc, kv, ev, he, hAP, hg⟩
  exact ⟨sa, sc, kv, ev, he, hAP.base hY.size, hg⟩
end

theorem k_ggT : autoF (GG 3 3 kL kR) 5 256 = some (kKs, kEs) := by
  have h : ∀ k ∈ kKs, IsClo 3 3 kL kR k (CLo 3 3 kL kR k) := fun k hk => by
    have h1 := k_clo k hk
    rw [CLo_eq h1 (by
      simp only [kKs, List.mem_cons, List.not_mem_nil, or_false] at hk
      rcases hk with rfl | rfl | rfl | rfl | rfl <;> decide)]
    exact h1
  exact k_auto h
theorem k_trT : trT 3 kEs 5 = [(0, 4)] := by decide
theorem k_way : wayF kEs (some 0) [4, 1, 2] = some 4 := by decide
theorem k_dir : dirOf 3 4 kEs (0, 4) = [0, 1] := by decide

set_option maxRecDepth 100000 in
set_option maxHeartbeats 2000000 in
theorem awake_any (w : World) : Calls Try.prog 8 #[] w fun e w' => e = .returned (.bool true) ∧ w.grownBy w' none := by
  have hE : ∀ X : World, (binOp .eql 62 (.agg #[.int .i64 0, .int .i64 4]) (.agg #[.int .i64 0, .int .i64 4])).run Try.prog X = .ok (.bool true) X := fun X => eq_trans 0 4 0 4 X
  go_enter Try.func8, Try.ntmps8
  go_wp2_with fail
  refine Calls.mono (small_any w) ?_
  rintro e w1 ⟨b1, b2, b6, ra, rc, rfl, hG1, hg1⟩
  obtain ⟨hOf, hEs⟩ := ofOk (some ⟨b1, 0, none⟩) (some ⟨b2, 0, none⟩) none (some ⟨b6, 0, none⟩) 3 2 0 3 kTs kNs [] 3 kL kR ra rc (fun _ => 0) 4 w1 3 2 0 ⟨rfl, rfl, rfl⟩ hG1 k_closed k_ggT
  have HOF : Hid (OfOk (some ⟨b1, 0, none⟩) (some ⟨b2, 0, none⟩) none (some ⟨b6, 0, none⟩) 3 2 0 3 3 4 w1 3 2 0 kKs kEs) := hOf
  have HES : Hid (EsOK kKs kEs) := hEs
  have HOX : Hid (∀ X, w1.grownBy X none → OfOk (some ⟨b1, 0, none⟩) (some ⟨b2, 0, none⟩) none (some ⟨b6, 0, none⟩) 3 2 0 3 3 4 X 3 2 0 kKs kEs) := fun X hX Y hY => HOF.out Y (grown_trans hX hY)
  have HLI : Hid (∀ X, w1.grownBy X none → Calls Try.prog 14 #[.agg #[.slice (some ⟨b1, 0, none⟩) 3 3, .slice (some ⟨b2, 0, none⟩) 2 2, .slice none 0 0, .int .i64 4, .slice (some ⟨b6, 0, none⟩) 3 3]] X fun e y => ∃ g c, e = .returned (.tuple #[.slice (some ⟨g, 0, none⟩) 1 c, .int .i64 0]) ∧ y.cell? ⟨g, 0, none⟩ = some (.int .i64 0) ∧ y.cell? ⟨g, 1, none⟩ = some (.int .i64 4) ∧ X.grownBy y none) := fun X hX => by
    refine (listX_ok _ _ _ _ _ _ _ _ 3 4 X 3 2 0 kKs kEs HES.out.le (fun q hq => (HES.out.each q hq).1) (HOX.out X hX)).mono ?_
    rintro e y ⟨a, c, rfl, ho, hg⟩
    have e1 : trT 3 kEs kKs.length = [(0, 4)] := k_trT
    rw [e1] at ho ⊢
    obtain ⟨g, c2, he, hcell⟩ := owns_at ho (by decide)
    simp only [Value.slice.injEq] at he
    obtain ⟨rfl, _, rfl⟩ := he
    exact ⟨g, c, rfl, hcell 0 _ rfl, hcell 1 _ rfl, hg⟩
  have HWA : Hid (∀ X b, w1.grownBy X none → IntsAt X (some ⟨b, 0, none⟩) [4, 1, 2] → Calls Try.prog 10 #[.agg #[.slice (some ⟨b1, 0, none⟩) 3 3, .slice (some ⟨b2, 0, none⟩) 2 2, .slice none 0 0, .int .i64 4, .slice (some ⟨b6, 0, none⟩) 3 3], .int .i64 0, .slice (some ⟨b, 0, none⟩) 3 3] X fun e y => e = .returned (.tuple #[.int .i64 4, .int .i64 0]) ∧ X.grownBy y none) := fun X b hX hI => by
    have h := walkX_ok _ _ _ _ 3 2 0 3 3 4 X 3 2 0 kKs kEs (by decide) (by decide) HES.out.le HES.out.ok (HOX.out X hX) 0 (by decide) (some ⟨b, 0, none⟩) 3 [4, 1, 2] hI (by decide) (by decide)
    have e1 : wayV (wayF kEs (some ((0 : Nat) : Int)) [4, 1, 2]) = 4 := by rw [show ((0 : Nat) : Int) = 0 from rfl, k_way]; rfl
    rw [e1] at h
    exact h
  have HDI : Hid (∀ X, w1.grownBy X none → Calls Try.prog 18 #[.agg #[.slice (some ⟨b1, 0, none⟩) 3 3, .slice (some ⟨b2, 0, none⟩) 2 2, .slice none 0 0, .int .i64 4, .slice (some ⟨b6, 0, none⟩) 3 3]] X fun e y => ∃ rb a c, e = .returned (.tuple #[.slice (some ⟨rb, 0, none⟩) 1 1, .int .i64 0]) ∧ y.cell? ⟨rb, 0, none⟩ = some (.slice a 2 c) ∧ X.grownBy y none) := fun X hX => by
    refine (directX_ok _ _ _ _ 3 2 0 3 3 4 X 3 2 0 kKs kEs HES.out (HOX.out X hX)).mono ?_
    rintro e y ⟨rb, ua, uc, rfl, hv, _, hg⟩
    have e1 : trT 3 kEs kKs.length = [(0, 4)] := k_trT
    rw [e1] at hv ⊢
    have h1 := hv.cell 0 (by decide)
    rw [show ([((0 : Int), (4 : Int))] : List It).getD 0 (0, 0) = (0, 4) from rfl, k_dir] at h1
    exact ⟨rb, ua 0, uc 0, rfl, h1, hg⟩
  obtain ⟨gb, hgb⟩ : ∃ gb, gb = w1.heap.size := ⟨_, rfl⟩
  obtain ⟨X1, hX1⟩ : ∃ X1, X1 = w1.alloc (.cells #[.slice (some ⟨b1, 0, none⟩) 3 3, .slice (some ⟨b2, 0, none⟩) 2 2, .slice none 0 0, .int .i64 4, .slice (some ⟨b6, 0, none⟩) 3 3] 27) := ⟨_, rfl⟩
  have HP1 : Hid (PhAt w1 X1 gb #[.slice (some ⟨b1, 0, none⟩) 3 3, .slice (some ⟨b2, 0, none⟩) 2 2, .slice none 0 0, .int .i64 4, .slice (some ⟨b6, 0, none⟩) 3 3]) := ⟨by rw [hX1]; exact World.grownBy_alloc _ _ none, by rw [hX1, hgb]; exact heap_alloc_last w1 _⟩
  have HGW : Hid (w.grownBy w1 none) := hg1
  have HXE := show Hid _ from hX1
  have HGE := show Hid _ from hgb
  clear hG1 hg1 hX1 hgb hOf hEs HOF HOX HES
  go_wp2_with fail
  rw [← HXE.out, ← HGE.out]
  refine Calls.mono (HLI.out X1 HP1.out.grown) ?_
  rintro e w2 ⟨g2, c2, rfl, r0, r1, hg2⟩
  have HP2 : Hid (PhAt w1 w2 gb #[.slice (some ⟨b1, 0, none⟩) 3 3, .slice (some ⟨b2, 0, none⟩) 2 2, .slice none 0 0, .int .i64 4, .slice (some ⟨b6, 0, none⟩) 3 3]) := HP1.out.kept hg2
  clear hg2 HP1 HXE HGE HLI
  obtain ⟨k0, k1, k2, k3, k4⟩ := HP2.out.cells
  have HWC : Hid (Calls Try.prog 10 #[.agg #[.slice (some ⟨b1, 0, none⟩) 3 3, .slice (some ⟨b2, 0, none⟩) 2 2, .slice none 0 0, .int .i64 4, .slice (some ⟨b6, 0, none⟩) 3 3], .int .i64 0, .slice (some ⟨w2.heap.size, 0, none⟩) 3 3] (w2.alloc (.cells #[.int .i64 4, .int .i64 1, .int .i64 2] 3)) fun e y => e = .returned (.tuple #[.int .i64 4, .int .i64 0]) ∧ (w2.alloc (.cells #[.int .i64 4, .int .i64 1, .int .i64 2] 3)).grownBy y none) := HWA.out _ _ (grown_trans HP2.out.grown (World.grownBy_alloc _ _ none)) (.inr ⟨w2.heap.size, 0, rfl, fun i hi => by
    have h2 : i = 0 ∨ i = 1 ∨ i = 2 := by simp at hi; omega
    rcases h2 with rfl | rfl | rfl <;> (rw [cell_of_row _ _ _ _ _ _ (heap_alloc_last w2 _)]; rfl)⟩)
  go_wp2_with fail
  refine Calls.mono HWC.out ?_
  rintro e w3 ⟨rfl, hg3⟩
  have HP3 : Hid (PhAt w1 w3 gb #[.slice (some ⟨b1, 0, none⟩) 3 3, .slice (some ⟨b2, 0, none⟩) 2 2, .slice none 0 0, .int .i64 4, .slice (some ⟨b6, 0, none⟩) 3 3]) := HP2.out.kept (grown_trans (World.grownBy_alloc _ _ none) hg3)
  have r0' := hg3.cell ((World.grownBy_alloc w2 (.cells #[.int .i64 4, .int .i64 1, .int .i64 2] 3) none).cell r0 (by simp)) (by simp)
  have r1' := hg3.cell ((World.grownBy_alloc w2 (.cells #[.int .i64 4, .int .i64 1, .int .i64 2] 3) none).cell r1 (by simp)) (by simp)
  clear hg3 HP2 HWC HWA k0 k1 k2 k3 k4 r0 r1
  obtain ⟨k0, k1, k2, k3, k4⟩ := HP3.out.cells
  go_wp2_with fail
  refine Calls.mono (HDI.out w3 HP3.out.grown) ?_
  rintro e w4 ⟨rb, a4, c4, rfl, y0, hg4⟩
  have q0 := hg4.cell r0' (by simp)
  have q1 := hg4.cell r1' (by simp)
  have HG4 : Hid (w.grownBy w4 none) := grown_trans HGW.out (grown_trans HP3.out.grown hg4)
  clear hg4 HP3 HDI k0 k1 k2 k3 k4 r0' r1' HGW
  go_wp2_with fail
  go_ret
  exact ⟨rfl, HG4.out⟩

end Go.Proofs.Ytkcdipnobgggkaa.J

/-
  A grammar that came in, as the walks take it.
-/
namespace Go.Proofs.Ytkcdipnobgggkaa
open Go.ChangeShapes Go.WideShapes Go.ChangeAt Go.RowKit Go.Deep

theorem cellsInt : Try.prog.cellsOf 3 = 1 := by kernel_rfl
theorem cellsStr : Try.prog.cellsOf 9 = 1 := by kernel_rfl
theorem cellsInts : Try.prog.cellsOf 24 = 1 := by kernel_rfl
theorem cellsTerm : Try.prog.cellsOf 87 = 2 := by kernel_rfl
theorem cellsProd : Try.prog.cellsOf 57 = 3 := by kernel_rfl
theorem cellsTerms : Try.prog.cellsOf 22 = 1 := by kernel_rfl
theorem cellsStrs : Try.prog.cellsOf 23 = 1 := by kernel_rfl
theorem cellsProds : Try.prog.cellsOf 25 = 1 := by kernel_rfl
theorem cellsGram : Try.prog.cellsOf 27 = 5 := by kernel_rfl
theorem bytesInt : Try.prog.bytesOf 3 = 8 := by kernel_rfl
theorem bytesStr : Try.prog.bytesOf 9 = 16 := by kernel_rfl
theorem bytesTerm : Try.prog.bytesOf 87 = 24 := by kernel_rfl
theorem bytesProd : Try.prog.bytesOf 57 = 40 := by kernel_rfl

theorem weights_mem_all {H : Type} {P : Program} {e : TypeId} {d : DataW H} : ∀ {l : List (DataW H)}, d ∈ l → ∀ n ∈ d.weights P e, n ∈ DataW.weightsAll P e l
  | d0 :: l, hd, n, hn => by
    simp only [DataW.weightsAll, List.mem_append]
    rcases List.mem_cons.1 hd with rfl | h
    · exact .inl hn
    · exact .inr (weights_mem_all h n hn)

theorem ints_of_open {W : World} {x : Addr} {len cap : Nat} {zs : List Int} (hl : len ≤ cap) (hz : zs.length = cap) (hc : ∀ i, i < zs.length → W.cell? (x.add i) = some (.int .i64 (zs.getD i 0))) :
    IntsAt W (some x) (zs.take len) := by
  by_cases h0 : len = 0
  · subst h0; exact .inl (by simp)
  · obtain ⟨b, off, spot⟩ := x
    have h1 := hc 0 (by omega)
    have hs : spot = none := by simpa [Addr.add] using World.cell?_spot h1
    subst hs
    refine .inr ⟨b, off, rfl, fun i hi => ?_⟩
    have hi' : i < len := by simp at hi; omega
    have h2 := hc i (by omega)
    rw [Addr.add_mid] at h2
    rw [h2]
    congr 2
    simp [List.getD, hi']
theorem strs_of_open {W : World} {x : Addr} {len cap : Nat} {zs : List ByteArray} (hl : len ≤ cap) (hz : zs.length = cap) (hc : ∀ i, i < zs.length → W.cell? (x.add i) = some (.string (zs.getD i ByteArray.empty))) :
    StrsAt W (some x) (zs.take len) := by
  by_cases h0 : len = 0
  · subst h0; exact .inl (by simp)
  · obtain ⟨b, off, spot⟩ := x
    have h1 := hc 0 (by omega)
    have hs : spot = none := by simpa [Addr.add] using World.cell?_spot h1
    subst hs
    refine .inr ⟨b, off, rfl, fun i hi => ?_⟩
    have hi' : i < len := by simp at hi; omega
    have h2 := hc i (by omega)
    rw [Addr.add_mid] at h2
    rw [h2]
    congr 2
    have hi2 : i < zs.length := by omega
    simp [List.getD, hi', hi2]

section
variable {H : Type} {enc : TypeId × Value → H} {W : World} {fuel : Nat} {cs : List Value} {x : DataW H × List MemPlace}

theorem open_ints_in (h : DataW.trod enc Try.prog W 0 (fun _ => true) true fuel 24 cs = some x) (hw : ∀ n ∈ x.1.weights Try.prog 24, n ≤ reachBytes) :
    ∃ (a : Option Addr) (l : List Int) (c : Nat), cs = [.slice a l.length c] ∧ IntsAt W a l ∧ l.length ≤ 17592186044416 ∧ l.length ≤ c ∧ (a = none → l.length = 0 ∧ c = 0) ∧ ∀ z ∈ l, (Lit.int .i64 z).wf = true := by
  rcases open_ints Try.underlying24 Try.underlying3 cellsInt h with ⟨hcs, _⟩ | ⟨y, l, c, zs, hcs, _, hl, hm, hz, hx, hcell, hwz⟩
  · exact ⟨none, [], 0, hcs, .inl rfl, by decide, Nat.le_refl _, fun _ => ⟨rfl, rfl⟩, by simp⟩
  · have hz' : zs.length = c := by simpa using hz
    have hlen : (zs.take l).length = l := by rw [List.length_take]; omega
    refine ⟨some y, zs.take l, c, by rw [hlen]; exact hcs, ints_of_open hl hz' hcell, ?_, by rw [hlen]; exact hl, (fun h => by cases h), fun z hz => hwz z (List.mem_of_mem_take hz)⟩
    have := hw ((lits (H := H) .i64 (zs.take l)).length * 8 + (lits (H := H) .i64 (zs.drop l)).length * 8) (by rw [hx]; simp [DataW.weights, Try.underlying24, bytesInt, Nat.add_mul])
    simp only [lits, List.length_map, List.length_take, List.length_drop, reachBytes] at this
    rw [hlen]
    omega

theorem open_strs_in (h : DataW.trod enc Try.prog W 0 (fun _ => true) true fuel 23 cs = some x) (hw : ∀ n ∈ x.1.weights Try.prog 23, n ≤ reachBytes) :
    ∃ (a : Option Addr) (l : List ByteArray) (c : Nat), cs = [.slice a l.length c] ∧ StrsAt W a l ∧ l.length ≤ 8796093022208 ∧ l.length ≤ c ∧ (a = none → l.length = 0 ∧ c = 0) ∧ ∀ s ∈ l, s.size ≤ 140737488355328 := by
  rcases open_strings Try.underlying23 Try.underlying9 cellsStr h with ⟨hcs, _⟩ | ⟨y, l, c, zs, hcs, _, hl, hm, hz, hx, hcell, hwz⟩
  · exact ⟨none, [], 0, hcs, .inl rfl, by decide, Nat.le_refl _, fun _ => ⟨rfl, rfl⟩, by simp⟩
  · have hz' : zs.length = c := by simpa using hz
    have hlen : (zs.take l).length = l := by rw [List.length_take]; omega
    refine ⟨some y, zs.take l, c, by rw [hlen]; exact hcs, strs_of_open hl hz' hcell, ?_, by rw [hlen]; exact hl, (fun h => by cases h), fun s hs => ?_⟩
    rotate_left
    · have := hw s.data.toList.length (by
        rw [hx]
        simp only [DataW.weights, Try.underlying23, List.mem_cons, List.mem_append]
        exact .inr (.inl (weights_mem_all (List.mem_map.2 ⟨s, hs, rfl⟩) _ (by simp [DataW.weights]))))
      have e : s.data.toList.length = s.size := by simp
      unfold reachBytes at this
      omega
    have := hw ((strs (H := H) (zs.take l)).length * 16 + (strs (H := H) (zs.drop l)).length * 16) (by rw [hx]; simp [DataW.weights, Try.underlying23, bytesStr, Nat.add_mul])
    simp only [strs, List.length_map, List.length_take, List.length_drop, reachBytes] at this
    rw [hlen]
    omega

set_option maxRecDepth 100000 in
theorem open_terms_in (h : DataW.trod enc Try.prog W 0 (fun _ => true) true fuel 22 cs = some x) (hw : ∀ n ∈ x.1.weights Try.prog 22, n ≤ reachBytes) :
    ∃ (a : Option Addr) (l : List (ByteArray × Int)) (c : Nat), cs = [.slice a l.length c] ∧ TermsAt W a l ∧ l.length ≤ 5864062014805 ∧ l.length ≤ c ∧ (a = none → l.length = 0 ∧ c = 0) ∧ ∀ t ∈ l, (Lit.int .i64 t.2).wf = true ∧ t.1.size ≤ 140737488355328 := by
  rcases open_slice Try.underlying22 h with ⟨hcs, _⟩ | ⟨ad, len, cap, m, n, D, Pl, hcs, _, hl, hm, hmm, hx, heach⟩
  · exact ⟨none, [], 0, hcs, .inl rfl, by decide, Nat.le_refl _, fun _ => ⟨rfl, rfl⟩, by simp⟩
  · simp only [if_true] at hmm
    subst hx
    rw [cellsTerm] at heach
    have hlen : len ≤ 5864062014805 := by
      have := hw (((List.range len).map D).length * 24 + ((List.range (m - len)).map fun j => D (len + j)).length * 24) (by simp [DataW.weights, Try.underlying22, bytesTerm, Nat.add_mul])
      simp only [List.length_map, List.length_range, reachBytes] at this
      omega
    have each : ∀ i, i < len → ∃ t : ByteArray × Int, ∃ b off, ad = ⟨b, off, none⟩ ∧ W.cell? ⟨b, off + i * 2, none⟩ = some (.string t.1) ∧ W.cell? ⟨b, off + i * 2 + 1, none⟩ = some (.int .i64 t.2) ∧ (Lit.int .i64 t.2).wf = true ∧ t.1.size ≤ 140737488355328 := by
      intro i hi
      obtain ⟨cs', h1, h2⟩ := heach i (by omega)
      obtain ⟨_, hcl, hcell⟩ := World.cells?_some h1
      obtain ⟨xs, k, hk, hxy, _, hxl, hfs⟩ := DataW.trod_struct Try.underlying87 h2
      match xs, hxl, cs', hcl with
      | [y0, y1], _, [v0, v1], _ =>
        have g0 := hfs 0 _ rfl
        have g1 := hfs 1 _ rfl
        simp [cellsInt, cellsStr] at g0 g1
        simp only [Prod.mk.injEq] at hxy
        obtain ⟨s0, e0, ed0, _⟩ := DataW.trod_string Try.underlying9 g0
        have hsz : s0.size ≤ 140737488355328 := by
          have := hw s0.data.toList.length (by
            simp only [DataW.weights, Try.underlying22, List.mem_cons, List.mem_append]
            refine .inr (.inl (weights_mem_all (List.mem_map.2 ⟨i, List.mem_range.2 hi, rfl⟩) _ ?_))
            rw [hxy.1]
            simp only [DataW.weights, Try.underlying87]
            refine DataW.weights_mem_each (j := 0) (t := 9) (d := y0.1) rfl rfl _ ?_
            rw [show y0.1 = .lit (.string s0.data.toList) from congrArg Prod.fst ed0]
            simp [DataW.weights])
          have e : s0.data.toList.length = s0.size := by simp
          unfold reachBytes at this
          omega
        obtain ⟨z1, e1, _, w1⟩ := DataW.trod_int Try.underlying3 g1
        simp only [List.cons.injEq, and_true] at e0 e1
        subst e0 e1
        have c0 := hcell 0 (by omega)
        have c1 := hcell 1 (by omega)
        rw [Deep.add_add] at c0 c1
        obtain ⟨b, off, spot⟩ := ad
        have hs : spot = none := by
          obtain ⟨cs0, h10, _⟩ := heach 0 (by omega)
          obtain ⟨_, hcl0, hcell0⟩ := World.cells?_some h10
          have q0 := hcell0 0 (by omega)
          rw [List.getElem?_eq_getElem (by omega)] at q0
          simpa [Addr.add] using World.cell?_spot q0
        subst hs
        rw [add_plain] at c0 c1
        exact ⟨(s0, z1), b, off, rfl, by simpa using c0, by simpa [Nat.add_assoc] using c1, w1, hsz⟩
    obtain ⟨S, hS⟩ := choose_lt (α := ByteArray × Int) each
    have hg : ∀ i, i < len → ((List.range len).map S).getD i (⟨#[]⟩, 0) = S i := fun i hi => by simp [List.getD, hi]
    refine ⟨some ad, (List.range len).map S, cap, by simpa using hcs, ?_, by simpa using hlen, by simpa using hl, fun h => (by cases h), fun t ht => ?_⟩
    · by_cases h0 : len = 0
      · subst h0; exact .inl (by simp)
      · obtain ⟨b, off, rfl, _⟩ := hS 0 (by omega)
        refine .inr ⟨b, off, rfl, fun i hi => ?_⟩
        have hi' : i < len := by simpa using hi
        obtain ⟨b', off', e, r1, r2, _⟩ := hS i hi'
        simp only [Addr.mk.injEq, and_true] at e
        obtain ⟨rfl, rfl⟩ := e
        rw [hg i hi']
        exact ⟨r1, r2⟩
    · obtain ⟨i, hi, rfl⟩ := List.mem_map.1 ht
      obtain ⟨_, _, _, _, _, hwf⟩ := hS i (by simpa using hi)
      exact hwf

set_option maxRecDepth 100000 in
theorem open_prods_in (h : DataW.trod enc Try.prog W 0 (fun _ => true) true fuel 25 cs = some x) (hw : ∀ n ∈ x.1.weights Try.prog 25, n ≤ reachBytes) :
    ∃ (a : Option Addr) (n c : Nat) (L V : Nat → Int) (R : Nat → List Int) (ra : Nat → Option Addr) (rc : Nat → Nat), cs = [.slice a n c] ∧ ProdsAt W a n L R ra rc V ∧ n ≤ 3518437208883 ∧ n ≤ c ∧ (a = none → n = 0 ∧ c = 0) ∧ ∀ i, i < n → (R i).length ≤ rc i ∧ (Lit.int .i64 (L i)).wf = true ∧ (Lit.int .i64 (V i)).wf = true ∧ ∀ z ∈ R i, (Lit.int .i64 z).wf = true := by
  rcases open_slice Try.underlying25 h with ⟨hcs, _⟩ | ⟨ad, len, cap, m, n, D, Pl, hcs, _, hl, hm, hmm, hx, heach⟩
  · exact ⟨none, 0, 0, fun _ => 0, fun _ => 0, fun _ => [], fun _ => none, fun _ => 0, hcs, .inl rfl, by decide, Nat.le_refl _, fun _ => ⟨rfl, rfl⟩, fun i hi => absurd hi (Nat.not_lt_zero i)⟩
  · simp only [if_true] at hmm
    subst hx
    rw [cellsProd] at heach
    have hlen : len ≤ 3518437208883 := by
      have := hw (((List.range len).map D).length * 40 + ((List.range (m - len)).map fun j => D (len + j)).length * 40) (by simp [DataW.weights, Try.underlying25, bytesProd, Nat.add_mul])
      simp only [List.length_map, List.length_range, reachBytes] at this
      omega
    have each : ∀ i, i < len → ∃ t : Int × Int × List Int × Option Addr × Nat, ∃ b off, ad = ⟨b, off, none⟩ ∧ (W.cell? ⟨b, off + i * 3, none⟩ = some (.int .i64 t.1) ∧ W.cell? ⟨b, off + i * 3 + 1, none⟩ = some (.slice t.2.2.2.1 t.2.2.1.length t.2.2.2.2) ∧ W.cell? ⟨b, off + i * 3 + 2, none⟩ = some (.int .i64 t.2.1) ∧ IntsAt W t.2.2.2.1 t.2.2.1 ∧ (t.2.2.2.1 = none → t.2.2.2.2 = 0) ∧ t.2.2.1.length ≤ 17592186044416) ∧
        t.2.2.1.length ≤ t.2.2.2.2 ∧ (Lit.int .i64 t.1).wf = true ∧ (Lit.int .i64 t.2.1).wf = true ∧ ∀ z ∈ t.2.2.1, (Lit.int .i64 z).wf = true := by
      intro i hi
      obtain ⟨cs', h1, h2⟩ := heach i (by omega)
      obtain ⟨_, hcl, hcell⟩ := World.cells?_some h1
      obtain ⟨xs, k, hk, hxy, _, hxl, hfs⟩ := DataW.trod_struct Try.underlying57 h2
      have hDw : ∀ n ∈ (D i).weights Try.prog 57, n ≤ reachBytes := fun q hq => hw q (by
        simp only [DataW.weights, Try.underlying25, List.mem_cons, List.mem_append]
        exact .inr (.inl (weights_mem_all (List.mem_map.2 ⟨i, List.mem_range.2 hi, rfl⟩) q hq)))
      match xs, hxl, cs', hcl with
      | [y0, y1, y2], _, [v0, v1, v2], _ =>
        have g0 := hfs 0 _ rfl
        have g1 := hfs 1 _ rfl
        have g2 := hfs 2 _ rfl
        simp [cellsInt, cellsInts] at g0 g1 g2
        simp only [Prod.mk.injEq] at hxy
        have hw1 : ∀ n ∈ y1.1.weights Try.prog 24, n ≤ reachBytes := fun q hq => hDw q (by
          rw [hxy.1]
          simp only [DataW.weights, Try.underlying57]
          exact DataW.weights_mem_each (j := 1) (t := 24) (d := y1.1) rfl rfl q hq)
        obtain ⟨z0, e0, _, w0⟩ := DataW.trod_int Try.underlying3 g0
        obtain ⟨la, l, lc, e1, hints, hll, hlc, hnil, hwl⟩ := open_ints_in g1 hw1
        obtain ⟨z2, e2, _, w2⟩ := DataW.trod_int Try.underlying3 g2
        simp only [List.cons.injEq, and_true] at e0 e1 e2
        subst e0 e1 e2
        have c0 := hcell 0 (by omega)
        have c1 := hcell 1 (by omega)
        have c2 := hcell 2 (by omega)
        rw [Deep.add_add] at c0 c1 c2
        obtain ⟨b, off, spot⟩ := ad
        have hs : spot = none := by
          obtain ⟨cs0, h10, _⟩ := heach 0 (by omega)
          obtain ⟨_, hcl0, hcell0⟩ := World.cells?_some h10
          have q0 := hcell0 0 (by omega)
          rw [List.getElem?_eq_getElem (by omega)] at q0
          simpa [Addr.add] using World.cell?_spot q0
        subst hs
        rw [add_plain] at c0 c1 c2
        exact ⟨(z0, z2, l, la, lc), b, off, rfl, ⟨by simpa using c0, by simpa [Nat.add_assoc] using c1, by simpa [Nat.add_assoc] using c2, hints, fun h => (hnil h).2, hll⟩, hlc, w0, w2, hwl⟩
    obtain ⟨S, hS⟩ := choose_lt (α := Int × Int × List Int × Option Addr × Nat) each
    refine ⟨some ad, len, cap, fun i => (S i).1, fun i => (S i).2.1, fun i => (S i).2.2.1, fun i => (S i).2.2.2.1, fun i => (S i).2.2.2.2, hcs, ?_, hlen, hl, fun h => (by cases h), fun i hi => ?_⟩
    · by_cases h0 : len = 0
      · exact .inl h0
      · obtain ⟨b, off, rfl, _⟩ := hS 0 (by omega)
        refine .inr ⟨b, off, rfl, fun i hi => ?_⟩
        obtain ⟨b', off', e, r, _⟩ := hS i hi
        simp only [Addr.mk.injEq, and_true] at e
        obtain ⟨rfl, rfl⟩ := e
        exact r
    · obtain ⟨_, _, _, _, r⟩ := hS i hi
      exact r

/-- What else is known of a grammar that came in. -/
structure GIn (ta la : Option Addr) (tc lc : Nat) (ts : List (ByteArray × Int)) (lv : List Int) (n : Nat) (L : Nat → Int) (R : Nat → List Int) (rc : Nat → Nat) (V : Nat → Int) (st : Int) (ns : List ByteArray) : Prop where
  tn : ts.length ≤ 5864062014805
  nn : ns.length ≤ 8796093022208
  pn : n ≤ 3518437208883
  tnil : ta = none → ts.length = 0 ∧ tc = 0
  lnil : la = none → lv.length = 0 ∧ lc = 0
  lcap : lv.length ≤ lc
  rcap : ∀ i, i < n → (R i).length ≤ rc i
  lvl : ∀ t ∈ ts, (Lit.int .i64 t.2).wf = true ∧ t.1.size ≤ 140737488355328
  nsz : ∀ s ∈ ns, s.size ≤ 140737488355328
  lvw : ∀ z ∈ lv, (Lit.int .i64 z).wf = true
  stw : (Lit.int .i64 st).wf = true
  prw : ∀ i, i < n → (Lit.int .i64 (L i)).wf = true ∧ (Lit.int .i64 (V i)).wf = true ∧ ∀ z ∈ R i, (Lit.int .i64 z).wf = true

set_option maxRecDepth 100000 in
theorem open_gram {base : Nat} {v : Value} {d : DataW H} {p : List MemPlace} (hv : Value.okWide Try.prog W .any base 27 v) (h : DataW.Trod enc Try.prog W 0 (fun _ => true) true 27 v d p) (hw : ∀ n ∈ d.weights Try.prog 27, n ≤ reachBytes) :
    ∃ ta na la pa tc nc lc pc ts ns lv n L R ra rc V st, v = .agg #[.slice ta ts.length tc, .slice na ns.length nc, .slice la lv.length lc, .int .i64 st, .slice pa n pc] ∧ GAt W ta na la pa tc nc lc pc ts ns lv n L R ra rc V ∧ GIn ta la tc lc ts lv n L R rc V st ns := by
  obtain ⟨cs, rfl, hsz⟩ := okWide_struct Try.underlying27 hv
  obtain ⟨fuel, hf⟩ := h
  obtain ⟨xs, k, hk, hxy, hcl, hxl, hfs⟩ := DataW.trod_struct Try.underlying27 hf
  rw [cellsGram] at hsz
  obtain ⟨l, rfl⟩ : ∃ l : List Value, cs = l.toArray := ⟨cs.toList, by simp⟩
  simp only [Value.cells] at hfs hcl
  have hl : l.length = 5 := by simpa using hsz
  match xs, hxl, l, hl with
  | [y0, y1, y2, y3, y4], _, [v0, v1, v2, v3, v4], _ =>
    have g0 := hfs 0 _ rfl
    have g1 := hfs 1 _ rfl
    have g2 := hfs 2 _ rfl
    have g3 := hfs 3 _ rfl
    have g4 := hfs 4 _ rfl
    simp [cellsInt, cellsInts, cellsTerms, cellsStrs, cellsProds] at g0 g1 g2 g3 g4
    simp only [Prod.mk.injEq] at hxy
    have hwj : ∀ (j : Nat) (t : TypeId) (y : DataW H × List MemPlace), ((Try.prog.fieldsOf 27).toList.map (·.type))[j]? = some t → ([y0, y1, y2, y3, y4].map (·.1))[j]? = some y.1 → ∀ n ∈ y.1.weights Try.prog t, n ≤ reachBytes := fun j t y h1 h2 q hq => hw q (by
      rw [hxy.1]
      simp only [DataW.weights, Try.underlying27]
      simp only [Program.fieldsOf, Try.underlying27] at h1
      exact DataW.weights_mem_each (j := j) (t := t) (d := y.1) h1 h2 q hq)
    have hw0 := hwj 0 22 y0 (by kernel_rfl) rfl
    have hw1 := hwj 1 23 y1 (by kernel_rfl) rfl
    have hw2 := hwj 2 24 y2 (by kernel_rfl) rfl
    have hw4 := hwj 4 25 y4 (by kernel_rfl) rfl
    obtain ⟨ta, ts, tc, e0, hT, hTl, hTc, hTn, hTw⟩ := open_terms_in g0 hw0
    obtain ⟨na, ns, nc, e1, hN, hNl, hNc, hNn, hNs⟩ := open_strs_in g1 hw1
    obtain ⟨la, lv, lc, e2, hL, hLl, hLc, hLn, hLw⟩ := open_ints_in g2 hw2
    obtain ⟨st, e3, _, w3⟩ := DataW.trod_int Try.underlying3 g3
    obtain ⟨pa, n, pc, L, V, R, ra, rc, e4, hP, hPl, hPc, hPn, hPw⟩ := open_prods_in g4 hw4
    simp only [List.cons.injEq, and_true] at e0 e1 e2 e3 e4
    subst e0 e1 e2 e3 e4
    exact ⟨ta, na, la, pa, tc, nc, lc, pc, ts, ns, lv, n, L, R, ra, rc, V, st, rfl, ⟨hT, hN, hL, hP, hTc, hNc, hPc, hNn, hPn, by omega, by omega, by omega, by omega⟩, hTl, hNl, hPl, hTn, hLn, hLc, fun i hi => (hPw i hi).1, hTw, hNs, hLw, w3, fun i hi => (hPw i hi).2⟩
end

end Go.Proofs.Ytkcdipnobgggkaa

/-
  trans: what the laws' theorems share.
-/
namespace Go.Proofs.Ytkcdipnobgggkaa.J
open Go.ChangeShapes Go.WideShapes Go.ChangeAt Go.RowKit Go.Deep

theorem own : ownKnob Try.prog.godebug = none := by kernel_rfl
theorem laidOut : laidOutB Try.prog = true := by kernel_rfl

end Go.Proofs.Ytkcdipnobgggkaa.J

/-
  trans: the ways of Rights and Lefts, pure.
-/
namespace Go.Proofs.Ytkcdipnobgggkaa.J
open Go.RowKit Go.Maps Go.Shelf

/-- A kernel of a state but the first has begun items alone. -/
def PB (n : Nat) (R : Nat → List Int) (j : Nat) (k : List It) : Prop := PJ n R j k ∧ (j = 0 ∨ ∀ x ∈ k, 0 < x.2)
theorem CLo_item {tn n : Nat} {L : Nat → Int} {R : Nat → List Int} {k : List It} (hk : ∀ x ∈ k, itB n R x = true) : ∀ x ∈ CLo tn n L R k, itB n R x = true := by
  unfold CLo
  by_cases hh : ∃ l, IsClo tn n L R k l ∧ l.length ≤ k.length + 13000
  · rw [dif_pos hh]
    have h1 := Classical.choose_spec hh
    exact fun x hx => ((h1.1.mem x).1 hx).item hk
  · rw [dif_neg hh]
    exact fun x hx => absurd hx (by simp)
theorem mem_GG {tn n : Nat} {L : Nat → Int} {R : Nat → List Int} {k : List It} {s : Nat} {x : It} : x ∈ GG tn n L R k s ↔ ∃ y ∈ CLo tn n L R k, aheadV R y = (s : Int) ∧ (y.1, y.2 + 1) = x := by
  unfold GG kerT
  rw [List.mem_map]
  constructor
  · rintro ⟨y, hy, rfl⟩
    obtain ⟨h1, h2⟩ := List.mem_filter.1 hy
    exact ⟨y, h1, by simpa using h2, rfl⟩
  · rintro ⟨y, hy, h, rfl⟩
    exact ⟨y, List.mem_filter.2 ⟨hy, by simpa using h⟩, rfl⟩
theorem PB.GG {tn n : Nat} {L : Nat → Int} {R : Nat → List Int} {i m : Nat} {k : List It} (s : Nat) (h : PB n R i k) (hm : i < m) : PB n R m (GG tn n L R k s) := by
  refine ⟨h.1.GG s hm, .inr fun x hx => ?_⟩
  obtain ⟨y, hy, _, rfl⟩ := mem_GG.1 hx
  have h1 := CLo_item h.1.1 y hy
  unfold itB at h1
  simp only [Bool.and_eq_true, decide_eq_true_eq] at h1
  simp only
  omega
theorem begun_state {tn nn n : Nat} {L : Nat → Int} {R : Nat → List Int} (hn0 : 0 < n) {ks : List (List It)} {es : List (List (Nat × Nat))} (h : autoF (GG tn n L R) (tn + nn) 256 = some (ks, es)) {q : Nat} (hq : q < ks.length) : q = 0 ∨ ∀ x ∈ ks.getD q [], 0 < x.2 :=
  ((autoOK (P := PB n R) ⟨⟨fun x hx => by
    rw [List.mem_singleton.1 hx]
    unfold itB
    simp only [Bool.and_eq_true, decide_eq_true_eq]
    exact ⟨⟨⟨by omega, by omega⟩, by omega⟩, by omega⟩, by simp⟩, .inl rfl⟩ (fun _ _ _ s hp hm => hp.GG s hm) 256 h).kok.each q hq).2

section
variable {tn nn n : Nat} {L : Nat → Int} {R : Nat → List Int} {ks : List (List It)} {es : List (List (Nat × Nat))}
theorem edge_of (h : AutF (GG tn n L R) n R (tn + nn) ks es) {q s : Nat} (hq : q < ks.length) (hs : s < tn + nn) (hk : GG tn n L R (ks.getD q []) s ≠ []) : ∃ t : Nat, t < ks.length ∧ leadA es ((q : Int), (s : Int)) = some (t : Int) ∧ ks.getD t [] = GG tn n L R (ks.getD q []) s := by
  have h1 : s ∈ (es.getD q []).map Prod.fst := by rw [h.fst q hq]; exact mem_symsT.2 ⟨hs, hk⟩
  obtain ⟨e, he, rfl⟩ := List.mem_map.1 h1
  obtain ⟨t, h2, e', he', h3, h4⟩ := nextL_some he
  obtain ⟨_, h5, h6⟩ := h.snd q hq e' he'
  refine ⟨t, by rw [← h4]; exact h5, by rw [leadA_at es (by rw [h.len]; exact hq)]; exact h2, ?_⟩
  rw [← h4, h6, h3]
theorem no_edge (h : AutF (GG tn n L R) n R (tn + nn) ks es) {q s : Nat} (hq : q < ks.length) (hk : GG tn n L R (ks.getD q []) s = []) : leadA es ((q : Int), (s : Int)) = none := by
  rw [leadA_at es (by rw [h.len]; exact hq)]
  cases hn : nextL (es.getD q []) (s : Int) with
  | none => rfl
  | some v =>
    obtain ⟨x, hx, h1, _⟩ := nextL_mem hn
    have h2 : x.1 ∈ (es.getD q []).map Prod.fst := List.mem_map.2 ⟨x, hx, rfl⟩
    rw [h.fst q hq] at h2
    have h3 := (mem_symsT.1 h2).2
    rw [show x.1 = s by omega] at h3
    exact absurd hk h3
/-- An item that is not completed goes on. -/
theorem goes_on (h : AutF (GG tn n L R) n R (tn + nn) ks es) (hR : ∀ k, k < n → ∀ x ∈ R k, (0 : Int) < x ∧ x < ((tn + nn : Nat) : Int)) {q P d : Nat} (hq : q < ks.length) (hP : P < n) (hd : d < (R P).length) (hx : ((P : Int), (d : Int)) ∈ CLo tn n L R (ks.getD q [])) : ∃ t : Nat, t < ks.length ∧ leadA es ((q : Int), (R P).getD d 0) = some (t : Int) ∧ ((P : Int), ((d + 1 : Nat) : Int)) ∈ ks.getD t [] := by
  have hm : (R P).getD d 0 ∈ R P := by
    generalize R P = l at hd ⊢
    rw [List.getD_eq_getElem?_getD, List.getElem?_eq_getElem hd]; exact List.getElem_mem hd
  have h1 := hR P hP _ hm
  obtain ⟨s, hs⟩ : ∃ s : Nat, (R P).getD d 0 = (s : Int) := ⟨((R P).getD d 0).toNat, by omega⟩
  have ha : aheadV R ((P : Int), (d : Int)) = (s : Int) := by
    unfold aheadV
    rw [if_neg (by simp only [Int.toNat_natCast]; omega)]
    simp only [Int.toNat_natCast]
    exact hs
  have hg : ((P : Int), ((d + 1 : Nat) : Int)) ∈ GG tn n L R (ks.getD q []) s := mem_GG.2 ⟨_, hx, ha, by simp⟩
  obtain ⟨t, h2, h3, h4⟩ := edge_of (s := s) h hq (by rw [hs] at h1; omega) (fun e => by rw [e] at hg; cases hg)
  exact ⟨t, h2, by rw [hs]; exact h3, by rw [h4]; exact hg⟩
/-- A Right leads where it is completed. -/
theorem right_way (h : AutF (GG tn n L R) n R (tn + nn) ks es) (hR : ∀ k, k < n → ∀ x ∈ R k, (0 : Int) < x ∧ x < ((tn + nn : Nat) : Int)) (hCl : ∀ q, q < ks.length → IsClo tn n L R (ks.getD q []) (CLo tn n L R (ks.getD q []))) {q P : Nat} (hq : q < ks.length) (hP : P < n) (hx : ((P : Int), (0 : Int)) ∈ CLo tn n L R (ks.getD q [])) : ∀ d, d ≤ (R P).length → ∃ t : Nat, t < ks.length ∧ wayF es (some (q : Int)) ((R P).take d) = some (t : Int) ∧ ((P : Int), (d : Int)) ∈ CLo tn n L R (ks.getD t [])
  | 0, _ => ⟨q, hq, rfl, hx⟩
  | d + 1, hd => by
    obtain ⟨t, h1, h2, h3⟩ := right_way h hR hCl hq hP hx d (by omega)
    obtain ⟨u, h4, h5, h6⟩ := goes_on h hR h1 hP (by omega) h3
    refine ⟨u, h4, ?_, ((hCl u h4).mem _).2 (Clo.base h6)⟩
    rw [wayF_take es (by omega), h2]
    exact h5
/-- A Left leads somewhere. -/
theorem left_edge (h : AutF (GG tn n L R) n R (tn + nn) ks es) (hb : ∀ q, q < ks.length → q = 0 ∨ ∀ x ∈ ks.getD q [], 0 < x.2) (hCl : ∀ q, q < ks.length → IsClo tn n L R (ks.getD q []) (CLo tn n L R (ks.getD q []))) (hL : ∀ k, k < n → (tn : Int) ≤ L k ∧ L k < ((tn + nn : Nat) : Int)) {q P : Nat} (hq : q < ks.length) (hP : P < n) (hP0 : P ≠ 0) (hx : ((P : Int), (0 : Int)) ∈ CLo tn n L R (ks.getD q [])) : ∃ t : Nat, t < ks.length ∧ leadA es ((q : Int), L P) = some (t : Int) := by
  have key : ∀ y, Clo tn n L R (ks.getD q []) y → y ∈ CLo tn n L R (ks.getD q []) ∧ (y.2 = 0 → y.1 ≠ 0 → ∃ z ∈ CLo tn n L R (ks.getD q []), aheadV R z = L y.1.toNat) := fun y hy => hy (fun y => y ∈ CLo tn n L R (ks.getD q []) ∧ (y.2 = 0 → y.1 ≠ 0 → ∃ z ∈ CLo tn n L R (ks.getD q []), aheadV R z = L y.1.toNat))
    (fun y hy => ⟨((hCl q hq).mem y).2 (Clo.base hy), fun h1 h2 => by
      rcases hb q hq with h3 | h3
      · subst h3
        rw [h.head] at hy
        rw [List.mem_singleton.1 hy] at h2
        exact absurd rfl h2
      · have := h3 y hy
        omega⟩)
    (fun y k hy ht hk hl => ⟨((hCl q hq).mem _).2 ((((hCl q hq).mem y).1 hy.1).step ht hk hl), fun _ _ => ⟨y, hy.1, by simp only [Int.toNat_natCast]; exact hl.symm⟩⟩)
  obtain ⟨_, h1⟩ := key _ (((hCl q hq).mem _).1 hx)
  obtain ⟨z, hz, h2⟩ := h1 rfl (by simp only; omega)
  simp only [Int.toNat_natCast] at h2
  have h3 := hL P hP
  obtain ⟨s, hs⟩ : ∃ s : Nat, L P = (s : Int) := ⟨(L P).toNat, by omega⟩
  have hg : (z.1, z.2 + 1) ∈ GG tn n L R (ks.getD q []) s := mem_GG.2 ⟨z, hz, by rw [h2, hs], rfl⟩
  obtain ⟨t, h4, h5, _⟩ := edge_of (s := s) h hq (by rw [hs] at h3; omega) (fun e => by rw [e] at hg; cases hg)
  exact ⟨t, h4, by rw [hs]; exact h5⟩
/-- The added one leads nowhere. -/
theorem left_none (h : AutF (GG tn n L R) n R (tn + nn) ks es) (hNo : ∀ k, k < n → ∀ x ∈ R k, x ≠ (tn : Int)) {q : Nat} (hq : q < ks.length) : leadA es ((q : Int), (tn : Int)) = none := by
  refine no_edge h hq (List.eq_nil_iff_forall_not_mem.2 fun x hx => ?_)
  obtain ⟨y, hy, h1, _⟩ := mem_GG.1 hx
  have h2 := CLo_item (h.kok.each q hq).1 y hy
  unfold itB at h2
  simp only [Bool.and_eq_true, decide_eq_true_eq] at h2
  obtain ⟨⟨⟨a1, a2⟩, a3⟩, a4⟩ := h2
  unfold aheadV at h1
  by_cases e : y.2 = ((R y.1.toNat).length : Int)
  · rw [if_pos e] at h1; omega
  · rw [if_neg e] at h1
    have hl : y.2.toNat < (R y.1.toNat).length := by omega
    refine hNo y.1.toNat (by omega) ((R y.1.toNat).getD y.2.toNat 0) ?_ h1
    generalize R y.1.toNat = l at hl ⊢
    rw [List.getD_eq_getElem?_getD, List.getElem?_eq_getElem hl]; exact List.getElem_mem hl
end
/-- The added nonterminal stands in no Right. -/
theorem no_added {ts : List (ByteArray × Int)} {ns : List ByteArray} {lv : List Int} {st : Int} {n : Nat} {L : Nat → Int} {R : Nat → List Int} {V : Nat → Int} (h : closedOK ts ns lv st n L R V) : ∀ k, k < n → ∀ x ∈ R k, x ≠ (ts.length : Int) := by
  obtain ⟨ha, hf⟩ := h
  have hs := hf.start
  unfold isNonI at hs
  intro k hk x hx
  by_cases h0 : k = 0
  · subst h0
    rw [ha.right] at hx
    simp at hx
    omega
  · have := (hf.prods k (by omega) hk).2.2 x hx
    unfold isSymI isNonI at this
    omega

end Go.Proofs.Ytkcdipnobgggkaa.J
