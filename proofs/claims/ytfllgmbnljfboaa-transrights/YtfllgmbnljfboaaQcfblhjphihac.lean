/-
  trans: automatonOf of any grammar; the law's awake.
-/
import Derived.Test.YtfllgmbnljfboaaQladkgiiaicgk
namespace Go.Proofs.Ytfllgmbnljfboaa.J
open Go.RowKit Go.Maps Go.Shelf

attribute [local go_sem] Oper.semAt_some

theorem esOK_of {G : List It → Nat → List It} {n : Nat} {R : Nat → List Int} {S : Nat} {ks : List (List It)} {es : List (List (Nat × Nat))} (h : AutF G n R S ks es) (hS : S ≤ 130) : EsOK ks es :=
  ⟨h.kok.le, h.len, fun q hq => ⟨by rw [h.elen hq]; exact Nat.le_trans (symsT_len _ _) hS, by rw [h.fst q hq]; exact symsT_nodup _ _, fun x hx => by
    have := h.snd q hq x hx
    omega⟩⟩

section
variable (ta na la pa : Option Addr) (tc nc lc pc : Nat) (ts : List (ByteArray × Int)) (ns : List ByteArray) (lv : List Int) (n : Nat) (L : Nat → Int) (R : Nat → List Int) (ra : Nat → Option Addr) (rc : Nat → Nat) (V : Nat → Int) (st : Int) (w : World) (tn nn ln : Nat) (hlen : ts.length = tn ∧ ns.length = nn ∧ lv.length = ln) (hG : GAt w ta na la pa tc nc lc pc ts ns lv n L R ra rc V)
include hlen hG
theorem ofBad1 (hc : ¬ closedOK ts ns lv st n L R V) : OfBad ta na la pa tc nc lc pc n st w tn nn ln 1 := fun X hX =>
  of_bad ta na la pa tc nc lc pc n st X tn nn ln 1 (.inl rfl) fun Y hY => buildBad ta na la pa tc nc lc pc ts ns lv n L R ra rc V st Y tn nn ln hlen (hG.kept (grown_trans hX hY)) hc
theorem ofBad11 (hc : closedOK ts ns lv st n L R V) (h : autoF (GG tn n L R) (tn + nn) 256 = none) : OfBad ta na la pa tc nc lc pc n st w tn nn ln 11 := fun X hX =>
  of_bad ta na la pa tc nc lc pc n st X tn nn ln 11 (.inr rfl) fun Y hY => build_none ta na la pa tc nc lc pc ts ns lv n L R ra rc V st w tn nn ln hlen hG hc h Y (grown_trans hX hY)
theorem ofOk (hc : closedOK ts ns lv st n L R V) {ks : List (List It)} {es : List (List (Nat × Nat))} (h : autoF (GG tn n L R) (tn + nn) 256 = some (ks, es)) : OfOk ta na la pa tc nc lc pc n st w tn nn ln ks es ∧ EsOK ks es := by
  have hM : MayOK tn nn n st L R true := by obtain ⟨rfl, rfl, rfl⟩ := hlen; exact mayOK_closed hc
  have hE : EsOK ks es := esOK_of (autF hM.p0 h) (by have := hM.tmax; have := hM.nmax; omega)
  refine ⟨fun X hX => of_ok ta na la pa tc nc lc pc n st X tn nn ln (askN es) ks es hE.le hE.len (fun q hq => ⟨(hE.each q hq).1, (hE.each q hq).2.1, fun x hx => by have := (hE.each q hq).2.2 x hx; have := hE.le; omega⟩) fun Y hY => ?_, hE⟩
  refine (build_some ta na la pa tc nc lc pc ts ns lv n L R ra rc V st w tn nn ln hlen hG hc h Y (grown_trans hX hY)).mono ?_
  rintro e y ⟨sa, sc, kv, ev, he, hAP, hg⟩
  exact ⟨sa, sc, kv, ev, he, hAP.base hY.size, hg⟩
end

theorem k_ggT : autoF (GG 3 3 kL kR) 5 256 = some (kKs, kEs) := by
  have h : ∀ k ∈ kKs, IsClo 3 3 kL kR k (CLo 3 3 kL kR k) := fun k hk => by
    have h1 := k_clo k hk
    rw [CLo_eq h1 (by
      simp only [kKs, List.mem_cons, List.not_mem_nil, or_false] at hk
      rcases hk with rfl | rfl | rfl | rfl | rfl <;> decide)]
    exact h1
  exact k_auto h
theorem k_trT : trT 3 kEs 5 = [(0, 4)] := by decide
theorem k_way : wayF kEs (some 0) [4, 1, 2] = some 4 := by decide
theorem k_dir : dirOf 3 4 kEs (0, 4) = [0, 1] := by decide

set_option maxRecDepth 100000 in
set_option maxHeartbeats 2000000 in
theorem awake_any (w : World) : Calls Try.prog 8 #[] w fun e w' => e = .returned (.bool true) ∧ w.grownBy w' none := by
  have hE : ∀ X : World, (binOp .eql 62 (.agg #[.int .i64 0, .int .i64 4]) (.agg #[.int .i64 0, .int .i64 4])).run Try.prog X = .ok (.bool true) X := fun X => eq_trans 0 4 0 4 X
  go_enter Try.func8, Try.ntmps8
  go_wp2_with fail
  refine Calls.mono (small_any w) ?_
  rintro e w1 ⟨b1, b2, b6, ra, rc, rfl, hG1, hg1⟩
  obtain ⟨hOf, hEs⟩ := ofOk (some ⟨b1, 0, none⟩) (some ⟨b2, 0, none⟩) none (some ⟨b6, 0, none⟩) 3 2 0 3 kTs kNs [] 3 kL kR ra rc (fun _ => 0) 4 w1 3 2 0 ⟨rfl, rfl, rfl⟩ hG1 k_closed k_ggT
  have HOF : Hid (OfOk (some ⟨b1, 0, none⟩) (some ⟨b2, 0, none⟩) none (some ⟨b6, 0, none⟩) 3 2 0 3 3 4 w1 3 2 0 kKs kEs) := hOf
  have HES : Hid (EsOK kKs kEs) := hEs
  have HOX : Hid (∀ X, w1.grownBy X none → OfOk (some ⟨b1, 0, none⟩) (some ⟨b2, 0, none⟩) none (some ⟨b6, 0, none⟩) 3 2 0 3 3 4 X 3 2 0 kKs kEs) := fun X hX Y hY => HOF.out Y (grown_trans hX hY)
  have HLI : Hid (∀ X, w1.grownBy X none → Calls Try.prog 14 #[.agg #[.slice (some ⟨b1, 0, none⟩) 3 3, .slice (some ⟨b2, 0, none⟩) 2 2, .slice none 0 0, .int .i64 4, .slice (some ⟨b6, 0, none⟩) 3 3]] X fun e y => ∃ g c, e = .returned (.tuple #[.slice (some ⟨g, 0, none⟩) 1 c, .int .i64 0]) ∧ y.cell? ⟨g, 0, none⟩ = some (.int .i64 0) ∧ y.cell? ⟨g, 1, none⟩ = some (.int .i64 4) ∧ X.grownBy y none) := fun X hX => by
    refine (listX_ok _ _ _ _ _ _ _ _ 3 4 X 3 2 0 kKs kEs HES.out.le (fun q hq => (HES.out.each q hq).1) (HOX.out X hX)).mono ?_
    rintro e y ⟨a, c, rfl, ho, hg⟩
    have e1 : trT 3 kEs kKs.length = [(0, 4)] := k_trT
    rw [e1] at ho ⊢
    obtain ⟨g, c2, he, hcell⟩ := owns_at ho (by decide)
    simp only [Value.slice.injEq] at he
    obtain ⟨rfl, _, rfl⟩ := he
    exact ⟨g, c, rfl, hcell 0 _ rfl, hcell 1 _ rfl, hg⟩
  have HWA : Hid (∀ X b, w1.grownBy X none → IntsAt X (some ⟨b, 0, none⟩) [4, 1, 2] → Calls Try.prog 10 #[.agg #[.slice (some ⟨b1, 0, none⟩) 3 3, .slice (some ⟨b2, 0, none⟩) 2 2, .slice none 0 0, .int .i64 4, .slice (some ⟨b6, 0, none⟩) 3 3], .int .i64 0, .slice (some ⟨b, 0, none⟩) 3 3] X fun e y => e = .returned (.tuple #[.int .i64 4, .int .i64 0]) ∧ X.grownBy y none) := fun X b hX hI => by
    have h := walkX_ok _ _ _ _ 3 2 0 3 3 4 X 3 2 0 kKs kEs (by decide) (by decide) HES.out.le HES.out.ok (HOX.out X hX) 0 (by decide) (some ⟨b, 0, none⟩) 3 [4, 1, 2] hI (by decide) (by decide)
    have e1 : wayV (wayF kEs (some ((0 : Nat) : Int)) [4, 1, 2]) = 4 := by rw [show ((0 : Nat) : Int) = 0 from rfl, k_way]; rfl
    rw [e1] at h
    exact h
  have HDI : Hid (∀ X, w1.grownBy X none → Calls Try.prog 18 #[.agg #[.slice (some ⟨b1, 0, none⟩) 3 3, .slice (some ⟨b2, 0, none⟩) 2 2, .slice none 0 0, .int .i64 4, .slice (some ⟨b6, 0, none⟩) 3 3]] X fun e y => ∃ rb a c, e = .returned (.tuple #[.slice (some ⟨rb, 0, none⟩) 1 1, .int .i64 0]) ∧ y.cell? ⟨rb, 0, none⟩ = some (.slice a 2 c) ∧ X.grownBy y none) := fun X hX => by
    refine (directX_ok _ _ _ _ 3 2 0 3 3 4 X 3 2 0 kKs kEs HES.out (HOX.out X hX)).mono ?_
    rintro e y ⟨rb, ua, uc, rfl, hv, _, hg⟩
    have e1 : trT 3 kEs kKs.length = [(0, 4)] := k_trT
    rw [e1] at hv ⊢
    have h1 := hv.cell 0 (by decide)
    rw [show ([((0 : Int), (4 : Int))] : List It).getD 0 (0, 0) = (0, 4) from rfl, k_dir] at h1
    exact ⟨rb, ua 0, uc 0, rfl, h1, hg⟩
  obtain ⟨gb, hgb⟩ : ∃ gb, gb = w1.heap.size := ⟨_, rfl⟩
  obtain ⟨X1, hX1⟩ : ∃ X1, X1 = w1.alloc (.cells #[.slice (some ⟨b1, 0, none⟩) 3 3, .slice (some ⟨b2, 0, none⟩) 2 2, .slice none 0 0, .int .i64 4, .slice (some ⟨b6, 0, none⟩) 3 3] 27) := ⟨_, rfl⟩
  have HP1 : Hid (PhAt w1 X1 gb #[.slice (some ⟨b1, 0, none⟩) 3 3, .slice (some ⟨b2, 0, none⟩) 2 2, .slice none 0 0, .int .i64 4, .slice (some ⟨b6, 0, none⟩) 3 3]) := ⟨by rw [hX1]; exact World.grownBy_alloc _ _ none, by rw [hX1, hgb]; exact heap_alloc_last w1 _⟩
  have HGW : Hid (w.grownBy w1 none) := hg1
  have HXE := show Hid _ from hX1
  have HGE := show Hid _ from hgb
  clear hG1 hg1 hX1 hgb hOf hEs HOF HOX HES
  go_wp2_with fail
  rw [← HXE.out, ← HGE.out]
  refine Calls.mono (HLI.out X1 HP1.out.grown) ?_
  rintro e w2 ⟨g2, c2, rfl, r0, r1, hg2⟩
  have HP2 : Hid (PhAt w1 w2 gb #[.slice (some ⟨b1, 0, none⟩) 3 3, .slice (some ⟨b2, 0, none⟩) 2 2, .slice none 0 0, .int .i64 4, .slice (some ⟨b6, 0, none⟩) 3 3]) := HP1.out.kept hg2
  clear hg2 HP1 HXE HGE HLI
  obtain ⟨k0, k1, k2, k3, k4⟩ := HP2.out.cells
  have HWC : Hid (Calls Try.prog 10 #[.agg #[.slice (some ⟨b1, 0, none⟩) 3 3, .slice (some ⟨b2, 0, none⟩) 2 2, .slice none 0 0, .int .i64 4, .slice (some ⟨b6, 0, none⟩) 3 3], .int .i64 0, .slice (some ⟨w2.heap.size, 0, none⟩) 3 3] (w2.alloc (.cells #[.int .i64 4, .int .i64 1, .int .i64 2] 3)) fun e y => e = .returned (.tuple #[.int .i64 4, .int .i64 0]) ∧ (w2.alloc (.cells #[.int .i64 4, .int .i64 1, .int .i64 2] 3)).grownBy y none) := HWA.out _ _ (grown_trans HP2.out.grown (World.grownBy_alloc _ _ none)) (.inr ⟨w2.heap.size, 0, rfl, fun i hi => by
    have h2 : i = 0 ∨ i = 1 ∨ i = 2 := by simp at hi; omega
    rcases h2 with rfl | rfl | rfl <;> (rw [cell_of_row _ _ _ _ _ _ (heap_alloc_last w2 _)]; rfl)⟩)
  go_wp2_with fail
  refine Calls.mono HWC.out ?_
  rintro e w3 ⟨rfl, hg3⟩
  have HP3 : Hid (PhAt w1 w3 gb #[.slice (some ⟨b1, 0, none⟩) 3 3, .slice (some ⟨b2, 0, none⟩) 2 2, .slice none 0 0, .int .i64 4, .slice (some ⟨b6, 0, none⟩) 3 3]) := HP2.out.kept (grown_trans (World.grownBy_alloc _ _ none) hg3)
  have r0' := hg3.cell ((World.grownBy_alloc w2 (.cells #[.int .i64 4, .int .i64 1, .int .i64 2] 3) none).cell r0 (by simp)) (by simp)
  have r1' := hg3.cell ((World.grownBy_alloc w2 (.cells #[.int .i64 4, .int .i64 1, .int .i64 2] 3) none).cell r1 (by simp)) (by simp)
  clear hg3 HP2 HWC HWA k0 k1 k2 k3 k4 r0 r1
  obtain ⟨k0, k1, k2, k3, k4⟩ := HP3.out.cells
  go_wp2_with fail
  refine Calls.mono (HDI.out w3 HP3.out.grown) ?_
  rintro e w4 ⟨rb, a4, c4, rfl, y0, hg4⟩
  have q0 := hg4.cell r0' (by simp)
  have q1 := hg4.cell r1' (by simp)
  have HG4 : Hid (w.grownBy w4 none) := grown_trans HGW.out (grown_trans HP3.out.grown hg4)
  clear hg4 HP3 HDI k0 k1 k2 k3 k4 r0' r1' HGW
  go_wp2_with fail
  go_ret
  exact ⟨rfl, HG4.out⟩

end Go.Proofs.Ytfllgmbnljfboaa.J
