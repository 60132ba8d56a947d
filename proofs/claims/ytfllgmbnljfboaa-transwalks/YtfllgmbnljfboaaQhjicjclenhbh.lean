import Derived.Test.YtfllgmbnljfboaaQlegdgnfmbeae
import Derived.Test.YtfllgmbnljfboaaQgncnonocnjga
import Derived.Test.YtfllgmbnljfboaaQnpnepoeceloe
import Derived.Deep.RegionHeld3

/-
  trans: automatonOf of any grammar; the law's awake.
-/
namespace Go.Proofs.Ytfllgmbnljfboaa.J
open Go.RowKit Go.Maps Go.Shelf

attribute [local go_sem] Oper.semAt_some

theorem esOK_of {G : List It → Nat → List It} {n : Nat} {R : Nat → List Int} {S : Nat} {ks : List (List It)} {es : List (List (Nat × Nat))} (h : AutF G n R S ks es) (hS : S ≤ 130) : EsOK ks es :=
  ⟨h.kok.le, h.len, fun q hq => ⟨by rw [h.elen hq]; exact Nat.le_trans (symsT_len _ _) hS, by rw [h.fst q hq]; exact symsT_nodup _ _, fun x hx => by
    have := h.snd q hq x hx
    omega⟩⟩

section
variable (ta na la pa : Option Addr) (tc nc lc pc : Nat) (ts : List (ByteArray × Int)) (ns : List ByteArray) (lv : List Int) (n : Nat) (L : Nat → Int) (R : Nat → List Int) (ra : Nat → Option Addr) (rc : Nat → Nat) (V : Nat → Int) (st : Int) (w : World) (tn nn ln : Nat) (hlen : ts.length = tn ∧ ns.length = nn ∧ lv.length = ln) (hG : GAt w ta na la pa tc nc lc pc ts ns lv n L R ra rc V)
include hlen hG
theorem ofBad1 (hc : ¬ closedOK ts ns lv st n L R V) : OfBad ta na la pa tc nc lc pc n st w tn nn ln 1 := fun X hX =>
  of_bad ta na la pa tc nc lc pc n st X tn nn ln 1 (.inl rfl) fun Y hY => buildBad ta na la pa tc nc lc pc ts ns lv n L R ra rc V st Y tn nn ln hlen (hG.kept (grown_trans hX hY)) hc
theorem ofBad11 (hc : closedOK ts ns lv st n L R V) (h : autoF (GG tn n L R) (tn + nn) 256 = none) : OfBad ta na la pa tc nc lc pc n st w tn nn ln 11 := fun X hX =>
  of_bad ta na la pa tc nc lc pc n st X tn nn ln 11 (.inr rfl) fun Y hY => build_none ta na la pa tc nc lc pc ts ns lv n L R ra rc V st w tn nn ln hlen hG hc h Y (grown_trans hX hY)
theorem ofOk (hc : closedOK ts ns lv st n L R V) {ks : List (List It)} {es : List (List (Nat × Nat))} (h : autoF (GG tn n L R) (tn + nn) 256 = some (ks, es)) : OfOk ta na la pa tc nc lc pc n st w tn nn ln ks es ∧ EsOK ks es := by
  have hM : MayOK tn nn n st L R true := by obtain ⟨rfl, rfl, rfl⟩ := hlen; exact mayOK_closed hc
  have hE : EsOK ks es := esOK_of (autF hM.p0 h) (by have := hM.tmax; have := hM.nmax; omega)
  refine ⟨fun X hX => of_ok ta na la pa tc nc lc pc n st X tn nn ln (askN es) ks es hE.le hE.len (fun q hq => ⟨(hE.each q hq).1, (hE.each q hq).2.1, fun x hx => by have := (hE.each q hq).2.2 x hx; have := hE.le; omega⟩) fun Y hY => ?_, hE⟩
  refine (build_some ta na la pa tc nc lc pc ts ns lv n L R ra rc V st w tn nn ln hlen hG hc h Y (grown_trans hX hY)).mono ?_
  rintro e y ⟨sa, sc, kv, ev, he, hAP, hg⟩
  exact ⟨sa, sc, kv, ev, he, hAP.base hY.size, hg⟩
end

theorem k_ggT : autoF (GG 3 3 kL kR) 5 256 = some (kKs, kEs) := by
  have h : ∀ k ∈ kKs, IsClo 3 3 kL kR k (CLo 3 3 kL kR k) := fun k hk => by
    have h1 := k_clo k hk
    rw [CLo_eq h1 (by
      simp only [kKs, List.mem_cons, List.not_mem_nil, or_false] at hk
      rcases hk with rfl | rfl | rfl | rfl | rfl <;> decide)]
    exact h1
  exact k_auto h
theorem k_trT : trT 3 kEs 5 = [(0, 4)] := by decide
theorem k_way : wayF kEs (some 0) [4, 1, 2] = some 4 := by decide
theorem k_dir : dirOf 3 4 kEs (0, 4) = [0, 1] := by decide

set_option maxRecDepth 100000 in
set_option maxHeartbeats 2000000 in
theorem awake_any (w : World) : Calls Try.prog 8 #[] w fun e w' => e = .returned (.bool true) ∧ w.grownBy w' none := by
  have hE : ∀ X : World, (binOp .eql 62 (.agg #[.int .i64 0, .int .i64 4]) (.agg #[.int .i64 0, .int .i64 4])).run Try.prog X = .ok (.bool true) X := fun X => eq_trans 0 4 0 4 X
  go_enter Try.func8, Try.ntmps8
  go_wp2_with fail
  refine Calls.mono (small_any w) ?_
  rintro e w1 ⟨b1, b2, b6, ra, rc, rfl, hG1, hg1⟩
  obtain ⟨hOf, hEs⟩ := ofOk (some ⟨b1, 0, none⟩) (some ⟨b2, 0, none⟩) none (some ⟨b6, 0, none⟩) 3 2 0 3 kTs kNs [] 3 kL kR ra rc (fun _ => 0) 4 w1 3 2 0 ⟨rfl, rfl, rfl⟩ hG1 k_closed k_ggT
  have HOF : Hid (OfOk (some ⟨b1, 0, none⟩) (some ⟨b2, 0, none⟩) none (some ⟨b6, 0, none⟩) 3 2 0 3 3 4 w1 3 2 0 kKs kEs) := hOf
  have HES : Hid (EsOK kKs kEs) := hEs
  have HOX : Hid (∀ X, w1.grownBy X none → OfOk (some ⟨b1, 0, none⟩) (some ⟨b2, 0, none⟩) none (some ⟨b6, 0, none⟩) 3 2 0 3 3 4 X 3 2 0 kKs kEs) := fun X hX Y hY => HOF.out Y (grown_trans hX hY)
  have HLI : Hid (∀ X, w1.grownBy X none → Calls Try.prog 14 #[.agg #[.slice (some ⟨b1, 0, none⟩) 3 3, .slice (some ⟨b2, 0, none⟩) 2 2, .slice none 0 0, .int .i64 4, .slice (some ⟨b6, 0, none⟩) 3 3]] X fun e y => ∃ g c, e = .returned (.tuple #[.slice (some ⟨g, 0, none⟩) 1 c, .int .i64 0]) ∧ y.cell? ⟨g, 0, none⟩ = some (.int .i64 0) ∧ y.cell? ⟨g, 1, none⟩ = some (.int .i64 4) ∧ X.grownBy y none) := fun X hX => by
    refine (listX_ok _ _ _ _ _ _ _ _ 3 4 X 3 2 0 kKs kEs HES.out.le (fun q hq => (HES.out.each q hq).1) (HOX.out X hX)).mono ?_
    rintro e y ⟨a, c, rfl, ho, hg⟩
    have e1 : trT 3 kEs kKs.length = [(0, 4)] := k_trT
    rw [e1] at ho ⊢
    obtain ⟨g, c2, he, hcell⟩ := owns_at ho (by decide)
    simp only [Value.slice.injEq] at he
    obtain ⟨rfl, _, rfl⟩ := he
    exact ⟨g, c, rfl, hcell 0 _ rfl, hcell 1 _ rfl, hg⟩
  have HWA : Hid (∀ X b, w1.grownBy X none → IntsAt X (some ⟨b, 0, none⟩) [4, 1, 2] → Calls Try.prog 10 #[.agg #[.slice (some ⟨b1, 0, none⟩) 3 3, .slice (some ⟨b2, 0, none⟩) 2 2, .slice none 0 0, .int .i64 4, .slice (some ⟨b6, 0, none⟩) 3 3], .int .i64 0, .slice (some ⟨b, 0, none⟩) 3 3] X fun e y => e = .returned (.tuple #[.int .i64 4, .int .i64 0]) ∧ X.grownBy y none) := fun X b hX hI => by
    have h := walkX_ok _ _ _ _ 3 2 0 3 3 4 X 3 2 0 kKs kEs (by decide) (by decide) HES.out.le HES.out.ok (HOX.out X hX) 0 (by decide) (some ⟨b, 0, none⟩) 3 [4, 1, 2] hI (by decide) (by decide)
    have e1 : wayV (wayF kEs (some ((0 : Nat) : Int)) [4, 1, 2]) = 4 := by rw [show ((0 : Nat) : Int) = 0 from rfl, k_way]; rfl
    rw [e1] at h
    exact h
  have HDI : Hid (∀ X, w1.grownBy X none → Calls Try.prog 18 #[.agg #[.slice (some ⟨b1, 0, none⟩) 3 3, .slice (some ⟨b2, 0, none⟩) 2 2, .slice none 0 0, .int .i64 4, .slice (some ⟨b6, 0, none⟩) 3 3]] X fun e y => ∃ rb a c, e = .returned (.tuple #[.slice (some ⟨rb, 0, none⟩) 1 1, .int .i64 0]) ∧ y.cell? ⟨rb, 0, none⟩ = some (.slice a 2 c) ∧ X.grownBy y none) := fun X hX => by
    refine (directX_ok _ _ _ _ 3 2 0 3 3 4 X 3 2 0 kKs kEs HES.out (HOX.out X hX)).mono ?_
    rintro e y ⟨rb, ua, uc, rfl, hv, _, hg⟩
    have e1 : trT 3 kEs kKs.length = [(0, 4)] := k_trT
    rw [e1] at hv ⊢
    have h1 := hv.cell 0 (by decide)
    rw [show ([((0 : Int), (4 : Int))] : List It).getD 0 (0, 0) = (0, 4) from rfl, k_dir] at h1
    exact ⟨rb, ua 0, uc 0, rfl, h1, hg⟩
  obtain ⟨gb, hgb⟩ : ∃ gb, gb = w1.heap.size := ⟨_, rfl⟩
  obtain ⟨X1, hX1⟩ : ∃ X1, X1 = w1.alloc (.cells #[.slice (some ⟨b1, 0, none⟩) 3 3, .slice (some ⟨b2, 0, none⟩) 2 2, .slice none 0 0, .int .i64 4, .slice (some ⟨b6, 0, none⟩) 3 3] 27) := ⟨_, rfl⟩
  have HP1 : Hid (PhAt w1 X1 gb #[.slice (some ⟨b1, 0, none⟩) 3 3, .slice (some ⟨b2, 0, none⟩) 2 2, .slice none 0 0, .int .i64 4, .slice (some ⟨b6, 0, none⟩) 3 3]) := ⟨by rw [hX1]; exact World.grownBy_alloc _ _ none, by rw [hX1, hgb]; exact heap_alloc_last w1 _⟩
  have HGW : Hid (w.grownBy w1 none) := hg1
  have HXE := show Hid _ from hX1
  have HGE := show Hid _ from hgb
  clear hG1 hg1 hX1 hgb hOf hEs HOF HOX HES
  go_wp2_with fail
  rw [← HXE.out, ← HGE.out]
  refine Calls.mono (HLI.out X1 HP1.out.grown) ?_
  rintro e w2 ⟨g2, c2, rfl, r0, r1, hg2⟩
  have HP2 : Hid (PhAt w1 w2 gb #[.slice (some ⟨b1, 0, none⟩) 3 3, .slice (some ⟨b2, 0, none⟩) 2 2, .slice none 0 0, .int .i64 4, .slice (some ⟨b6, 0, none⟩) 3 3]) := HP1.out.kept hg2
  clear hg2 HP1 HXE HGE HLI
  obtain ⟨k0, k1, k2, k3, k4⟩ := HP2.out.cells
  have HWC : Hid (Calls Try.prog 10 #[.agg #[.slice (some ⟨b1, 0, none⟩) 3 3, .slice (some ⟨b2, 0, none⟩) 2 2, .slice none 0 0, .int .i64 4, .slice (some ⟨b6, 0, none⟩) 3 3], .int .i64 0, .slice (some ⟨w2.heap.size, 0, none⟩) 3 3] (w2.alloc (.cells #[.int .i64 4, .int .i64 1, .int .i64 2] 3)) fun e y => e = .returned (.tuple #[.int .i64 4, .int .i64 0]) ∧ (w2.alloc (.cells #[.int .i64 4, .int .i64 1, .int .i64 2] 3)).grownBy y none) := HWA.out _ _ (grown_trans HP2.out.grown (World.grownBy_alloc _ _ none)) (.inr ⟨w2.heap.size, 0, rfl, fun i hi => by
    have h2 : i = 0 ∨ i = 1 ∨ i = 2 := by simp at hi; omega
    rcases h2 with rfl | rfl | rfl <;> (rw [cell_of_row _ _ _ _ _ _ (heap_alloc_last w2 _)]; rfl)⟩)
  go_wp2_with fail
  refine Calls.mono HWC.out ?_
  rintro e w3 ⟨rfl, hg3⟩
  have HP3 : Hid (PhAt w1 w3 gb #[.slice (some ⟨b1, 0, none⟩) 3 3, .slice (some ⟨b2, 0, none⟩) 2 2, .slice none 0 0, .int .i64 4, .slice (some ⟨b6, 0, none⟩) 3 3]) := HP2.out.kept (grown_trans (World.grownBy_alloc _ _ none) hg3)
  have r0' := hg3.cell ((World.grownBy_alloc w2 (.cells #[.int .i64 4, .int .i64 1, .int .i64 2] 3) none).cell r0 (by simp)) (by simp)
  have r1' := hg3.cell ((World.grownBy_alloc w2 (.cells #[.int .i64 4, .int .i64 1, .int .i64 2] 3) none).cell r1 (by simp)) (by simp)
  clear hg3 HP2 HWC HWA k0 k1 k2 k3 k4 r0 r1
  obtain ⟨k0, k1, k2, k3, k4⟩ := HP3.out.cells
  go_wp2_with fail
  refine Calls.mono (HDI.out w3 HP3.out.grown) ?_
  rintro e w4 ⟨rb, a4, c4, rfl, y0, hg4⟩
  have q0 := hg4.cell r0' (by simp)
  have q1 := hg4.cell r1' (by simp)
  have HG4 : Hid (w.grownBy w4 none) := grown_trans HGW.out (grown_trans HP3.out.grown hg4)
  clear hg4 HP3 HDI k0 k1 k2 k3 k4 r0' r1' HGW
  go_wp2_with fail
  go_ret
  exact ⟨rfl, HG4.out⟩

end Go.Proofs.Ytfllgmbnljfboaa.J

/-
  trans: the document's Next; the transitions by their numbers.
-/
namespace Go.Proofs.Ytfllgmbnljfboaa.J
open Go.RowKit Go.Maps Go.Shelf

attribute [local go_sem] Oper.semAt_some

theorem nextL_cons_no {x : Nat × Nat} {l : List (Nat × Nat)} {s : Int} (h : ¬ (x.1 : Int) = s) : nextL (x :: l) s = nextL l s := by
  unfold nextL
  rw [List.find?_cons]
  simp [h]
theorem nextL_found {l : List (Nat × Nat)} {s : Int} {j : Nat} (hj : j < l.length) (h : ((l.getD j (0, 0)).1 : Int) = s) (hno : ∀ i, i < j → ¬ ((l.getD i (0, 0)).1 : Int) = s) : nextL l s = some ((l.getD j (0, 0)).2 : Int) := by
  induction l generalizing j with
  | nil => cases hj
  | cons x l ih =>
    cases j with
    | zero =>
      unfold nextL
      rw [List.find?_cons]
      have h' : (x.1 : Int) = s := h
      simp [h']
    | succ j =>
      rw [nextL_cons_no (x := x) (hno 0 (Nat.succ_pos _))]
      exact ih (by simpa using hj) h fun i hi => hno (i + 1) (by omega)
theorem nextL_none {l : List (Nat × Nat)} {s : Int} (hno : ∀ i, i < l.length → ¬ ((l.getD i (0, 0)).1 : Int) = s) : nextL l s = none := by
  induction l with
  | nil => rfl
  | cons x l ih =>
    rw [nextL_cons_no (x := x) (hno 0 (by simp))]
    exact ih fun i hi => hno (i + 1) (by simpa using hi)

set_option maxRecDepth 100000 in
theorem rnext_any (sa : Option Addr) (sc : Nat) (ask nI : Int) (w : World) (B : Nat) (ks : List (List It)) (es : List (List (Nat × Nat))) (kv ev : Nat → Value) (hP : AutP B w (.slice sa ks.length sc) ks (elF es) kv ev) (hEl : ∀ q, (es.getD q []).length ≤ 130) (q : Nat) (hq : q < ks.length) (s : Int) :
    Calls Try.prog 16 #[.agg #[.slice sa ks.length sc, .int .i64 ask, .int .i64 nI], .int .i64 (q : Int), .int .i64 s] w fun e y => e = .returned (.int .i64 (wayV (nextL (es.getD q []) s))) ∧ w.grownBy y none := by
  have hg0 : w.grownBy (w.alloc (.cells #[.slice sa ks.length sc, .int .i64 ask, .int .i64 nI] 42)) none := World.grownBy_alloc _ _ none
  have hPZ := hP.kept hg0
  obtain ⟨sb, sc', hsv, _, hs1⟩ := hPZ.st hq
  simp only [Value.slice.injEq] at hsv
  obtain ⟨rfl, _, rfl⟩ := hsv
  obtain ⟨ea, ec, hev, hei⟩ := hPZ.edgAt hq
  rw [hev] at hs1
  obtain ⟨N, hN⟩ : ∃ n, n = ks.length := ⟨_, rfl⟩
  obtain ⟨E, hE⟩ : ∃ E, E = (elF es q).length := ⟨_, rfl⟩
  rw [← hE] at hs1
  rw [← hN] at hs1 hg0 hei hq ⊢
  have HE : Hid (E = (es.getD q []).length) := by show _ = _; rw [hE]; exact elF_len _ _
  have hEb : E ≤ 130 := by rw [HE.out]; exact hEl q
  have HEI : Hid (∀ Y, (w.alloc (.cells #[.slice (some ⟨sb, 0, none⟩) N sc, .int .i64 ask, .int .i64 nI] 42)).grownBy Y none → ItsAt Y ea (elF es q)) := fun Y hY => hei.kept hY
  have HG0 : Hid (w.grownBy (w.alloc (.cells #[.slice (some ⟨sb, 0, none⟩) N sc, .int .i64 ask, .int .i64 nI] 42)) none) := hg0
  have hq0 : (0 : Int) ≤ (q : Int) := by omega
  have hq1 : (q : Int) < (N : Int) := by omega
  obtain ⟨r, hr⟩ : ∃ r, r = wayV (nextL (es.getD q []) s) := ⟨_, rfl⟩
  have HRR : Hid (r = wayV (nextL (es.getD q []) s)) := hr
  rw [← hr]
  clear hP hPZ hev hei hE hN hg0 hEl hr
  go_enter Try.func16, Try.ntmps16
  go_wp2_with fail
  obtain ⟨W, hW⟩ : ∃ W, W = w.alloc (.cells #[.slice (some ⟨sb, 0, none⟩) N sc, .int .i64 ask, .int .i64 nI] 42) := ⟨_, rfl⟩
  rw [← hW] at HEI HG0 ⊢
  clear hW hs1
  go_loopg [8] E (fun gk v8 wr => ∃ j : Nat, j ≤ E ∧ gk = E - j ∧ v8 = .int .i64 j ∧ W.grownBy wr none ∧ ∀ i, i < j → ¬ (((es.getD q []).getD i (0, 0)).1 : Int) = s)
  case atStart => exact ⟨0, Nat.zero_le _, rfl, rfl, grown_refl _ _, fun i hi => absurd hi (Nat.not_lt_zero _)⟩
  case round =>
    obtain ⟨j, hj, hgj, rfl, hg, hno⟩ := hrel
    have HGJ : Hid (gk = E - j) := hgj
    have HG : Hid (W.grownBy wr none) := hg
    have HNO := show Hid _ from hno
    clear hgj hg hno
    by_cases hlt : j < E
    · have hjd : decide (j < E) = true := decide_eq_true hlt
      have hj0 : (0 : Int) ≤ (j : Int) := by omega
      have hj1 : (j : Int) < (E : Int) := by omega
      have hje : j < (es.getD q []).length := by rw [← HE.out]; exact hlt
      obtain ⟨eb, eo, hea, c0, c1⟩ := (HEI.out wr HG.out).cellAt (i := j) (by rw [elF_len]; exact hje)
      subst hea
      rw [(elF_at hje).2] at c0 c1
      by_cases hs : (((es.getD q []).getD j (0, 0)).1 : Int) = s
      · have HF : Hid (nextL (es.getD q []) s = some (((es.getD q []).getD j (0, 0)).2 : Int)) := nextL_found hje hs HNO.out
        obtain ⟨t, ht⟩ : ∃ t : Nat, t = ((es.getD q []).getD j (0, 0)).2 := ⟨_, rfl⟩
        rw [← ht] at c1 HF
        simp only at c0
        rw [hs] at c0
        have hss : (s == s) = true := beq_self_eq_true _
        clear hs ht hje
        go_wp2_with fail
        go_ret
        exact ⟨by rw [HRR.out, HF.out]; rfl, grown_trans HG0.out HG.out⟩
      · have HNS : Hid (¬ (((es.getD q []).getD j (0, 0)).1 : Int) = s) := hs
        obtain ⟨u, hu⟩ : ∃ u : Int, u = (((es.getD q []).getD j (0, 0)).1 : Int) := ⟨_, rfl⟩
        simp only at c0
        rw [← hu] at c0 hs
        have hss : (u == s) = false := beq_eq_false_iff_ne.2 hs
        clear hs hu hje c1
        go_wp2_with fail
        go_roundg (E - (j + 1))
        case measure => have := HGJ.out; omega
        case rel => exact ⟨j + 1, by omega, rfl, by go_num, HG.out, fun i hi => by
          by_cases e : i = j
          · rw [e]; exact HNS.out
          · exact HNO.out i (by omega)⟩
    · have hjE : E = j := by omega
      subst hjE
      have hjd : decide (E < E) = false := decide_eq_false (by omega)
      have HF : Hid (nextL (es.getD q []) s = none) := nextL_none (by rw [← HE.out]; exact HNO.out)
      go_wp2_with fail
      go_ret
      exact ⟨by rw [HRR.out, HF.out]; rfl, grown_trans HG0.out HG.out⟩

end Go.Proofs.Ytfllgmbnljfboaa.J

/-
  lr0: the document's automaton under way, in memory.
-/
namespace Go.Proofs.Ytfllgmbnljfboaa.J
open Go.RowKit Go.Maps Go.Shelf

theorem GG_zero' {tn n : Nat} {L : Nat → Int} {R : Nat → List Int} {k : List It} (hk : ∀ x ∈ k, itB n R x = true) (hR : ∀ k, k < n → ∀ x ∈ R k, (0 : Int) < x) : GG tn n L R k 0 = [] := by
  unfold GG
  have key : ∀ x ∈ CLo tn n L R k, itB n R x = true := by
    unfold CLo
    by_cases hh : ∃ l, IsClo tn n L R k l ∧ l.length ≤ k.length + 13000
    · rw [dif_pos hh]
      have h1 := Classical.choose_spec hh
      exact fun x hx => ((h1.1.mem x).1 hx).item hk
    · rw [dif_neg hh]
      exact fun x hx => absurd hx (by simp)
  unfold kerT
  rw [List.map_eq_nil_iff, List.filter_eq_nil_iff]
  intro x hx h
  have h1 := key x hx
  have h2 : aheadV R x = 0 := by simpa using h
  unfold itB at h1
  simp only [Bool.and_eq_true, decide_eq_true_eq] at h1
  obtain ⟨⟨⟨a1, a2⟩, a3⟩, a4⟩ := h1
  unfold aheadV at h2
  by_cases e : x.2 = ((R x.1.toNat).length : Int)
  · rw [if_pos e] at h2; omega
  · rw [if_neg e] at h2
    have hl : x.2.toNat < (R x.1.toNat).length := by omega
    have h3 := hR x.1.toNat (by omega) ((R x.1.toNat).getD x.2.toNat 0) (by
      generalize R x.1.toNat = l at hl ⊢
      rw [List.getD_eq_getElem?_getD, List.getElem?_eq_getElem hl]; exact List.getElem_mem hl)
    omega

/-- The document's automaton under way: what its box says (bs, ba, bi) and its states' row. -/
structure DbP (w X : World) (bx : Nat) (bs : Value) (ba bi : Int) (rv : Value) (N : Nat) (kv ev : Nat → Value) (kl el : Nat → List It) (Q : Value → List It → Prop) : Prop where
  grown : w.grownBy X none
  box : X.heap[bx]? = some (.cells #[bs, .int .i64 ba, .int .i64 bi] 42 (0, 0))
  row : X.ownsRow w.heap.size 53 2 rv N (stV kv ev N)
  ker : ∀ i, i < N → X.ownsRow w.heap.size 55 2 (kv i) (kl i).length (itsV (kl i))
  edg : ∀ i, i < N → X.ownsRow w.heap.size 60 2 (ev i) (el i).length (itsV (el i))
  sep : ∀ i j, i < N → j < N → i ≠ j → (ev i).ownBlock = none ∨ (ev i).ownBlock ≠ (ev j).ownBlock
  lo : w.heap.size ≤ bx
  pas : ∀ v l, Q v l → X.ownsRow w.heap.size 55 2 v l.length (itsV l)

section
variable {w X Y : World} {bx : Nat} {bs : Value} {ba bi : Int} {rv : Value} {N : Nat} {kv ev : Nat → Value} {kl el : Nat → List It} {Q : Value → List It → Prop}
theorem DbP.kept (h : DbP w X bx bs ba bi rv N kv ev kl el Q) (hg : X.grownBy Y none) : DbP w Y bx bs ba bi rv N kv ev kl el Q :=
  ⟨grown_trans h.grown hg, box_kept h.box hg, keep0 h.row hg, fun i hi => keep0 (h.ker i hi) hg, fun i hi => keep0 (h.edg i hi) hg, h.sep, h.lo, fun v l hq => keep0 (h.pas v l hq) hg⟩
theorem DbP.mono {Q' : Value → List It → Prop} (h : DbP w X bx bs ba bi rv N kv ev kl el Q) (hq : ∀ v l, Q' v l → X.ownsRow w.heap.size 55 2 v l.length (itsV l)) : DbP w X bx bs ba bi rv N kv ev kl el Q' := ⟨h.grown, h.box, h.row, h.ker, h.edg, h.sep, h.lo, hq⟩
theorem DbP.cells (h : DbP w X bx bs ba bi rv N kv ev kl el Q) : X.cell? ⟨bx, 0, none⟩ = some bs ∧ X.cell? ⟨bx, 1, none⟩ = some (.int .i64 ba) ∧ X.cell? ⟨bx, 2, none⟩ = some (.int .i64 bi) := by
  refine ⟨?_, ?_, ?_⟩ <;> (rw [cell_of_row _ _ _ _ _ _ h.box]; rfl)
theorem DbP.free (h : DbP w X bx bs ba bi rv N kv ev kl el Q) (o : Nat) : X.frozen? ⟨bx, o, none⟩ = false := frozen_of_row _ _ _ _ _ h.box
/-- The box alone is turned. -/
theorem DbP.boxed (h : DbP w X bx bs ba bi rv N kv ev kl el Q) {bs' : Value} {ba' bi' : Int} (hg : X.grownBy Y (some bx)) (hb : Y.heap[bx]? = some (.cells #[bs', .int .i64 ba', .int .i64 bi'] 42 (0, 0))) : DbP w Y bx bs' ba' bi' rv N kv ev kl el Q :=
  ⟨grown_new h.grown hg h.lo, hb, h.row.kept hg (owns_nebox h.row h.box (by decide)), fun i hi => (h.ker i hi).kept hg (owns_nebox (h.ker i hi) h.box (by decide)), fun i hi => (h.edg i hi).kept hg (owns_nebox (h.edg i hi) h.box (by decide)), h.sep, h.lo, fun v l hq => (h.pas v l hq).kept hg (owns_nebox (h.pas v l hq) h.box (by decide))⟩
theorem DbP.setS (h : DbP w X bx bs ba bi rv N kv ev kl el Q) (v : Value) : DbP w (X.setCell ⟨bx, 0, none⟩ v) bx v ba bi rv N kv ev kl el Q :=
  h.boxed (grown_setCell _ _ _) (heap_setCell_same _ _ _ _ _ _ h.box)
theorem DbP.setA (h : DbP w X bx bs ba bi rv N kv ev kl el Q) (v : Int) : DbP w (X.setCell ⟨bx, 1, none⟩ (.int .i64 v)) bx bs v bi rv N kv ev kl el Q :=
  h.boxed (grown_setCell _ _ _) (heap_setCell_same _ _ _ _ _ _ h.box)
theorem DbP.setI (h : DbP w X bx bs ba bi rv N kv ev kl el Q) (v : Int) : DbP w (X.setCell ⟨bx, 2, none⟩ (.int .i64 v)) bx bs ba v rv N kv ev kl el Q :=
  h.boxed (grown_setCell _ _ _) (heap_setCell_same _ _ _ _ _ _ h.box)
/-- A state more. -/
theorem DbP.pushS (h : DbP w X bx bs ba bi rv N kv ev kl el Q) {rv' kv0 : Value} {k : List It} (hk : X.ownsRow w.heap.size 55 2 kv0 k.length (itsV k)) (hg : X.grownBy Y rv.ownBlock) (ho : Y.ownsRow w.heap.size 53 2 rv' (N + 1) (stV kv ev N ++ [kv0, .slice none 0 0])) : DbP w Y bx bs ba bi rv' (N + 1) (updL kv N kv0) (updL ev N (.slice none 0 0)) (updL kl N k) (updL el N []) Q := by
  refine ⟨grown_owned h.grown h.row (Nat.le_refl _) hg, box_row h.box h.row (by decide) hg, ?_, fun i hi => ?_, fun i hi => ?_, fun i j hi hj hne => ?_, h.lo, fun v l hq => row_row (h.pas v l hq) h.row (by decide) hg⟩
  · have e : stV (updL kv N kv0) (updL ev N (.slice none 0 0)) (N + 1) = stV kv ev N ++ [kv0, .slice none 0 0] := by
      show stV _ _ N ++ _ = _
      rw [updL_same, updL_same, stV_congr N (fun i hi => ⟨updL_other _ _ (by omega), updL_other _ _ (by omega)⟩)]
    rw [e]; exact ho
  · by_cases e : i = N
    · subst e
      rw [updL_same, updL_same]
      exact row_row hk h.row (by decide) hg
    · rw [updL_other _ _ e, updL_other _ _ e]
      exact row_row (h.ker i (by omega)) h.row (by decide) hg
  · by_cases e : i = N
    · subst e
      rw [updL_same, updL_same]
      exact World.ownsRow_nil _ _ _ _
    · rw [updL_other _ _ e, updL_other _ _ e]
      exact row_row (h.edg i (by omega)) h.row (by decide) hg
  · by_cases e : i = N
    · subst e
      rw [updL_same]
      exact .inl rfl
    · rw [updL_other _ _ e]
      by_cases e2 : j = N
      · subst e2
        rw [updL_same]
        cases hb : (ev i).ownBlock with
        | none => exact .inl rfl
        | some b => exact .inr (by simp [Value.ownBlock])
      · rw [updL_other _ _ e2]
        exact h.sep i j (by omega) (by omega) hne

/-- An edge more in the row of a state: the row itself, ahead of the store. -/
structure DbE (w Y : World) (bx : Nat) (bs : Value) (ba bi : Int) (rv : Value) (N : Nat) (kv ev : Nat → Value) (kl el : Nat → List It) (Q : Value → List It → Prop) (i : Nat) (v : Value) (ed : List It) : Prop where
  grown : w.grownBy Y none
  box : Y.heap[bx]? = some (.cells #[bs, .int .i64 ba, .int .i64 bi] 42 (0, 0))
  row : Y.ownsRow w.heap.size 53 2 rv N (stV kv ev N)
  ker : ∀ i, i < N → Y.ownsRow w.heap.size 55 2 (kv i) (kl i).length (itsV (kl i))
  edg : ∀ j, j < N → j ≠ i → Y.ownsRow w.heap.size 60 2 (ev j) (el j).length (itsV (el j))
  new : Y.ownsRow w.heap.size 60 2 v ed.length (itsV ed)
  sep : ∀ i j, i < N → j < N → i ≠ j → (ev i).ownBlock = none ∨ (ev i).ownBlock ≠ (ev j).ownBlock
  sepN : ∀ j, j < N → j ≠ i → (ev j).ownBlock = none ∨ (ev j).ownBlock ≠ v.ownBlock
  lo : w.heap.size ≤ bx
  pas : ∀ v l, Q v l → Y.ownsRow w.heap.size 55 2 v l.length (itsV l)
theorem DbP.pushE (h : DbP w X bx bs ba bi rv N kv ev kl el Q) {i g c : Nat} {ed : List It} (hi : i < N) (hg : X.grownBy Y (ev i).ownBlock) (ho : Y.ownsRow w.heap.size 60 2 (.slice (some ⟨g, 0, none⟩) ed.length c) ed.length (itsV ed)) (hat : (ev i).ownBlock = some g ∨ g = X.heap.size) : DbE w Y bx bs ba bi rv N kv ev kl el Q i (.slice (some ⟨g, 0, none⟩) ed.length c) ed := by
  refine ⟨grown_owned h.grown (h.edg i hi) (Nat.le_refl _) hg, box_row h.box (h.edg i hi) (by decide) hg, row_row h.row (h.edg i hi) (by decide) hg, fun j hj => row_row (h.ker j hj) (h.edg i hi) (by decide) hg, fun j hj hne => (h.edg j hj).kept hg (h.sep j i hj hi hne), ho, h.sep, fun j hj hne => ?_, h.lo, fun v l hq => row_row (h.pas v l hq) (h.edg i hi) (by decide) hg⟩
  rcases hat with h1 | h1
  · show _ ∨ _ ≠ some g
    rw [← h1]; exact h.sep j i hj hi hne
  · cases hb : (ev j).ownBlock with
    | none => exact .inl rfl
    | some k =>
      right
      intro h2
      have := ((h.edg j hj).lt k hb).2
      have : k = g := by simpa [Value.ownBlock] using h2
      omega
theorem DbE.set {i g cap : Nat} {v : Value} {ed : List It} (h : DbE w X bx bs ba bi rv N kv ev kl el Q i v ed) (hrv : rv = .slice (some ⟨g, 0, none⟩) N cap) (hi : i < N) : DbP w (X.setCell ⟨g, i * 2 + 1, none⟩ v) bx bs ba bi rv N kv (updL ev i v) kl (updL el i ed) Q := by
  have hg : X.grownBy (X.setCell ⟨g, i * 2 + 1, none⟩ v) rv.ownBlock := by rw [hrv]; exact grown_setCell _ _ _
  refine ⟨grown_owned h.grown h.row (Nat.le_refl _) hg, box_row h.box h.row (by decide) hg, ?_, fun j hj => row_row (h.ker j hj) h.row (by decide) hg, fun j hj => ?_, fun j k hj hk hne => ?_, h.lo, fun v l hq => row_row (h.pas v l hq) h.row (by decide) hg⟩
  · have hr := h.row
    refine ⟨by rw [stV_len], ?_⟩
    rcases hr.2 with ⟨h1, h2⟩ | ⟨g2, cap2, cur, h1, hB, hh, h3, h4, h5, h6⟩
    · omega
    · rw [h1] at hrv
      simp only [Value.slice.injEq, Option.some.injEq, Addr.mk.injEq] at hrv
      obtain ⟨⟨rfl, _⟩, _, rfl⟩ := hrv
      refine .inr ⟨g2, cap2, cur.setIfInBounds (i * 2 + 1) v, h1, hB, heap_setCell_same _ _ _ _ _ _ hh, h3, h4, by rw [Array.size_setIfInBounds]; exact h5, ?_⟩
      rw [← stV_set kv ev v N i hi, ← h6, Array.toList_setIfInBounds, List.take_set]
  · by_cases e : j = i
    · subst e
      rw [updL_same, updL_same]
      exact row_row h.new h.row (by decide) hg
    · rw [updL_other _ _ e, updL_other _ _ e]
      exact row_row (h.edg j hj e) h.row (by decide) hg
  · by_cases e : j = i
    · subst e
      have e2 : k ≠ j := fun h => hne h.symm
      rw [updL_same, updL_other _ _ e2]
      rcases h.sepN k hk e2 with h1 | h1
      · rw [h1]
        cases hb : v.ownBlock with
        | none => exact .inl rfl
        | some b => exact .inr (by simp)
      · exact .inr fun h2 => h1 h2.symm
    · rw [updL_other _ _ e]
      by_cases e2 : k = i
      · subst e2
        rw [updL_same]
        exact h.sepN j hj e
      · rw [updL_other _ _ e2]
        exact h.sep j k hj hk hne
theorem DbE.cells {i : Nat} {v : Value} {ed : List It} (h : DbE w X bx bs ba bi rv N kv ev kl el Q i v ed) : X.cell? ⟨bx, 0, none⟩ = some bs := by rw [cell_of_row _ _ _ _ _ _ h.box]; rfl
theorem DbE.kept {i : Nat} {v : Value} {ed : List It} (h : DbE w X bx bs ba bi rv N kv ev kl el Q i v ed) (hg : X.grownBy Y none) : DbE w Y bx bs ba bi rv N kv ev kl el Q i v ed :=
  ⟨grown_trans h.grown hg, box_kept h.box hg, keep0 h.row hg, fun i hi => keep0 (h.ker i hi) hg, fun i hi hn => keep0 (h.edg i hi hn) hg, keep0 h.new hg, h.sep, h.sepN, h.lo, fun v l hq => keep0 (h.pas v l hq) hg⟩
end

/-- The document's automaton between two edges of state i. -/
def DbAt (w X : World) (bx : Nat) (ks : List (List It)) (asked : Int) (el : Nat → List It) (Q : Value → List It → Prop) : Prop := ∃ (sa : Option Addr) (sc : Nat) (kv ev : Nat → Value), DbP w X bx (.slice sa ks.length sc) asked (ks.length : Int) (.slice sa ks.length sc) ks.length kv ev (fun i => ks.getD i []) el Q
theorem DbAt.kept {w X Y : World} {bx : Nat} {ks : List (List It)} {asked : Int} {el : Nat → List It} {Q : Value → List It → Prop} (h : DbAt w X bx ks asked el Q) (hg : X.grownBy Y none) : DbAt w Y bx ks asked el Q := by
  obtain ⟨sa, sc, kv, ev, h1⟩ := h
  exact ⟨sa, sc, kv, ev, h1.kept hg⟩
theorem DbAt.grown {w X : World} {bx : Nat} {ks : List (List It)} {asked : Int} {el : Nat → List It} {Q : Value → List It → Prop} (h : DbAt w X bx ks asked el Q) : w.grownBy X none := by
  obtain ⟨sa, sc, kv, ev, h1⟩ := h
  exact h1.grown
/-- A state more, told of the kernels. -/
theorem db_more {ks : List (List It)} {k : List It} : updL (fun i => ks.getD i []) ks.length k = fun i => (ks ++ [k]).getD i [] := funext fun i => by
  by_cases e : i = ks.length
  · subst e; rw [updL_same, getD_snoc_new]
  · rw [updL_other _ _ e]
    by_cases e2 : i < ks.length
    · rw [getD_snoc_old e2]
    · show ks.getD i [] = _
      rw [List.getD_eq_getElem?_getD, List.getD_eq_getElem?_getD, List.getElem?_eq_none (by omega), List.getElem?_eq_none (by rw [List.length_append, List.length_singleton]; omega)]
theorem db_none {N : Nat} {el : Nat → List It} (h : ∀ i, N ≤ i → el i = []) : updL el N [] = el := funext fun i => by
  by_cases e : i = N
  · subst e; rw [updL_same, h _ (Nat.le_refl _)]
  · rw [updL_other _ _ e]
/-- The kernels that place looks at. -/
theorem DbP.kers {w X : World} {bx : Nat} {bs : Value} {ba bi : Int} {sa : Option Addr} {sc : Nat} {ks : List (List It)} {kv ev : Nat → Value} {el : Nat → List It} {Q : Value → List It → Prop} (h : DbP w X bx bs ba bi (.slice sa ks.length sc) ks.length kv ev (fun i => ks.getD i []) el Q) : ∃ (ka : Nat → Option Addr) (kc : Nat → Nat), KersAt X sa ks ka kc := by
  have hc : ∀ i, ∃ (a : Option Addr) (c : Nat), i < ks.length → kv i = .slice a (ks.getD i []).length c := fun i => by
    by_cases hi : i < ks.length
    · obtain ⟨a, c, e⟩ := owns_cut (h.ker i hi)
      exact ⟨a, c, fun _ => e⟩
    · exact ⟨none, 0, fun h => absurd h hi⟩
  refine ⟨fun i => Classical.choose (hc i), fun i => Classical.choose (Classical.choose_spec (hc i)), ?_⟩
  by_cases h0 : ks = []
  · exact .inl h0
  · have hp : 0 < ks.length := List.length_pos_iff.2 h0
    obtain ⟨g, c, e, h1⟩ := owns_at h.row hp
    right
    refine ⟨g, 0, (by simp only [Value.slice.injEq] at e; exact e.1), fun i hi => ?_⟩
    have e2 := Classical.choose_spec (Classical.choose_spec (hc i)) hi
    have h3 := h.ker i hi
    rw [e2] at h3
    refine ⟨?_, ItsAt.of h3⟩
    rw [Nat.zero_add, ← e2]
    exact h1 _ _ (stV_at kv ev _ i hi).1

end Go.Proofs.Ytfllgmbnljfboaa.J

/-
  lr0: the document's Build: an edge more, a declaration of its own (printed by tools/rbedgegen.py).
-/
namespace Go.Proofs.Ytfllgmbnljfboaa.J
open Go.RowKit Go.Maps Go.Shelf

attribute [local go_sem] Oper.semAt_some

noncomputable def rbR : Code := ((Try.f23.body.map (regionsJ 23)).getD []).getD 0 .skip

set_option maxRecDepth 100000 in
set_option maxHeartbeats 8000000 in
theorem rb_edge {K : Act → World → Prop} {X2 : World} {B bx sb2 N2 sc2 i s t em ec : Nat} {ea : Option Addr} {xs : List Value}
    {v0 v1 v2 v3 v4 v7 v9 v11 v12 v13 v14 v15 v16 v17 v18 v19 v20 v21 v22 v23 v24 v25 v26 v27 v28 v29 v30 v31 v32 v33 v34 v35 v36 v37 v38 v39 v40 v41 v42 v43 v44 v45 v46 v47 v48 v49 v50 v51 v52 v53 v54 v55 v56 v57 v58 v59 v60 v61 v62 v63 v64 v65 v66 v67 v68 v69 v70 v71 v72 v73 v74 v75 v76 v77 v78 v79 v80 v81 v82 v83 v84 v85 v86 v87 v88 v89 v90 v91 v92 v93 v94 v95 v96 : Value}
    (x1 : X2.cell? ⟨bx, 0, none⟩ = some (.slice (some ⟨sb2, 0, none⟩) N2 sc2)) (x2 : X2.cell? ⟨sb2, i * 2 + 1, none⟩ = some (.slice ea em ec))
    (x3 : ∀ o, (X2.alloc o).cell? ⟨bx, 0, none⟩ = some (.slice (some ⟨sb2, 0, none⟩) N2 sc2)) (x4 : ∀ o, (X2.alloc o).cell? ⟨sb2, i * 2 + 1, none⟩ = some (.slice ea em ec))
    (hiN : (i : Int) < (N2 : Int)) (hemb : em ≤ 130)
    (hOW : ∀ Y, X2.grownBy Y none → Y.ownsRow B 60 2 (.slice ea em ec) em xs) (hBS : ∀ Y, X2.grownBy Y none → B ≤ Y.heap.size)
    (hfin : ∀ (Y Z : World) (g c' : Nat), X2.grownBy Y none → Y.grownBy Z (Value.slice ea em ec).ownBlock → Z.ownsRow B 60 2 (.slice (some ⟨g, 0, none⟩) (em + 1) c') (em + 1) (xs ++ [.int .i64 (s : Int), .int .i64 (t : Int)]) → ((Value.slice ea em ec).ownBlock = some g ∨ g = Y.heap.size) → Z.cell? ⟨sb2, i * 2 + 1, none⟩ = some (.slice ea em ec) ∧ Z.frozen? ⟨sb2, i * 2 + 1, none⟩ = false ∧ Z.cell? ⟨bx, 0, none⟩ = some (.slice (some ⟨sb2, 0, none⟩) N2 sc2) ∧ ∀ u80 u81 u82 u83 u84 u85 u86 u87 u88 u89 u90 u91 u92 u93 u94 u95 : Value, K ⟨List.toArray (v0 :: v1 :: v2 :: v3 :: v4 :: .pointer (some ⟨bx, 0, none⟩) :: .int .i64 (i : Int) :: v7 :: .int .i64 (s : Int) :: v9 :: .int .i64 (t : Int) :: v11 :: v12 :: v13 :: v14 :: v15 :: v16 :: v17 :: v18 :: v19 :: v20 :: v21 :: v22 :: v23 :: v24 :: v25 :: v26 :: v27 :: v28 :: v29 :: v30 :: v31 :: v32 :: v33 :: v34 :: v35 :: v36 :: v37 :: v38 :: v39 :: v40 :: v41 :: v42 :: v43 :: v44 :: v45 :: v46 :: v47 :: v48 :: v49 :: v50 :: v51 :: v52 :: v53 :: v54 :: v55 :: v56 :: v57 :: v58 :: v59 :: v60 :: v61 :: v62 :: v63 :: v64 :: v65 :: v66 :: v67 :: v68 :: v69 :: v70 :: v71 :: v72 :: v73 :: v74 :: v75 :: v76 :: v77 :: v78 :: v79 :: u80 :: u81 :: u82 :: u83 :: u84 :: u85 :: u86 :: u87 :: u88 :: u89 :: u90 :: u91 :: u92 :: u93 :: u94 :: u95 :: v96 :: []), []⟩ (Z.setCell ⟨sb2, i * 2 + 1, none⟩ (.slice (some ⟨g, 0, none⟩) (em + 1) c'))) :
    Code.wp Try.prog rbR (OnEndJ K) ⟨List.toArray (v0 :: v1 :: v2 :: v3 :: v4 :: .pointer (some ⟨bx, 0, none⟩) :: .int .i64 (i : Int) :: v7 :: .int .i64 (s : Int) :: v9 :: .int .i64 (t : Int) :: v11 :: v12 :: v13 :: v14 :: v15 :: v16 :: v17 :: v18 :: v19 :: v20 :: v21 :: v22 :: v23 :: v24 :: v25 :: v26 :: v27 :: v28 :: v29 :: v30 :: v31 :: v32 :: v33 :: v34 :: v35 :: v36 :: v37 :: v38 :: v39 :: v40 :: v41 :: v42 :: v43 :: v44 :: v45 :: v46 :: v47 :: v48 :: v49 :: v50 :: v51 :: v52 :: v53 :: v54 :: v55 :: v56 :: v57 :: v58 :: v59 :: v60 :: v61 :: v62 :: v63 :: v64 :: v65 :: v66 :: v67 :: v68 :: v69 :: v70 :: v71 :: v72 :: v73 :: v74 :: v75 :: v76 :: v77 :: v78 :: v79 :: v80 :: v81 :: v82 :: v83 :: v84 :: v85 :: v86 :: v87 :: v88 :: v89 :: v90 :: v91 :: v92 :: v93 :: v94 :: v95 :: v96 :: []), []⟩ X2 := by
  obtain ⟨i3, hi3, hv0, hv1, hv2⟩ := info_parts infoEdge
  have HOW : Hid (∀ Y, X2.grownBy Y none → Y.ownsRow B 60 2 (.slice ea em ec) em xs) := hOW
  have HPS : Hid (∀ Y, X2.grownBy Y none → B ≤ Y.heap.size) := hBS
  have HFIN := show Hid _ from hfin
  have hi0 : (0 : Int) ≤ (i : Int) := by omega
  clear hOW hBS hfin
  conv => arg 2; whnf
  go_region_law (first
    | (refine step_append_liesW _ rfl (.tmp 88) (.tmp 92) 51 rfl B 60 i3 (.agg #[.int .i64 0, .int .i64 0]) 2 16 Try.underlying51 hi3 hv0 hv1 hv2 rfl (by decide) (.slice ea em ec) em xs (by simp [Act.eval]) (HOW.out _ (grown_trans (World.grownBy_alloc _ _ none) (grown_drewN _ 1))) ⟨X2.heap.size, 0, none⟩ 1 1 [.int .i64 (s : Int), .int .i64 (t : Int)] (by simp [Act.eval]) rfl (World.news_of_block (heap_alloc_last X2 _)) (by simp [Value.oneCell']) (by decide) (by unfold maxLen; omega) (by omega) (HPS.out _ (grown_trans (World.grownBy_alloc _ _ none) (grown_drewN _ 1))) ?_; intro g7 c7 wC hoC hgC hat; obtain ⟨q2, q3, q4, q1⟩ := HFIN.out _ wC g7 c7 (grown_trans (World.grownBy_alloc _ _ none) (grown_drewN _ 1)) hgC hoC hat; have HQ9 := show Hid _ from q1; clear q1 hoC hgC hat)
    | fail)
  all_goals exact HQ9.out _ _ _ _ _ _ _ _ _ _ _ _ _ _ _ _

theorem rb_edgeq {Q0 : Exit → Act → World → Prop} {X2 : World} {B bx sb2 N2 sc2 i s t em ec : Nat} {ea : Option Addr} {xs : List Value}
    {v0 v1 v2 v3 v4 v7 v9 v11 v12 v13 v14 v15 v16 v17 v18 v19 v20 v21 v22 v23 v24 v25 v26 v27 v28 v29 v30 v31 v32 v33 v34 v35 v36 v37 v38 v39 v40 v41 v42 v43 v44 v45 v46 v47 v48 v49 v50 v51 v52 v53 v54 v55 v56 v57 v58 v59 v60 v61 v62 v63 v64 v65 v66 v67 v68 v69 v70 v71 v72 v73 v74 v75 v76 v77 v78 v79 v80 v81 v82 v83 v84 v85 v86 v87 v88 v89 v90 v91 v92 v93 v94 v95 v96 : Value}
    (x1 : X2.cell? ⟨bx, 0, none⟩ = some (.slice (some ⟨sb2, 0, none⟩) N2 sc2)) (x2 : X2.cell? ⟨sb2, i * 2 + 1, none⟩ = some (.slice ea em ec))
    (x3 : ∀ o, (X2.alloc o).cell? ⟨bx, 0, none⟩ = some (.slice (some ⟨sb2, 0, none⟩) N2 sc2)) (x4 : ∀ o, (X2.alloc o).cell? ⟨sb2, i * 2 + 1, none⟩ = some (.slice ea em ec))
    (hiN : (i : Int) < (N2 : Int)) (hemb : em ≤ 130)
    (hOW : ∀ Y, X2.grownBy Y none → Y.ownsRow B 60 2 (.slice ea em ec) em xs) (hBS : ∀ Y, X2.grownBy Y none → B ≤ Y.heap.size)
    (hfin : ∀ (Y Z : World) (g c' : Nat), X2.grownBy Y none → Y.grownBy Z (Value.slice ea em ec).ownBlock → Z.ownsRow B 60 2 (.slice (some ⟨g, 0, none⟩) (em + 1) c') (em + 1) (xs ++ [.int .i64 (s : Int), .int .i64 (t : Int)]) → ((Value.slice ea em ec).ownBlock = some g ∨ g = Y.heap.size) → Z.cell? ⟨sb2, i * 2 + 1, none⟩ = some (.slice ea em ec) ∧ Z.frozen? ⟨sb2, i * 2 + 1, none⟩ = false ∧ Z.cell? ⟨bx, 0, none⟩ = some (.slice (some ⟨sb2, 0, none⟩) N2 sc2) ∧ ∀ u80 u81 u82 u83 u84 u85 u86 u87 u88 u89 u90 u91 u92 u93 u94 u95 : Value, Q0 .normal ⟨List.toArray (v0 :: v1 :: v2 :: v3 :: v4 :: .pointer (some ⟨bx, 0, none⟩) :: .int .i64 (i : Int) :: v7 :: .int .i64 (s : Int) :: v9 :: .int .i64 (t : Int) :: v11 :: v12 :: v13 :: v14 :: v15 :: v16 :: v17 :: v18 :: v19 :: v20 :: v21 :: v22 :: v23 :: v24 :: v25 :: v26 :: v27 :: v28 :: v29 :: v30 :: v31 :: v32 :: v33 :: v34 :: v35 :: v36 :: v37 :: v38 :: v39 :: v40 :: v41 :: v42 :: v43 :: v44 :: v45 :: v46 :: v47 :: v48 :: v49 :: v50 :: v51 :: v52 :: v53 :: v54 :: v55 :: v56 :: v57 :: v58 :: v59 :: v60 :: v61 :: v62 :: v63 :: v64 :: v65 :: v66 :: v67 :: v68 :: v69 :: v70 :: v71 :: v72 :: v73 :: v74 :: v75 :: v76 :: v77 :: v78 :: v79 :: u80 :: u81 :: u82 :: u83 :: u84 :: u85 :: u86 :: u87 :: u88 :: u89 :: u90 :: u91 :: u92 :: u93 :: u94 :: u95 :: v96 :: []), []⟩ (Z.setCell ⟨sb2, i * 2 + 1, none⟩ (.slice (some ⟨g, 0, none⟩) (em + 1) c'))) :
    Code.wp Try.prog rbR Q0 ⟨List.toArray (v0 :: v1 :: v2 :: v3 :: v4 :: .pointer (some ⟨bx, 0, none⟩) :: .int .i64 (i : Int) :: v7 :: .int .i64 (s : Int) :: v9 :: .int .i64 (t : Int) :: v11 :: v12 :: v13 :: v14 :: v15 :: v16 :: v17 :: v18 :: v19 :: v20 :: v21 :: v22 :: v23 :: v24 :: v25 :: v26 :: v27 :: v28 :: v29 :: v30 :: v31 :: v32 :: v33 :: v34 :: v35 :: v36 :: v37 :: v38 :: v39 :: v40 :: v41 :: v42 :: v43 :: v44 :: v45 :: v46 :: v47 :: v48 :: v49 :: v50 :: v51 :: v52 :: v53 :: v54 :: v55 :: v56 :: v57 :: v58 :: v59 :: v60 :: v61 :: v62 :: v63 :: v64 :: v65 :: v66 :: v67 :: v68 :: v69 :: v70 :: v71 :: v72 :: v73 :: v74 :: v75 :: v76 :: v77 :: v78 :: v79 :: v80 :: v81 :: v82 :: v83 :: v84 :: v85 :: v86 :: v87 :: v88 :: v89 :: v90 :: v91 :: v92 :: v93 :: v94 :: v95 :: v96 :: []), []⟩ X2 :=
  wp_mono (rb_edge (K := fun a w => Q0 .normal a w) x1 x2 x3 x4 hiN hemb hOW hBS hfin) fun e a w h => by
    cases e <;> first | exact h | exact h.elim

end Go.Proofs.Ytfllgmbnljfboaa.J

/-
  lr0: the document's Build, walked.
-/
namespace Go.Proofs.Ytfllgmbnljfboaa.J
open Go.RowKit Go.Maps Go.Shelf

attribute [local go_sem] Oper.semAt_some

theorem results_rbuild (tmps : Array Value) (w : World) (g : Nat) (cs : Array Value) (x : Value) (h2 : tmps.getD 2 undef = .pointer (some ⟨g, 0, none⟩)) (h3 : tmps.getD 3 undef = x) (hg : w.heap[g]? = some (.cells cs 42 (0, 0))) (hs : cs.size = 3) :
    (results Try.f23 tmps).run Try.prog w = .ok (.tuple #[.agg cs, x]) w := by
  have h2' : tmps[2]?.getD undef = .pointer (some ⟨g, 0, none⟩) := by simpa using h2
  have h3' : tmps[3]?.getD undef = x := by simpa using h3
  have hl := run_loadVar_row (P := Try.prog) w g 42 42 cs (0, 0) _ hg Try.underlying42 rfl (by rw [hs]; kernel_rfl)
  simp [results, Try.results23, h2', h3', asAddr, hl]

section
variable (ta na la pa : Option Addr) (tc nc lc pc : Nat) (ts : List (ByteArray × Int)) (ns : List ByteArray) (lv : List Int) (n : Nat) (L : Nat → Int) (R : Nat → List Int) (ra : Nat → Option Addr) (rc : Nat → Nat) (V : Nat → Int) (st : Int) (w : World) (tn nn ln : Nat) (hlen : ts.length = tn ∧ ns.length = nn ∧ lv.length = ln) (hG : GAt w ta na la pa tc nc lc pc ts ns lv n L R ra rc V) (hts : ∀ t ∈ ts, t.1.size ≤ 140737488355328) (hns : ∀ s ∈ ns, s.size ≤ 140737488355328)
include hlen hG hts hns
set_option maxRecDepth 100000 in
theorem rbuildBad (hb : ¬ closedOK ts ns lv st n L R V) : Calls Try.prog 23 #[.agg #[.slice ta tn tc, .slice na nn nc, .slice la ln lc, .int .i64 st, .slice pa n pc]] w fun e y => e = .returned (.tuple #[.agg #[.slice none 0 0, .int .i64 0, .int .i64 0], .int .i64 1]) ∧ w.grownBy y none := by
  have HCL : Hid (∀ X, w.grownBy X none → Calls Try.prog 34 #[.agg #[.slice ta tn tc, .slice na nn nc, .slice la ln lc, .int .i64 st, .slice pa n pc]] X fun e w' => e = .returned (.bool false) ∧ X.grownBy w' none) := fun X hX => by
    have := rclosed_any ta na la pa tc nc lc pc st ts ns lv n L R ra rc V X (hG.kept hX) hts hns false ⟨(fun h => by cases h), fun h => absurd h hb⟩
    rwa [hlen.1, hlen.2.1, hlen.2.2] at this
  have HX0 : Hid (w.grownBy ((w.alloc (.cells #[.slice ta tn tc, .slice na nn nc, .slice la ln lc, .int .i64 st, .slice pa n pc] 27)).alloc (.cells #[.slice none 0 0, .int .i64 0, .int .i64 0] 42)) none) := grown_trans (World.grownBy_alloc _ _ none) (World.grownBy_alloc _ _ none)
  have HB0 : Hid (((w.alloc (.cells #[.slice ta tn tc, .slice na nn nc, .slice la ln lc, .int .i64 st, .slice pa n pc] 27)).alloc (.cells #[.slice none 0 0, .int .i64 0, .int .i64 0] 42)).heap[w.heap.size + 1]? = some (.cells #[.slice none 0 0, .int .i64 0, .int .i64 0] 42 (0, 0))) := by
    have h := heap_alloc_last (w.alloc (.cells #[.slice ta tn tc, .slice na nn nc, .slice la ln lc, .int .i64 st, .slice pa n pc] 27)) (.cells #[.slice none 0 0, .int .i64 0, .int .i64 0] 42)
    rw [World.size_alloc] at h; exact h
  clear hlen hG hb hts hns
  go_enter Try.func23, Try.ntmps23
  go_wp2_with fail
  refine Calls.mono (HCL.out _ HX0.out) ?_
  rintro e w1 ⟨rfl, hg1⟩
  have HB1 : Hid (w1.heap[w.heap.size + 1]? = some (.cells #[.slice none 0 0, .int .i64 0, .int .i64 0] 42 (0, 0))) := box_kept HB0.out hg1
  have HG1 : Hid (w.grownBy w1 none) := grown_trans HX0.out hg1
  clear hg1 HB0 HX0
  have k0 := cell_of_row w1 (w.heap.size + 1) 0 _ _ _ HB1.out
  have k1 := cell_of_row w1 (w.heap.size + 1) 1 _ _ _ HB1.out
  have k2 := cell_of_row w1 (w.heap.size + 1) 2 _ _ _ HB1.out
  have kf := fun j => frozen_of_row w1 (w.heap.size + 1) j _ _ HB1.out
  simp only [List.getElem?_toArray, List.getElem?_cons_zero, List.getElem?_cons_succ] at k0 k1 k2
  go_wp2_with fail
  refine bodyPost_ret (v := .tuple #[.agg #[.slice none 0 0, .int .i64 0, .int .i64 0], .int .i64 1]) ?_ rfl ?_
  · exact results_rbuild _ _ (w.heap.size + 1) _ _ rfl rfl (set3_heap HB1.out _ _ _) rfl
  · exact ⟨rfl, grown_new HG1.out (set3_grown _ _ _ _ _) (by omega)⟩

set_option maxRecDepth 100000 in
set_option maxHeartbeats 4000000 in
theorem rbuildOk (hc : closedOK ts ns lv st n L R V) : Calls Try.prog 23 #[.agg #[.slice ta tn tc, .slice na nn nc, .slice la ln lc, .int .i64 st, .slice pa n pc]] w fun e y => AutTold w tn n (tn + nn) L R e y := by
  have hM : MayOK tn nn n st L R true := by obtain ⟨rfl, rfl, rfl⟩ := hlen; exact mayOK_closed hc
  have HCL : Hid (∀ X, w.grownBy X none → Calls Try.prog 34 #[.agg #[.slice ta tn tc, .slice na nn nc, .slice la ln lc, .int .i64 st, .slice pa n pc]] X fun e w' => e = .returned (.bool true) ∧ X.grownBy w' none) := fun X hX => by
    have := rclosed_any ta na la pa tc nc lc pc st ts ns lv n L R ra rc V X (hG.kept hX) hts hns true ⟨fun _ => hc, fun _ => rfl⟩
    rwa [hlen.1, hlen.2.1, hlen.2.2] at this
  obtain ⟨S, hS⟩ : ∃ S, S = tn + nn := ⟨_, rfl⟩
  have hSz : S ≤ 130 := by have := hM.tmax; have := hM.nmax; omega
  have HRR : Hid (∀ k, k < n → ∀ x ∈ R k, (0 : Int) ≤ x ∧ x < ((tn + nn : Nat) : Int)) := fun k hk x hx => ⟨by have := hM.right k hk x hx; omega, (hM.right k hk x hx).2⟩
  have HAU : Hid (∀ i ks es, autoF (GG tn n L R) S i = some (ks, es) → AuOK (PJ n R) (GG tn n L R) S i ks es ∧ askN es ≤ 33281) := fun i ks es h => by
    rw [hS] at h ⊢
    exact ⟨auOK hM.p0 h, askN_le hM.p0 (by omega) h⟩
  have HSY : Hid (∀ X, Calls Try.prog 24 #[.agg #[.slice ta tn tc, .slice na nn nc, .slice la ln lc, .int .i64 st, .slice pa n pc]] X fun e y => e = .returned (.int .i64 (S : Int)) ∧ X.grownBy y none) := fun X => by
    have h1 := hM.tmax
    have h2 := hM.nmax
    refine (Go.Proofs.Ytfllgmbnljfboaa.symbols_any ta na la pa tn nn ln n tc nc lc pc st X (by omega) (by omega)).mono ?_
    rintro e y ⟨rfl, hg⟩
    exact ⟨by rw [hS, Int.natCast_add], hg⟩
  have HCS : Hid (∀ X a cap (I : List It), w.grownBy X none → ItsAt X a I → I.length ≤ 8796093022208 → (∀ x ∈ I, itB n R x = true) → Calls Try.prog 35 #[.agg #[.slice ta tn tc, .slice na nn nc, .slice la ln lc, .int .i64 st, .slice pa n pc], .slice a I.length cap] X fun e y => CloTold tn n L R I X e y) := fun X a cap I hX hI hIb hit => rclos_any ta na la pa tc nc lc pc n L R ra rc V st X tn nn ln (prods_kept hG.prods hX) hM.pmax hM.p0 hM.tmax hM.nmax HRR.out a cap I hI hIb hit
  have HFR : Hid (∀ X a cap (l : List It) (s : Int), w.grownBy X none → ItsAt X a l → l.length ≤ 8796093035208 → (∀ x ∈ l, itB n R x = true) → Asc l → Calls Try.prog 36 #[.agg #[.slice ta tn tc, .slice na nn nc, .slice la ln lc, .int .i64 st, .slice pa n pc], .int .i64 s, .slice a l.length cap] X fun e y => ItsTold (kerT R l s) X e y) := fun X a cap l s hX hl hlb hit hasc => rfrom_any ta na la pa tc nc lc pc n L R ra rc V st s X tn nn ln (prods_kept hG.prods hX) (gright hG.prods) a cap l hl hlb hit hasc
  have HZ : Hid (∀ k : List It, (∀ x ∈ k, itB n R x = true) → GG tn n L R k 0 = []) := fun k hk => GG_zero' hk (fun k hk x hx => (hM.right k hk x hx).1)
  have HX0 : Hid (w.grownBy ((w.alloc (.cells #[.slice ta tn tc, .slice na nn nc, .slice la ln lc, .int .i64 st, .slice pa n pc] 27)).alloc (.cells #[.slice none 0 0, .int .i64 0, .int .i64 0] 42)) none) := grown_trans (World.grownBy_alloc _ _ none) (World.grownBy_alloc _ _ none)
  have HP0 : Hid (PhAt w ((w.alloc (.cells #[.slice ta tn tc, .slice na nn nc, .slice la ln lc, .int .i64 st, .slice pa n pc] 27)).alloc (.cells #[.slice none 0 0, .int .i64 0, .int .i64 0] 42)) w.heap.size #[.slice ta tn tc, .slice na nn nc, .slice la ln lc, .int .i64 st, .slice pa n pc]) := PhAt.kept ⟨World.grownBy_alloc _ _ none, heap_alloc_last w _⟩ (World.grownBy_alloc _ _ none)
  have HB0 : Hid (((w.alloc (.cells #[.slice ta tn tc, .slice na nn nc, .slice la ln lc, .int .i64 st, .slice pa n pc] 27)).alloc (.cells #[.slice none 0 0, .int .i64 0, .int .i64 0] 42)).heap[w.heap.size + 1]? = some (.cells #[.slice none 0 0, .int .i64 0, .int .i64 0] 42 (0, 0))) := by
    have h := heap_alloc_last (w.alloc (.cells #[.slice ta tn tc, .slice na nn nc, .slice la ln lc, .int .i64 st, .slice pa n pc] 27)) (.cells #[.slice none 0 0, .int .i64 0, .int .i64 0] 42)
    rw [World.size_alloc] at h; exact h
  have HPN : Hid (0 < n ∧ n ≤ 97) := ⟨hM.p0, hM.pmax⟩
  have hS1 : 1 ≤ S := by have := hM.t0; omega
  rw [← hS]
  clear hlen hG hc hM hts hns hS HRR
  obtain ⟨i2, hi2, hu0, hu1, hu2⟩ := info_parts infoState
  obtain ⟨i3, hi3, hv0, hv1, hv2⟩ := info_parts infoEdge
  go_enter Try.func23, Try.ntmps23
  go_wp2_with fail
  refine Calls.mono (HCL.out _ HX0.out) ?_
  rintro e P ⟨rfl, hg1⟩
  have HB1 : Hid (P.heap[w.heap.size + 1]? = some (.cells #[.slice none 0 0, .int .i64 0, .int .i64 0] 42 (0, 0))) := box_kept HB0.out hg1
  have HP1 : Hid (PhAt w P w.heap.size #[.slice ta tn tc, .slice na nn nc, .slice la ln lc, .int .i64 st, .slice pa n pc]) := HP0.out.kept hg1
  clear hg1 HB0 HX0 HP0
  have HA1 := show Hid _ from heap_alloc_last P (.cells #[.slice none 0 0, .int .i64 1, .int .i64 1] 42)
  have HA2 : Hid (((P.alloc (.cells #[.slice none 0 0, .int .i64 1, .int .i64 1] 42)).alloc (.cells #[.int .i64 0, .int .i64 0] 55)).heap[P.heap.size + 1]? = some (.cells #[.int .i64 0, .int .i64 0] 55 (0, 0))) := by
    have h := heap_alloc_last (P.alloc (.cells #[.slice none 0 0, .int .i64 1, .int .i64 1] 42)) (.cells #[.int .i64 0, .int .i64 0] 55)
    rw [World.size_alloc] at h; exact h
  have HNW : Hid (∀ j z, [Value.slice (some ⟨P.heap.size + 1, 0, none⟩) 1 1, Value.slice none 0 0][j]? = some z → (((P.alloc (.cells #[.slice none 0 0, .int .i64 1, .int .i64 1] 42)).alloc (.cells #[.int .i64 0, .int .i64 0] 55)).alloc (.cells #[.slice (some ⟨P.heap.size + 1, 0, none⟩) 1 1, .slice none 0 0] 53)).cell? ((⟨P.heap.size + 1 + 1, 0, none⟩ : Addr).add j) = some z) := by
    have h := heap_alloc_last ((P.alloc (.cells #[.slice none 0 0, .int .i64 1, .int .i64 1] 42)).alloc (.cells #[.int .i64 0, .int .i64 0] 55)) (.cells #[.slice (some ⟨P.heap.size + 1, 0, none⟩) 1 1, .slice none 0 0] 53)
    rw [World.size_alloc, World.size_alloc] at h
    exact World.news_of_block h
  go_wp2_with (at_builtin; refine wpList_append_srcW rfl (.tmp 18) (.tmp 22) 40 rfl P.heap.size 53 i2 (.agg #[.slice none 0 0, .slice none 0 0]) 2 48 Try.underlying40 hi2 hu0 hu1 hu2 rfl (by decide) (.slice none 0 0) 0 [] rfl (World.ownsRow_nil _ _ _ _) (some ⟨P.heap.size + 1 + 1, 0, none⟩) 1 1 [.slice (some ⟨P.heap.size + 1, 0, none⟩) 1 1, .slice none 0 0] rfl (fun h => by cases h) rfl (fun ad e => by cases e; exact HNW.out) (by simp [Value.oneCell']) (by unfold maxLen; omega) (by omega) (by simp; omega) ?_)
  intro v8 wB hoB hgB
  obtain ⟨s8, c8, rfl⟩ := owns_cut hoB
  have hgA : ((P.alloc (.cells #[.slice none 0 0, .int .i64 1, .int .i64 1] 42)).alloc (.cells #[.int .i64 0, .int .i64 0] 55)).grownBy wB none := grown_trans (World.grownBy_alloc _ _ none) hgB
  have hbB : wB.heap[P.heap.size]? = some (.cells #[.slice none 0 0, .int .i64 1, .int .i64 1] 42 (0, 0)) := box_kept HA1.out (grown_trans (World.grownBy_alloc _ _ none) hgA)
  obtain ⟨bx, hbx⟩ : ∃ b, b = P.heap.size := ⟨_, rfl⟩
  have HD0 : Hid (DbP P wB bx (.slice none 0 0) 1 1 (.slice s8 1 c8) 1 (fun _ => .slice (some ⟨P.heap.size + 1, 0, none⟩) 1 1) (fun _ => .slice none 0 0) (fun i => [[((0 : Int), (0 : Int))]].getD i []) (elF []) (fun _ _ => False)) := by
    refine ⟨grown_trans (World.grownBy_alloc _ _ none) (grown_trans (World.grownBy_alloc _ _ none) hgA), by rw [hbx]; exact hbB, hoB, fun i hi => ?_, fun i hi => World.ownsRow_nil _ _ _ _, fun i j _ _ _ => .inl rfl, by rw [hbx]; exact Nat.le_refl _, fun v l h => h.elim⟩
    obtain rfl : i = 0 := by omega
    exact ⟨rfl, .inr ⟨P.heap.size + 1, 1, #[.int .i64 0, .int .i64 0], rfl, by omega, box_kept HA2.out hgA, Nat.le_refl _, by unfold maxLen; omega, rfl, rfl⟩⟩
  have HD1 : Hid (DbAt P (wB.setCell ⟨bx, 0, none⟩ (.slice s8 1 c8)) bx [[(0, 0)]] ((askN [] : Nat) : Int) (elF []) (fun _ _ => False)) := ⟨s8, c8, _, _, HD0.out.setS _⟩
  obtain ⟨k0, _, _⟩ := HD0.out.cells
  have kf := HD0.out.free 0
  rw [← hbx]
  clear hoB hgB hgA hbB HA1 HA2 HNW HD0 hbx
  go_wp2_with fail
  obtain ⟨X5, hX5⟩ : ∃ X5, X5 = wB.setCell ⟨bx, 0, none⟩ (.slice s8 1 c8) := ⟨_, rfl⟩
  rw [← hX5] at HD1
  try rw [← hX5]
  clear k0 kf hX5
  go_loopg [6] 256 (fun gk v6 wr => ∃ (i : Nat) (ks : List (List It)) (es : List (List (Nat × Nat))), autoF (GG tn n L R) S i = some (ks, es) ∧ i ≤ ks.length ∧ gk = 256 - i ∧ v6 = .int .i64 i ∧ DbAt P wr bx ks (askN es : Int) (elF es) (fun _ _ => False))
  case atStart => exact ⟨0, [[(0, 0)]], [], rfl, Nat.zero_le _, rfl, rfl, HD1.out⟩
  case round =>
    obtain ⟨i, ks, es, hau, hi, hgi, rfl, hmk⟩ := hrel
    have HGI : Hid (gk = 256 - i) := hgi
    have HA : Hid (autoF (GG tn n L R) S i = some (ks, es)) := hau
    obtain ⟨hAO, hAN⟩ := HAU.out i ks es hau
    have HAO : Hid (AuOK (PJ n R) (GG tn n L R) S i ks es) := hAO
    obtain ⟨sa, sc, kv, ev, hD⟩ := hmk
    have HD : Hid (DbP P wr bx (.slice sa ks.length sc) (askN es : Int) (ks.length : Int) (.slice sa ks.length sc) ks.length kv ev (fun i => ks.getD i []) (elF es) (fun _ _ => False)) := hD
    obtain ⟨N, hN⟩ : ∃ n, n = ks.length := ⟨_, rfl⟩
    have HN : Hid (N = ks.length) := hN
    have hN256 : N ≤ 256 := by rw [hN]; exact hAO.kok.le
    obtain ⟨y0, y1, y2⟩ := hD.cells
    rw [← hN] at hi y0 y2
    by_cases hlt : i < N
    · have hid : decide (i < N) = true := decide_eq_true hlt
      have hi0 : (0 : Int) ≤ (i : Int) := by omega
      have hi1 : (i : Int) < (N : Int) := by omega
      have hil : i < ks.length := by rw [← hN]; exact hlt
      obtain ⟨sb, sc2, hse, hscell⟩ := owns_at hD.row (by omega)
      simp only [Value.slice.injEq] at hse
      obtain ⟨rfl, _, rfl⟩ := hse
      have hr1 := hscell _ _ (stV_at kv ev ks.length i hil).1
      obtain ⟨ka, kc, hkv⟩ := owns_cut (hD.ker i hil)
      have hkr := hD.ker i hil
      rw [hkv] at hr1 hkr
      have hqb : (ks.getD i []).length ≤ 3328001 := by
        have h1 := (hAO.kok.each i hil).2
        have h3 : 13000 * i ≤ 13000 * 256 := Nat.mul_le_mul_left _ (by omega)
        omega
      obtain ⟨kq, hkq⟩ : ∃ q, q = (ks.getD i []).length := ⟨_, rfl⟩
      have HCC : Hid (∀ Y, wr.grownBy Y none → Calls Try.prog 35 #[.agg #[.slice ta tn tc, .slice na nn nc, .slice la ln lc, .int .i64 st, .slice pa n pc], .slice ka kq kc] Y fun e y => CloTold tn n L R (ks.getD i []) Y e y) := fun Y hY => by
        rw [hkq]
        exact HCS.out Y ka kc (ks.getD i []) (grown_trans HP1.out.grown (grown_trans hD.grown hY)) (ItsAt.of (keep0 hkr hY)) (by omega) (hAO.kok.each i hil).1
      have HKS : Hid (∀ Y, wr.grownBy Y none → (Y.cell? ⟨w.heap.size, 0, none⟩ = some (.slice ta tn tc) ∧ Y.cell? ⟨w.heap.size, 1, none⟩ = some (.slice na nn nc) ∧ Y.cell? ⟨w.heap.size, 2, none⟩ = some (.slice la ln lc) ∧ Y.cell? ⟨w.heap.size, 3, none⟩ = some (.int .i64 st) ∧ Y.cell? ⟨w.heap.size, 4, none⟩ = some (.slice pa n pc)) ∧ Y.cell? ⟨bx, 0, none⟩ = some (.slice (some ⟨sb, 0, none⟩) N sc) ∧ Y.cell? ⟨sb, i * 2, none⟩ = some (.slice ka kq kc)) := fun Y hY => ⟨(HP1.out.kept (grown_trans hD.grown hY)).cells, hY.cell y0 (by simp), by rw [hkq]; exact hY.cell hr1 (by simp)⟩
      have HQB : Hid ((ks.getD i []).length ≤ 3328001) := hqb
      have HUP : Hid (wr.grownBy wr.drew none) := grown_drewN _ 1
      clear hgi hau hAO hD hN hscell hr1 hkv hkr hqb hkq hil y1 y2 HD1
      go_wp2_with fail
      clear y0
      go_region_held3 (fun Y => (Y.cell? ⟨w.heap.size, 0, none⟩ = some (.slice ta tn tc) ∧ Y.cell? ⟨w.heap.size, 1, none⟩ = some (.slice na nn nc) ∧ Y.cell? ⟨w.heap.size, 2, none⟩ = some (.slice la ln lc) ∧ Y.cell? ⟨w.heap.size, 3, none⟩ = some (.int .i64 st) ∧ Y.cell? ⟨w.heap.size, 4, none⟩ = some (.slice pa n pc)) ∧ Y.cell? ⟨bx, 0, none⟩ = some (.slice (some ⟨sb, 0, none⟩) N sc) ∧ Y.cell? ⟨sb, i * 2, none⟩ = some (.slice ka kq kc)) (first | exact HKS.out _ HUP.out | exact HKS.out _ HG4.out | go_keep)
        ((first
          | (go_at_call 35; refine Calls.mono (HCC.out _ HUP.out) ?_; rintro e w4 ⟨l, hIC, hll, a3, c3, rfl, ho3, hg4⟩; have HG4 : Hid (wr.grownBy w4 none) := grown_trans HUP.out hg4; have HIC : Hid (IsClo tn n L R (ks.getD i []) l ∧ l.length ≤ (ks.getD i []).length + 13000) := ⟨hIC, hll⟩; have HO3 : Hid (w4.ownsRow wr.drew.heap.size 55 2 (.slice a3 l.length c3) l.length (itsV l)) := ho3; clear hIC hll ho3 hg4)
          | fail))
      have HIM : Hid (∀ x ∈ l, itB n R x = true) := fun x hx => ((HIC.out.1.mem x).1 hx).item (HAO.out.kok.each i (by rw [← HN.out]; exact hlt)).1
      have HGE : Hid (GG tn n L R (ks.getD i []) = fun s : Nat => kerT R l (s : Int)) := GG_eq HIC.out.1 HIC.out.2
      have HIL : Hid (i < ks.length) := by show _ < _; rw [← HN.out]; exact hlt
      have HLV : Hid (∀ s ks' ed, leaveF (fun s : Nat => kerT R l (s : Int)) ks s = some (ks', ed) → KsOK (PJ n R) ks' ∧ ks <+: ks' ∧ ed.length ≤ s) := fun s ks' ed h => by
        obtain ⟨h1, h2, h3, _⟩ := HAO.out.kok.leave (G := fun s : Nat => kerT R l (s : Int)) (fun m t hm => PJ.ker (HAO.out.kok.each i HIL.out) HIM.out HIC.out.2 (Nat.lt_of_lt_of_le HIL.out hm)) s h
        exact ⟨h1, h2, h3⟩
      have HLB : Hid (l.length ≤ 3341001) := by have h1 := HIC.out.2; have h2 := HQB.out; show _ ≤ _; omega
      have HEI : Hid (es.length = i) := by show _ = _; rw [HAO.out.len]; have := HIL.out; omega
      have HE0 : Hid (updL (elF es) i (edI []) = elF es) := by
        have h := elF_out (es := es) (j := i) (by rw [HEI.out]; exact Nat.le_refl _)
        refine funext fun j => ?_
        by_cases e : j = i
        · rw [e, updL_same, h]; rfl
        · rw [updL_other _ _ e]
      have HL1 : Hid (leaveF (fun s : Nat => kerT R l (s : Int)) ks 1 = some (ks, [])) := leaveF_skip rfl (by have h := HZ.out (ks.getD i []) (HAO.out.kok.each i HIL.out).1; rw [HGE.out] at h; exact h)
      obtain ⟨ak, hak⟩ : ∃ a : Nat, a = askN es := ⟨_, rfl⟩
      have HAK : Hid (ak = askN es) := hak
      have hakb : ak ≤ 33281 := by rw [hak]; exact hAN
      obtain ⟨q, hq⟩ : ∃ q, q = l.length := ⟨_, rfl⟩
      have HQ : Hid (q = l.length) := hq
      obtain ⟨Q1, hQ1⟩ : ∃ Q : Value → List It → Prop, Q = fun v m => v = .slice a3 q c3 ∧ m = l := ⟨_, rfl⟩
      have HQ1 : Hid (Q1 = fun v m => v = .slice a3 q c3 ∧ m = l) := hQ1
      have HD4 : Hid (DbAt P w4 bx ks ((ak + ([] : List (Nat × Nat)).length : Nat) : Int) (updL (elF es) i (edI [])) Q1) := by
        rw [HE0.out, List.length_nil, Nat.add_zero, hak]
        refine ⟨_, _, kv, ev, (HD.out.kept HG4.out).mono fun v m hm => ?_⟩
        rw [hQ1] at hm
        obtain ⟨rfl, rfl⟩ := hm
        rw [hq]
        exact owns_base HO3.out (Nat.le_trans HD.out.grown.size HUP.out.size)
      have HGF : Hid (∀ Y (s : Int), w.grownBy Y none → ItsAt Y a3 l → Calls Try.prog 36 #[.agg #[.slice ta tn tc, .slice na nn nc, .slice la ln lc, .int .i64 st, .slice pa n pc], .int .i64 s, .slice a3 q c3] Y fun e y => ItsTold (kerT R l s) Y e y) := fun Y s hY hI => by
        rw [hq]
        exact HFR.out Y a3 c3 l s hY hI (by have := HLB.out; omega) HIM.out HIC.out.1.asc
      rw [← hq]
      clear hq hak hQ1 hAN HKS HUP HCC HO3 HD
      go_wp2_with fail
      go_loopg [8] (S - 1) (fun gk v8 wr => ∃ (s : Nat) (ks' : List (List It)) (ed : List (Nat × Nat)), s ≤ S ∧ gk = S - s ∧ v8 = .int .i64 s ∧ leaveF (fun s : Nat => kerT R l (s : Int)) ks s = some (ks', ed) ∧ DbAt P wr bx ks' ((ak + ed.length : Nat) : Int) (updL (elF es) i (edI ed)) Q1)
      case atStart => exact ⟨1, ks, [], hS1, rfl, rfl, HL1.out, HD4.out⟩
      case round =>
        obtain ⟨s, ks', ed, hs, hgs, rfl, hlv, hD5⟩ := hrel
        have HGS : Hid (gk = S - s) := hgs
        have HLF : Hid (leaveF (fun s : Nat => kerT R l (s : Int)) ks s = some (ks', ed)) := hlv
        have HD5 : Hid (DbAt P wr bx ks' ((ak + ed.length : Nat) : Int) (updL (elF es) i (edI ed)) Q1) := hD5
        obtain ⟨hk1, hk2, hk3⟩ := HLV.out _ _ _ hlv
        obtain ⟨em, hem⟩ : ∃ m, m = ed.length := ⟨_, rfl⟩
        have HEM : Hid (em = ed.length) := hem
        have hems : em ≤ S := by omega
        have HK1 : Hid (KsOK (PJ n R) ks') := hk1
        have HI5 : Hid (i < ks'.length) := Nat.lt_of_lt_of_le HIL.out hk2.length_le
        rw [← hem] at HD5
        clear hgs hlv hD5 hk1 hk2 hk3 hem HD4
        obtain ⟨k0, k1, k2, k3, k4⟩ := (HP1.out.kept HD5.out.grown).cells
        go_wp2_with fail
        refine Calls.mono (HSY.out _) ?_
        rintro e w5 ⟨rfl, hg5⟩
        have HD6 : Hid (DbAt P w5 bx ks' ((ak + em : Nat) : Int) (updL (elF es) i (edI ed)) Q1) := HD5.out.kept hg5
        clear hg5 HD5 k0 k1 k2 k3 k4
        obtain ⟨k0, k1, k2, k3, k4⟩ := (HP1.out.kept HD6.out.grown).cells
        by_cases hlt2 : s < S
        · have hsd : decide (s < S) = true := decide_eq_true hlt2
          have HFC : Hid (Calls Try.prog 36 #[.agg #[.slice ta tn tc, .slice na nn nc, .slice la ln lc, .int .i64 st, .slice pa n pc], .int .i64 (s : Int), .slice a3 q c3] w5 fun e y => ItsTold (kerT R l (s : Int)) w5 e y) := by
            obtain ⟨sa5, sc5, kv5, ev5, h5⟩ := HD6.out
            have h6 := h5.pas (.slice a3 q c3) l (by rw [HQ1.out]; exact ⟨rfl, rfl⟩)
            exact HGF.out w5 (s : Int) (grown_trans HP1.out.grown h5.grown) (ItsAt.of (by rw [← HQ.out]; rw [← HQ.out] at h6; exact h6))
          go_wp2_with fail
          refine Calls.mono HFC.out ?_
          rintro e w6 ⟨a9, c9, rfl, ho9, hg6⟩
          obtain ⟨K, hK⟩ : ∃ K, K = kerT R l (s : Int) := ⟨_, rfl⟩
          have HKK : Hid (K = kerT R l (s : Int)) := hK
          have HKL : Hid (K.length ≤ 3341001) := by show _ ≤ _; rw [hK]; exact Nat.le_trans (kerT_len R l (s : Int)) HLB.out
          rw [← hK] at ho9 ⊢
          obtain ⟨kl, hkl⟩ : ∃ k, k = K.length := ⟨_, rfl⟩
          have HKN : Hid (kl = K.length) := hkl
          rw [← hkl] at ho9 ⊢
          have HO9 : Hid (w6.ownsRow P.heap.size 55 2 (.slice a9 kl c9) kl (itsV K)) := owns_base ho9 HD6.out.grown.size
          have HD7 : Hid (DbAt P w6 bx ks' ((ak + em : Nat) : Int) (updL (elF es) i (edI ed)) Q1) := HD6.out.kept hg6
          clear hK hkl ho9 hg6 HFC HD6 k0 k1 k2 k3 k4
          by_cases hk0 : kl = 0
          · have hkz : ((kl : Int) == 0) = true := beq_iff_eq.2 (by omega)
            have hkz1 : (kl == 0) = true := beq_iff_eq.2 hk0
            have HLF2 : Hid (leaveF (fun s : Nat => kerT R l (s : Int)) ks (s + 1) = some (ks', ed)) := leaveF_skip HLF.out (by show kerT R l (s : Int) = []; rw [← HKK.out]; exact List.eq_nil_of_length_eq_zero (by rw [← HKN.out]; exact hk0))
            clear hk0
            go_wp2_with fail
            go_roundg (S - (s + 1))
            case measure => have := HGS.out; omega
            case rel => exact ⟨s + 1, ks', ed, by omega, rfl, by go_num, HLF2.out, by rw [← HEM.out]; exact HD7.out⟩
          · have hkz : ((kl : Int) == 0) = false := beq_eq_false_iff_ne.2 (by omega)
            have hkz1 : (kl == 0) = false := beq_eq_false_iff_ne.2 hk0
            have HNE : Hid (kerT R l (s : Int) ≠ []) := by
              intro h
              rw [← HKK.out] at h
              exact hk0 (by rw [HKN.out, h]; rfl)
            obtain ⟨sa7, sc7, kv7, ev7, hD7⟩ := HD7.out
            obtain ⟨c, hc⟩ : ∃ c, c = ak + em := ⟨_, rfl⟩
            have HCA : Hid (c = ak + em) := hc
            have hcb : c ≤ 100000 := by omega
            obtain ⟨Q2, hQ2⟩ : ∃ Q : Value → List It → Prop, Q = fun v m => Q1 v m ∨ (v = .slice a9 kl c9 ∧ m = K) := ⟨_, rfl⟩
            have HQ2 : Hid (Q2 = fun v m => Q1 v m ∨ (v = .slice a9 kl c9 ∧ m = K)) := hQ2
            have hD7' : DbP P w6 bx (.slice sa7 ks'.length sc7) (c : Int) (ks'.length : Int) (.slice sa7 ks'.length sc7) ks'.length kv7 ev7 (fun i => ks'.getD i []) (updL (elF es) i (edI ed)) Q2 := by
              rw [hc]
              refine hD7.mono fun v m hm => ?_
              rw [hQ2] at hm
              rcases hm with hm | ⟨rfl, rfl⟩
              · exact hD7.pas v m hm
              · rw [← HKN.out]; exact HO9.out
            have hD8 := hD7'.setA ((c : Int) + 1)
            obtain ⟨X8, hX8⟩ : ∃ X, X = w6.setCell ⟨bx, 1, none⟩ (.int .i64 ((c : Int) + 1)) := ⟨_, rfl⟩
            have HX8 : Hid (X8 = w6.setCell ⟨bx, 1, none⟩ (.int .i64 ((c : Int) + 1))) := hX8
            rw [← hX8] at hD8
            obtain ⟨-, y1, -⟩ := hD7'.cells
            have f1 := hD7'.free 1
            obtain ⟨z0, -, -⟩ := hD8.cells
            obtain ⟨M, hM⟩ : ∃ m, m = ks'.length := ⟨_, rfl⟩
            have HM : Hid (M = ks'.length) := hM
            have hM256 : M ≤ 256 := by rw [hM]; exact HK1.out.le
            have hiM : i < M := by rw [hM]; exact HI5.out
            have hwc : IntKind.i64.wrap ((c : Int) + 1) = (c : Int) + 1 := by rw [IntKind.wrap_i64]; omega
            obtain ⟨pv, hpv⟩ : ∃ v, v = placeV ks' K := ⟨_, rfl⟩
            have HPL : Hid (Calls Try.prog 37 #[.slice sa7 M sc7, .slice a9 kl c9] X8 fun e y => e = .returned (.int .i64 pv) ∧ X8.grownBy y none) := by
              obtain ⟨pa7, pc7, h7⟩ := hD8.kers
              have h8 := hD8.pas (.slice a9 kl c9) K (by rw [hQ2]; exact .inr ⟨rfl, rfl⟩)
              rw [hM, hpv, HKN.out]
              rw [HKN.out] at h8
              refine rplace_any sa7 a9 sc7 c9 ks' pa7 pc7 K X8 h7 (ItsAt.of h8) HK1.out.le (fun j hj => ?_) (by have := HKL.out; omega)
              have h1 := (HK1.out.each j hj).2
              have h2 := HK1.out.le
              have h4 : 13000 * j ≤ 13000 * 256 := Nat.mul_le_mul_left _ (by omega)
              omega
            have HD8 : Hid (DbP P X8 bx (.slice sa7 M sc7) ((c : Int) + 1) (M : Int) (.slice sa7 M sc7) M kv7 ev7 (fun i => ks'.getD i []) (updL (elF es) i (edI ed)) Q2) := by rw [hM]; exact hD8
            rw [← hM] at z0
            rw [hX8] at z0
            have HPV : Hid (pv = placeV ks' K) := hpv
            clear hc hQ2 hD7 hD7' hD8 hX8 hM hpv HD7 HO9
            go_wp2_with fail
            rw [← HX8.out]
            refine Calls.mono HPL.out ?_
            rintro e w9 ⟨rfl, hg9⟩
            have HD9 : Hid (DbP P w9 bx (.slice sa7 M sc7) ((c : Int) + 1) (M : Int) (.slice sa7 M sc7) M kv7 ev7 (fun i => ks'.getD i []) (updL (elF es) i (edI ed)) Q2) := HD8.out.kept hg9
            clear hg9 y1 f1 z0 HPL HX8 HD8
            have hcs : K ∈ ks' ∨ (K ∉ ks' ∧ M < 256) ∨ (K ∉ ks' ∧ 256 ≤ M) := by
              by_cases h1 : K ∈ ks'
              · exact .inl h1
              · by_cases h2 : M < 256
                · exact .inr (.inl ⟨h1, h2⟩)
                · exact .inr (.inr ⟨h1, by omega⟩)
            rcases hcs with hm | ⟨hm, hf⟩ | ⟨hm, hf⟩
            case' inl =>
              obtain ⟨t, ht⟩ : ∃ t, t = ks'.idxOf K := ⟨_, rfl⟩
              obtain ⟨ks2, hks2⟩ : ∃ k, k = ks' := ⟨_, rfl⟩
              have HAF : Hid (askF ks' K = some (t, ks2)) := by
                show _ = _
                unfold askF
                rw [if_pos hm, ht, hks2]
              obtain rfl : pv = (t : Int) := by
                have := HPV.out
                unfold placeV at this
                rw [if_pos hm] at this
                rw [this, ht]
              have HD2 : Hid (DbAt P w9 bx ks2 ((c : Int) + 1) (updL (elF es) i (edI ed)) Q1) := by
                rw [hks2]
                refine ⟨sa7, sc7, kv7, ev7, ?_⟩
                have h := HD9.out.mono (Q' := Q1) fun v m hm => HD9.out.pas v m (by rw [HQ2.out]; exact .inl hm)
                rw [← HM.out]; exact h
              obtain ⟨X2, rfl⟩ : ∃ X, X = w9 := ⟨_, rfl⟩
              have htd : decide ((t : Int) < 0) = false := decide_eq_false (by omega)
              clear hm ht hks2 HD9 HPV
              go_wp2_with fail
            case' inr.inr =>
              have HNO : Hid (leaveF (fun s : Nat => kerT R l (s : Int)) ks S = none) := leaveF_full HLF.out HNE.out (by
                show askF ks' (kerT R l (s : Int)) = _
                rw [← HKK.out]
                unfold askF
                rw [if_neg hm, if_neg (by rw [← HM.out]; omega)]) hlt2
              have HN2 : Hid (autoF (GG tn n L R) S 256 = none) := by
                have hst := autoF_step HA.out HIL.out
                rw [HGE.out, HNO.out] at hst
                have h9 := autoF_none hst (256 - (i + 1))
                rwa [show i + 1 + (256 - (i + 1)) = 256 by omega] at h9
              obtain rfl : pv = -1 := by
                have := HPV.out
                unfold placeV at this
                rw [if_neg hm] at this
                exact this
              have HB9 : Hid (w9.heap[w.heap.size + 1]? = some (.cells #[.slice none 0 0, .int .i64 0, .int .i64 0] 42 (0, 0))) := box_kept HB1.out HD9.out.grown
              have HG9 : Hid (w.grownBy w9 none) := grown_trans HP1.out.grown HD9.out.grown
              obtain ⟨z0, -, -⟩ := HD9.out.cells
              have hfd : decide (256 ≤ M) = true := decide_eq_true hf
              have hfd2 : decide ((256 : Int) ≤ (M : Int)) = true := decide_eq_true (by omega)
              have k0 := cell_of_row w9 (w.heap.size + 1) 0 _ _ _ HB9.out
              have k1 := cell_of_row w9 (w.heap.size + 1) 1 _ _ _ HB9.out
              have k2 := cell_of_row w9 (w.heap.size + 1) 2 _ _ _ HB9.out
              have kf := fun j => frozen_of_row w9 (w.heap.size + 1) j _ _ HB9.out
              simp only [List.getElem?_toArray, List.getElem?_cons_zero, List.getElem?_cons_succ] at k0 k1 k2
              clear hm HD9 HPV
              go_wp2_with fail
              refine bodyPost_ret (v := .tuple #[.agg #[.slice none 0 0, .int .i64 0, .int .i64 0], .int .i64 11]) ?_ rfl ?_
              · exact results_rbuild _ _ (w.heap.size + 1) _ _ rfl rfl (set3_heap HB9.out _ _ _) rfl
              · exact .inr ⟨HN2.out, rfl, grown_new HG9.out (set3_grown _ _ _ _ _) (by omega)⟩
            case' inr.inl =>
              obtain rfl : pv = -1 := by
                have := HPV.out
                unfold placeV at this
                rw [if_neg hm] at this
                exact this
              have HAF0 : Hid (askF ks' K = some (M, ks' ++ [K])) := by
                show _ = _
                unfold askF
                rw [if_neg hm, if_pos (by rw [← HM.out]; exact hf), HM.out]
              obtain ⟨z0, -, z2⟩ := HD9.out.cells
              have f2 := HD9.out.free 2
              have hfd : decide (256 ≤ M) = false := decide_eq_false (by omega)
              have hfd2 : decide ((256 : Int) ≤ (M : Int)) = false := decide_eq_false (by omega)
              have hwm : IntKind.i64.wrap ((M : Int) + 1) = (M : Int) + 1 := by rw [IntKind.wrap_i64]; omega
              have hD10 := HD9.out.setI ((M : Int) + 1)
              have HD11 : Hid (DbP P ((w9.setCell ⟨bx, 2, none⟩ (.int .i64 ((M : Int) + 1))).alloc (.cells #[.slice a9 kl c9, .slice none 0 0] 53)) bx (.slice sa7 M sc7) ((c : Int) + 1) ((M : Int) + 1) (.slice sa7 M sc7) M kv7 ev7 (fun i => ks'.getD i []) (updL (elF es) i (edI ed)) Q2) := hD10.kept (World.grownBy_alloc _ _ none)
              obtain ⟨x0, -, -⟩ := hD10.cells
              have HNS : Hid (∀ j z, [Value.slice a9 kl c9, Value.slice none 0 0][j]? = some z → ((w9.setCell ⟨bx, 2, none⟩ (.int .i64 ((M : Int) + 1))).alloc (.cells #[.slice a9 kl c9, .slice none 0 0] 53)).cell? ((⟨(w9.setCell ⟨bx, 2, none⟩ (.int .i64 ((M : Int) + 1))).heap.size, 0, none⟩ : Addr).add j) = some z) := World.news_of_block (heap_alloc_last _ _)
              have e9 : (w9.setCell ⟨bx, 2, none⟩ (.int .i64 ((M : Int) + 1))).heap.size = w9.heap.size := by simp
              rw [e9] at HNS
              clear hm HPV hD10 e9
              go_wp2_with (at_builtin; refine wpList_append_srcW rfl (.tmp 74) (.tmp 77) 40 rfl P.heap.size 53 i2 (.agg #[.slice none 0 0, .slice none 0 0]) 2 48 Try.underlying40 hi2 hu0 hu1 hu2 rfl (by decide) (.slice sa7 M sc7) M (stV kv7 ev7 M) rfl HD11.out.row (some ⟨w9.heap.size, 0, none⟩) 1 1 [.slice a9 kl c9, .slice none 0 0] rfl (fun h => by cases h) rfl (fun ad e => by cases e; exact HNS.out) (by simp [Value.oneCell']) (by unfold maxLen; omega) (by omega) HD11.out.grown.size ?_)
              intro v12 wB hoB hgB
              obtain ⟨s12, c12, rfl⟩ := owns_cut hoB
              have hkk := HD11.out.pas (.slice a9 kl c9) K (by rw [HQ2.out]; exact .inr ⟨rfl, rfl⟩)
              have hD12 := HD11.out.pushS (rv' := .slice s12 (M + 1) c12) hkk hgB hoB
              have hD13 := hD12.setS (.slice s12 (M + 1) c12)
              obtain ⟨x0, -, -⟩ := hD12.cells
              have xf := hD12.free 0
              have HD2 : Hid (DbAt P (wB.setCell ⟨bx, 0, none⟩ (.slice s12 (M + 1) c12)) bx (ks' ++ [K]) ((c : Int) + 1) (updL (elF es) i (edI ed)) Q1) := by
                have e1 : updL (fun i => ks'.getD i []) M K = fun i => (ks' ++ [K]).getD i [] := by rw [HM.out]; exact db_more
                have e2 : updL (updL (elF es) i (edI ed)) M [] = updL (elF es) i (edI ed) := db_none fun j hj => by
                  rw [updL_other _ _ (by omega)]
                  exact elF_out (by rw [HEI.out]; omega)
                have e3 : (ks' ++ [K]).length = M + 1 := by rw [List.length_append, ← HM.out]; rfl
                rw [e1, e2] at hD13
                have h := hD13.mono (Q' := Q1) fun v m hm => hD13.pas v m (by rw [HQ2.out]; exact .inl hm)
                refine ⟨s12, c12, updL kv7 M (.slice a9 kl c9), updL ev7 M (.slice none 0 0), ?_⟩
                rw [e3]
                exact h
              clear hoB hgB hkk hD12 hD13 HD11 HNS HD9 z0 z2 f2
              go_wp2_with fail
              obtain ⟨X2, hX2⟩ : ∃ X, X = wB.setCell ⟨bx, 0, none⟩ (.slice s12 (M + 1) c12) := ⟨_, rfl⟩
              rw [← hX2] at HD2
              rw [← hX2]
              obtain ⟨ks2, hks2⟩ : ∃ k, k = ks' ++ [K] := ⟨_, rfl⟩
              rw [← hks2] at HD2 HAF0
              clear hX2 hks2 x0 xf hfd hfd2 hwm
              obtain ⟨t, rfl⟩ : ∃ t, t = M := ⟨_, rfl⟩
              have HAF : Hid (askF ks' K = some (t, ks2)) := HAF0.out
              clear HAF0
            all_goals
              have HLF2 : Hid (leaveF (fun s : Nat => kerT R l (s : Int)) ks (s + 1) = some (ks2, ed ++ [(s, t)])) := leaveF_push HLF.out HNE.out (by show askF ks' (kerT R l (s : Int)) = _; rw [← HKK.out]; exact HAF.out)
              have HL2 : Hid (i < ks2.length ∧ ks2.length ≤ 256) := by
                obtain ⟨h1, h2, _⟩ := HLV.out _ _ _ HLF2.out
                exact ⟨Nat.lt_of_lt_of_le HIL.out h2.length_le, h1.le⟩
              obtain ⟨sa2, sc2, kv2, ev2, hD2⟩ := HD2.out
              obtain ⟨sb2, sc3, hse2, hscell2⟩ := owns_at hD2.row (by have := HL2.out; omega)
              simp only [Value.slice.injEq] at hse2
              obtain ⟨rfl, _, rfl⟩ := hse2
              have r1 := hscell2 _ _ (stV_at kv2 ev2 ks2.length i HL2.out.1).2
              obtain ⟨ea, ec, hev⟩ := owns_cut (hD2.edg i HL2.out.1)
              have her := hD2.edg i HL2.out.1
              rw [hev] at r1 her
              simp only [updL_same] at r1 her
              rw [edI_len, ← HEM.out] at r1 her
              obtain ⟨N2, hN2⟩ : ∃ m, m = ks2.length := ⟨_, rfl⟩
              obtain ⟨x0, -, -⟩ := hD2.cells
              have hiN2 : (i : Int) < (N2 : Int) := by have := HL2.out.1; omega
              rw [← hN2] at x0
              have HRC : Hid (∀ Y, X2.grownBy Y none → Y.cell? ⟨bx, 0, none⟩ = some (.slice (some ⟨sb2, 0, none⟩) N2 sc2) ∧ Y.cell? ⟨sb2, i * 2 + 1, none⟩ = some (.slice ea em ec)) := fun Y hY => ⟨hY.cell x0 (by simp), hY.cell r1 (by simp)⟩
              have HOW : Hid (∀ Y, X2.grownBy Y none → Y.ownsRow P.heap.size 60 2 (.slice ea em ec) em (itsV (edI ed))) := fun Y hY => keep0 her hY
              have HPS : Hid (∀ Y, X2.grownBy Y none → P.heap.size ≤ Y.heap.size) := fun Y hY => (hD2.kept hY).grown.size
              have HFIN : Hid (∀ (Y Z : World) (g c' : Nat), X2.grownBy Y none → Y.grownBy Z (Value.slice ea em ec).ownBlock → Z.ownsRow P.heap.size 60 2 (.slice (some ⟨g, 0, none⟩) (em + 1) c') (em + 1) (itsV (edI ed) ++ [.int .i64 (s : Int), .int .i64 (t : Int)]) → ((Value.slice ea em ec).ownBlock = some g ∨ g = Y.heap.size) →
                  DbAt P (Z.setCell ⟨sb2, i * 2 + 1, none⟩ (.slice (some ⟨g, 0, none⟩) (em + 1) c')) bx ks2 ((ak + (ed ++ [(s, t)]).length : Nat) : Int) (updL (elF es) i (edI (ed ++ [(s, t)]))) Q1 ∧ Z.cell? ⟨sb2, i * 2 + 1, none⟩ = some (.slice ea em ec) ∧ Z.frozen? ⟨sb2, i * 2 + 1, none⟩ = false ∧ Z.cell? ⟨bx, 0, none⟩ = some (.slice (some ⟨sb2, 0, none⟩) N2 sc2)) := fun Y Z g c' hY hg ho hat => by
                have hl : (edI (ed ++ [(s, t)])).length = em + 1 := by rw [edI_len, List.length_append, ← HEM.out]; rfl
                have hE := (hD2.kept hY).pushE (i := i) (g := g) (c := c') (ed := edI (ed ++ [(s, t)])) HL2.out.1 (by rw [hev]; simp only [updL_same]; rw [edI_len, ← HEM.out]; exact hg) (by rw [hl, edI_snoc, itsV_append]; exact ho) (by rw [hev]; simp only [updL_same]; rw [edI_len, ← HEM.out]; exact hat)
                have hS9 := hE.set rfl HL2.out.1
                refine ⟨?_, ?_, ?_, ?_⟩
                · have e1 : updL (updL (elF es) i (edI ed)) i (edI (ed ++ [(s, t)])) = updL (elF es) i (edI (ed ++ [(s, t)])) := funext fun j => by
                    by_cases e : j = i
                    · rw [e, updL_same, updL_same]
                    · rw [updL_other _ _ e, updL_other _ _ e, updL_other _ _ e]
                  have e2 : ((ak + (ed ++ [(s, t)]).length : Nat) : Int) = (c : Int) + 1 := by
                    have h1 : (ed ++ [(s, t)]).length = em + 1 := by rw [List.length_append, ← HEM.out]; rfl
                    have h2 := HCA.out
                    omega
                  rw [e1, hl] at hS9
                  rw [e2]
                  exact ⟨_, _, _, _, hS9⟩
                · obtain ⟨g9, c9', e9, h9⟩ := owns_at hE.row (by have := HL2.out; omega)
                  simp only [Value.slice.injEq, Option.some.injEq, Addr.mk.injEq] at e9
                  obtain ⟨⟨rfl, _⟩, _⟩ := e9
                  rw [h9 _ _ (stV_at kv2 ev2 ks2.length i HL2.out.1).2, hev]
                  simp only [updL_same]
                  rw [edI_len, ← HEM.out]
                · rcases hE.row.2 with ⟨h1, _⟩ | ⟨g9, cap9, cur9, h1, _, hh, _⟩
                  · cases h1
                  · simp only [Value.slice.injEq, Option.some.injEq, Addr.mk.injEq] at h1
                    obtain ⟨⟨rfl, _⟩, _⟩ := h1
                    exact frozen_of_row _ _ _ _ _ hh
                · rw [hE.cells, hN2]
              obtain ⟨x1, x2⟩ := HRC.out X2 (grown_refl _ _)
              have x3 : ∀ o, (X2.alloc o).cell? ⟨bx, 0, none⟩ = some (.slice (some ⟨sb2, 0, none⟩) N2 sc2) := fun o => (HRC.out _ (World.grownBy_alloc _ _ none)).1
              have x4 : ∀ o, (X2.alloc o).cell? ⟨sb2, i * 2 + 1, none⟩ = some (.slice ea em ec) := fun o => (HRC.out _ (World.grownBy_alloc _ _ none)).2
              obtain ⟨xs, hxs⟩ : ∃ xs, xs = itsV (edI ed) := ⟨_, rfl⟩
              rw [← hxs] at HOW HFIN
              clear hD2 hscell2 hev her hN2 hxs x0 r1 HD2
              refine rb_edgeq (X2 := X2) (B := P.heap.size) (bx := bx) (sb2 := sb2) (N2 := N2) (sc2 := sc2) (i := i) (s := s) (t := t) (em := em) (ec := ec) (ea := ea) (xs := xs) x1 x2 x3 x4 hiN2 (by omega) HOW.out HPS.out ?_
              intro Y9 Z9 g9 c9 hY9 hg9 ho9 hat9
              obtain ⟨q1, q2, q3, q4⟩ := HFIN.out Y9 Z9 g9 c9 hY9 hg9 ho9 hat9
              refine ⟨q2, q3, q4, ?_⟩
              intro u80 u81 u82 u83 u84 u85 u86 u87 u88 u89 u90 u91 u92 u93 u94 u95
              have HQ9 := show Hid _ from q1
              clear q1 q2 q3 q4 hY9 hg9 ho9 hat9 x1 x2 x3 x4
              go_wp2_with fail
              go_roundg (S - (s + 1))
              case measure => have := HGS.out; omega
              case rel => exact ⟨s + 1, ks2, ed ++ [(s, t)], by omega, rfl, by go_num, HLF2.out, HQ9.out⟩
        · have hsS : S = s := by omega
          subst hsS
          have hsd : decide (S < S) = false := decide_eq_false (by omega)
          have HA2 : Hid (autoF (GG tn n L R) S (i + 1) = some (ks', es ++ [ed])) := by
            have hst := autoF_step HA.out HIL.out
            rw [HGE.out, HLF.out] at hst
            exact hst
          have HDN : Hid (DbAt P w5 bx ks' ((askN (es ++ [ed]) : Nat) : Int) (elF (es ++ [ed])) (fun _ _ => False)) := by
            obtain ⟨sa5, sc5, kv5, ev5, h5⟩ := HD6.out
            refine ⟨sa5, sc5, kv5, ev5, ?_⟩
            have h6 := h5.mono (Q' := fun _ _ => False) fun v m hm => hm.elim
            rw [← elF_snoc, askN_snoc, HEI.out, ← HAK.out, ← HEM.out]
            exact h6
          go_wp2_with fail
          go_roundg (256 - (i + 1))
          case measure => have := HGI.out; omega
          case rel => exact ⟨i + 1, ks', es ++ [ed], HA2.out, HI5.out, rfl, by go_num, HDN.out⟩
    · have hiN : N = i := by omega
      subst hiN
      have hid : decide (N < N) = false := decide_eq_false (by omega)
      have HA2 : Hid (autoF (GG tn n L R) S 256 = some (ks, es)) := by
        have h9 := autoF_stay HA.out (by rw [← HN.out]; exact Nat.le_refl _) (256 - N)
        rwa [show N + (256 - N) = 256 by omega] at h9
      have HB9 : Hid (wr.heap[w.heap.size + 1]? = some (.cells #[.slice none 0 0, .int .i64 0, .int .i64 0] 42 (0, 0))) := box_kept HB1.out HD.out.grown
      have HG9 : Hid (w.grownBy wr none) := grown_trans HP1.out.grown HD.out.grown
      have HAP : Hid (AutP w.heap.size wr (.slice sa ks.length sc) ks (elF es) kv ev) := ⟨owns_base HD.out.row HP1.out.grown.size, fun i hi => owns_base (HD.out.ker i hi) HP1.out.grown.size, fun i hi => owns_base (HD.out.edg i hi) HP1.out.grown.size⟩
      have k0 := cell_of_row wr (w.heap.size + 1) 0 _ _ _ HB9.out
      have k1 := cell_of_row wr (w.heap.size + 1) 1 _ _ _ HB9.out
      have k2 := cell_of_row wr (w.heap.size + 1) 2 _ _ _ HB9.out
      have kf := fun j => frozen_of_row wr (w.heap.size + 1) j _ _ HB9.out
      simp only [List.getElem?_toArray, List.getElem?_cons_zero, List.getElem?_cons_succ] at k0 k1 k2
      obtain ⟨ask, hask⟩ : ∃ a, a = (askN es : Int) := ⟨_, rfl⟩
      have HASK : Hid (ask = (askN es : Int)) := hask
      rw [← hask] at y1
      clear hask hau hAO hD HD HD1 hN hAN hgi
      go_wp2_with fail
      refine bodyPost_ret (v := .tuple #[.agg #[.slice sa N sc, .int .i64 ask, .int .i64 (N : Int)], .int .i64 0]) ?_ rfl ?_
      · exact results_rbuild _ _ (w.heap.size + 1) _ _ rfl rfl (set3_heap HB9.out _ _ _) rfl
      · refine .inl ⟨ks, es, sa, sc, kv, ev, HA2.out, ?_, ?_, grown_new HG9.out (set3_grown _ _ _ _ _) (by omega)⟩
        · rw [HASK.out, ← HN.out]
        · exact HAP.out.box HB9.out (by decide) (by decide) (by decide) (set3_grown _ _ _ _ _)
end

end Go.Proofs.Ytfllgmbnljfboaa.J

/-
  trans: the document's Way and Walk.
-/
namespace Go.Proofs.Ytfllgmbnljfboaa.J
open Go.RowKit Go.Maps Go.Shelf

attribute [local go_sem] Oper.semAt_some

theorem wayF_range {ks : List (List It)} {es : List (List (Nat × Nat))} (hE : EsOK ks es) : ∀ (r : List Int) (q v : Int), 0 ≤ q → q < (ks.length : Int) → wayF es (some q) r = some v → 0 ≤ v ∧ v < (ks.length : Int)
  | [], q, v, h0, h1, h => by
    unfold wayF at h
    cases h
    exact ⟨h0, h1⟩
  | s :: r, q, v, h0, h1, h => by
    unfold wayF at h
    cases h2 : leadA es (q, s) with
    | none => rw [h2, wayF_none] at h; cases h
    | some u =>
      rw [h2] at h
      have h3 := hE.lead h2
      exact wayF_range hE r u v h3.1 h3.2 h

set_option maxRecDepth 100000 in
theorem rway_any (sa : Option Addr) (sc : Nat) (ask nI : Int) (w : World) (B : Nat) (ks : List (List It)) (es : List (List (Nat × Nat))) (kv ev : Nat → Value) (hP : AutP B w (.slice sa ks.length sc) ks (elF es) kv ev) (hE : EsOK ks es) (q : Nat) (hq : q < ks.length) (ra : Option Addr) (rc : Nat) (row : List Int) (hr : IntsAt w ra row) (hrb : row.length ≤ 1099511627776000) :
    Calls Try.prog 25 #[.agg #[.slice sa ks.length sc, .int .i64 ask, .int .i64 nI], .int .i64 (q : Int), .slice ra row.length rc] w fun e y => e = .returned (.int .i64 (wayV (wayF es (some (q : Int)) row))) ∧ w.grownBy y none := by
  obtain ⟨N, hN⟩ : ∃ n, n = ks.length := ⟨_, rfl⟩
  have HN : Hid (N = ks.length) := hN
  have HNX : Hid (∀ Y (v : Nat) (s : Int), w.grownBy Y none → v < N → Calls Try.prog 16 #[.agg #[.slice sa N sc, .int .i64 ask, .int .i64 nI], .int .i64 (v : Int), .int .i64 s] Y fun e y => e = .returned (.int .i64 (wayV (leadA es ((v : Int), s)))) ∧ Y.grownBy y none) := fun Y v s hY hv => by
    have h := rnext_any sa sc ask nI Y B ks es kv ev (hP.kept hY) hE.short v (by rw [← hN]; exact hv) s
    rw [← leadA_at es (by rw [hE.len, ← hN]; exact hv)] at h
    rw [hN]; exact h
  have HRG : Hid (∀ i v, wayF es (some (q : Int)) (row.take i) = some v → 0 ≤ v ∧ v < (N : Int)) := fun i v h => by
    rw [hN]
    exact wayF_range hE (row.take i) (q : Int) v (by omega) (by omega) h
  have HROW : Hid (∀ Y, w.grownBy Y none → IntsAt Y ra row) := fun Y hY => hr.kept hY
  obtain ⟨m, hm⟩ : ∃ m, m = row.length := ⟨_, rfl⟩
  have HM : Hid (m = row.length) := hm
  have HX0 : Hid (w.grownBy (w.alloc (.cells #[.slice sa N sc, .int .i64 ask, .int .i64 nI] 42)) none ∧ (w.alloc (.cells #[.slice sa N sc, .int .i64 ask, .int .i64 nI] 42)).heap[w.heap.size]? = some (.cells #[.slice sa N sc, .int .i64 ask, .int .i64 nI] 42 (0, 0))) := ⟨World.grownBy_alloc _ _ none, heap_alloc_last w _⟩
  rw [← hN] at hq
  rw [← hm] at hrb
  rw [← hN, ← hm]
  clear hP hE hr hN hm
  go_enter Try.func25, Try.ntmps25
  go_wp2_with fail
  go_loopg [1, 7] m (fun gk v1 v7 wr => ∃ i : Nat, i ≤ m ∧ gk = m - i ∧ v7 = .int .i64 i ∧ v1 = .int .i64 (wayV (wayF es (some (q : Int)) (row.take i))) ∧ w.grownBy wr none ∧ wr.heap[w.heap.size]? = some (.cells #[.slice sa N sc, .int .i64 ask, .int .i64 nI] 42 (0, 0)))
  case atStart => exact ⟨0, Nat.zero_le _, rfl, rfl, rfl, HX0.out.1, HX0.out.2⟩
  case round =>
    obtain ⟨i, hi, hgi, rfl, rfl, hg, hb⟩ := hrel
    have HGI : Hid (gk = m - i) := hgi
    have HG : Hid (w.grownBy wr none ∧ wr.heap[w.heap.size]? = some (.cells #[.slice sa N sc, .int .i64 ask, .int .i64 nI] 42 (0, 0))) := ⟨hg, hb⟩
    clear hgi hg hb HX0
    by_cases hlt : i < m
    · have hid : decide (i < m) = true := decide_eq_true hlt
      have hi0 : (0 : Int) ≤ (i : Int) := by omega
      have hi1 : (i : Int) < (m : Int) := by omega
      cases hw : wayF es (some (q : Int)) (row.take i) with
      | none =>
        have HF : Hid (wayF es (some (q : Int)) row = none) := wayF_lost es _ hw
        clear hw
        unfold wayV
        go_wp2_with fail
        go_ret
        exact ⟨by rw [HF.out]; rfl, HG.out.1⟩
      | some v =>
        have hv := HRG.out i v hw
        obtain ⟨vn, rfl⟩ : ∃ vn : Nat, v = (vn : Int) := ⟨v.toNat, by omega⟩
        have hvd : decide ((0 : Int) ≤ (vn : Int)) = true := decide_eq_true hv.1
        have hil : i < row.length := by rw [← HM.out]; exact hlt
        obtain ⟨rb, ro, rfl, hrc⟩ : ∃ b off, ra = some ⟨b, off, none⟩ ∧ wr.cell? ⟨b, off + i, none⟩ = some (.int .i64 (row.getD i 0)) := by
          rcases HROW.out wr HG.out.1 with h | ⟨b, off, e, h⟩
          · rw [h] at hil; cases hil
          · exact ⟨b, off, e, h i hil⟩
        have HTK : Hid (wayF es (some (q : Int)) (row.take (i + 1)) = leadA es ((vn : Int), row.getD i 0)) := by
          show _ = _
          rw [wayF_take es hil, hw]
          rfl
        obtain ⟨x, hx⟩ : ∃ x, x = row.getD i 0 := ⟨_, rfl⟩
        rw [← hx] at hrc HTK
        have HC : Hid (∀ Y, wr.grownBy Y none → Calls Try.prog 16 #[.agg #[.slice sa N sc, .int .i64 ask, .int .i64 nI], .int .i64 (vn : Int), .int .i64 x] Y fun e y => e = .returned (.int .i64 (wayV (leadA es ((vn : Int), x)))) ∧ Y.grownBy y none) := fun Y hY => HNX.out Y vn x (grown_trans HG.out.1 hY) (by omega)
        have HKS : Hid (∀ Y, wr.grownBy Y none → (Y.cell? ⟨w.heap.size, 0, none⟩ = some (.slice sa N sc) ∧ Y.cell? ⟨w.heap.size, 1, none⟩ = some (.int .i64 ask) ∧ Y.cell? ⟨w.heap.size, 2, none⟩ = some (.int .i64 nI)) ∧ Y.cell? ⟨rb, ro + i, none⟩ = some (.int .i64 x)) := fun Y hY => by
          have h := box_kept HG.out.2 hY
          exact ⟨⟨by rw [cell_of_row _ _ _ _ _ _ h]; rfl, by rw [cell_of_row _ _ _ _ _ _ h]; rfl, by rw [cell_of_row _ _ _ _ _ _ h]; rfl⟩, hY.cell hrc (by simp)⟩
        have HUP : Hid (wr.grownBy wr.drew none) := grown_drewN _ 1
        obtain ⟨r, hr⟩ : ∃ r, r = wayV (leadA es ((vn : Int), x)) := ⟨_, rfl⟩
        have HR : Hid (r = wayV (leadA es ((vn : Int), x))) := hr
        rw [← hr] at HC
        clear hw hx hrc hil hv hr
        unfold wayV
        go_wp2_with fail
        go_region_held3 (fun Y => (Y.cell? ⟨w.heap.size, 0, none⟩ = some (.slice sa N sc) ∧ Y.cell? ⟨w.heap.size, 1, none⟩ = some (.int .i64 ask) ∧ Y.cell? ⟨w.heap.size, 2, none⟩ = some (.int .i64 nI)) ∧ Y.cell? ⟨rb, ro + i, none⟩ = some (.int .i64 x)) (first | exact HKS.out _ HUP.out | exact HKS.out _ HG4.out | go_keep)
          ((first
            | (go_at_call 16; refine Calls.mono (HC.out _ HUP.out) ?_; rintro e w4 ⟨rfl, hg4⟩; have HG4 : Hid (wr.grownBy w4 none) := grown_trans HUP.out hg4; clear hg4)
            | fail))
        go_wp2_with fail
        go_roundg (m - (i + 1))
        case measure => have := HGI.out; omega
        case rel => exact ⟨i + 1, by omega, rfl, by go_num, by rw [HTK.out, HR.out], grown_trans HG.out.1 HG4.out, box_kept HG.out.2 HG4.out⟩
    · have him : m = i := by omega
      subst him
      have hid : decide (m < m) = false := decide_eq_false (by omega)
      have HF : Hid (row.take m = row) := by show _ = _; rw [HM.out]; exact List.take_length
      rw [HF.out]
      go_wp2_with fail
      go_ret
      exact ⟨rfl, HG.out.1⟩

section
variable (ta na la pa : Option Addr) (tc nc lc pc : Nat) (n : Nat) (st : Int) (w : World) (tn nn ln : Nat)
set_option maxRecDepth 100000 in
theorem rwalk_bad (ec : Int) (hec : ec = 1 ∨ ec = 11) (z : Int) (ra : Option Addr) (rl rc : Nat)
    (hBU : ∀ X, w.grownBy X none → Calls Try.prog 23 #[.agg #[.slice ta tn tc, .slice na nn nc, .slice la ln lc, .int .i64 st, .slice pa n pc]] X fun e y => e = .returned (.tuple #[.agg #[.slice none 0 0, .int .i64 0, .int .i64 0], .int .i64 ec]) ∧ X.grownBy y none) :
    Calls Try.prog 11 #[.agg #[.slice ta tn tc, .slice na nn nc, .slice la ln lc, .int .i64 st, .slice pa n pc], .int .i64 z, .slice ra rl rc] w fun e y => e = .returned (.tuple #[.int .i64 0, .int .i64 ec]) ∧ w.grownBy y none := by
  have HBU := show Hid _ from hBU
  have HX0 : Hid (w.grownBy (w.alloc (.cells #[.slice ta tn tc, .slice na nn nc, .slice la ln lc, .int .i64 st, .slice pa n pc] 27)) none) := World.grownBy_alloc _ _ none
  have hne : (ec != 0) = true := bne_iff_ne.2 (by omega)
  clear hBU hec
  go_enter Try.func11, Try.ntmps11
  go_wp2_with fail
  refine Calls.mono (HBU.out _ HX0.out) ?_
  rintro e w1 ⟨rfl, hg1⟩
  have HG1 : Hid (w.grownBy w1 none) := grown_trans HX0.out hg1
  clear hg1
  go_wp2_with fail
  go_ret2
  exact ⟨rfl, grown_trans HG1.out (World.grownBy_alloc _ _ none)⟩

set_option maxRecDepth 100000 in
set_option maxHeartbeats 4000000 in
theorem rwalk_any (N : Nat) (ask : Int) (htn : tn ≤ 65) (hnn : nn ≤ 65) (ks : List (List It)) (es : List (List (Nat × Nat))) (hN : N = ks.length) (hE : EsOK ks es) (z : Int) (ra : Option Addr) (rc : Nat) (row : List Int) (hr : IntsAt w ra row) (hrb : row.length ≤ 1099511627776000)
    (hBU : ∀ X, w.grownBy X none → Calls Try.prog 23 #[.agg #[.slice ta tn tc, .slice na nn nc, .slice la ln lc, .int .i64 st, .slice pa n pc]] X fun e y => ∃ sa sc kv ev, e = .returned (.tuple #[.agg #[.slice sa N sc, .int .i64 ask, .int .i64 (N : Int)], .int .i64 0]) ∧ AutP X.heap.size y (.slice sa ks.length sc) ks (elF es) kv ev ∧ X.grownBy y none)
    (vv ev0 : Int) (hbad : (z < 0 ∨ (N : Int) ≤ z ∨ ∃ x ∈ row, noB (tn + nn) x = true) → vv = 0 ∧ ev0 = 1) (hgood : ∀ q : Nat, z = (q : Int) → q < N → (∀ x ∈ row, noB (tn + nn) x = false) → vv = wayV (wayF es (some (q : Int)) row) ∧ ev0 = 0) :
    Calls Try.prog 11 #[.agg #[.slice ta tn tc, .slice na nn nc, .slice la ln lc, .int .i64 st, .slice pa n pc], .int .i64 z, .slice ra row.length rc] w fun e y => e = .returned (.tuple #[.int .i64 vv, .int .i64 ev0]) ∧ w.grownBy y none := by
  have HBU := show Hid _ from hBU
  have HBAD := show Hid _ from hbad
  have HGOOD := show Hid _ from hgood
  have HE : Hid (EsOK ks es) := hE
  have HN : Hid (N = ks.length) := hN
  have HROW : Hid (∀ Y, w.grownBy Y none → IntsAt Y ra row) := fun Y hY => hr.kept hY
  obtain ⟨S, hS⟩ : ∃ S, S = tn + nn := ⟨_, rfl⟩
  have HSE : Hid (S = tn + nn) := hS
  have HSY : Hid (∀ X, Calls Try.prog 24 #[.agg #[.slice ta tn tc, .slice na nn nc, .slice la ln lc, .int .i64 st, .slice pa n pc]] X fun e y => e = .returned (.int .i64 (S : Int)) ∧ X.grownBy y none) := fun X => by
    refine (Go.Proofs.Ytfllgmbnljfboaa.symbols_any ta na la pa tn nn ln n tc nc lc pc st X (by omega) (by omega)).mono ?_
    rintro e y ⟨rfl, hg⟩
    exact ⟨by rw [hS, Int.natCast_add], hg⟩
  obtain ⟨m, hm⟩ : ∃ m, m = row.length := ⟨_, rfl⟩
  have HM : Hid (m = row.length) := hm
  have HX0 : Hid (PhAt w (w.alloc (.cells #[.slice ta tn tc, .slice na nn nc, .slice la ln lc, .int .i64 st, .slice pa n pc] 27)) w.heap.size #[.slice ta tn tc, .slice na nn nc, .slice la ln lc, .int .i64 st, .slice pa n pc]) := ⟨World.grownBy_alloc _ _ none, heap_alloc_last w _⟩
  rw [← hm] at hrb
  rw [← hm]
  clear hBU hbad hgood hE hN hr hS hm
  go_enter Try.func11, Try.ntmps11
  go_wp2_with fail
  refine Calls.mono (HBU.out _ HX0.out.grown) ?_
  rintro e w2 ⟨sa, sc, kv, ev, rfl, hAP, hg2⟩
  obtain ⟨ab, hab⟩ : ∃ b, b = w2.heap.size := ⟨_, rfl⟩
  obtain ⟨W, hW⟩ : ∃ W, W = w2.alloc (.cells #[.slice sa N sc, .int .i64 ask, .int .i64 (N : Int)] 42) := ⟨_, rfl⟩
  have hgW : w2.grownBy W none := by rw [hW]; exact World.grownBy_alloc _ _ none
  have HXW : Hid (PhAt w W w.heap.size #[.slice ta tn tc, .slice na nn nc, .slice la ln lc, .int .i64 st, .slice pa n pc]) := HX0.out.kept (grown_trans hg2 hgW)
  have HAW : Hid (W.heap[ab]? = some (.cells #[.slice sa N sc, .int .i64 ask, .int .i64 (N : Int)] 42 (0, 0))) := by rw [hW, hab]; exact heap_alloc_last w2 _
  have HWE := show Hid _ from hW
  have HBE := show Hid _ from hab
  have HWY : Hid (∀ Y (q : Nat), W.grownBy Y none → q < N → Calls Try.prog 25 #[.agg #[.slice sa N sc, .int .i64 ask, .int .i64 (N : Int)], .int .i64 (q : Int), .slice ra m rc] Y fun e y => e = .returned (.int .i64 (wayV (wayF es (some (q : Int)) row))) ∧ Y.grownBy y none) := fun Y q hY hq => by
    have h := rway_any sa sc ask (N : Int) Y _ ks es kv ev (hAP.kept (grown_trans hgW hY)) HE.out q (by rw [← HN.out]; exact hq) ra rc row (HROW.out Y (grown_trans HXW.out.grown hY)) (by rw [← HM.out]; exact hrb)
    rw [← HN.out, ← HM.out] at h
    exact h
  have HAC : Hid (∀ Y, W.grownBy Y none → Y.cell? ⟨ab, 0, none⟩ = some (.slice sa N sc) ∧ Y.cell? ⟨ab, 1, none⟩ = some (.int .i64 ask) ∧ Y.cell? ⟨ab, 2, none⟩ = some (.int .i64 (N : Int))) := fun Y hY => by
    have h := box_kept HAW.out hY
    exact ⟨by rw [cell_of_row _ _ _ _ _ _ h]; rfl, by rw [cell_of_row _ _ _ _ _ _ h]; rfl, by rw [cell_of_row _ _ _ _ _ _ h]; rfl⟩
  obtain ⟨y0, -, -⟩ := HAC.out W (grown_refl _ _)
  rw [HWE.out, HBE.out] at y0
  clear hg2 hAP HX0 hW hab hgW HAW
  by_cases hz : z < 0
  · have hzd : decide (z < 0) = true := decide_eq_true hz
    obtain ⟨rfl, rfl⟩ := HBAD.out (.inl hz)
    clear hz
    go_wp2_with fail
    go_ret2
    refine ⟨rfl, ?_⟩
    have h := HXW.out.grown
    rw [HWE.out] at h
    exact h
  · have hzd : decide (z < 0) = false := decide_eq_false hz
    obtain ⟨q, rfl⟩ : ∃ q : Nat, z = (q : Int) := ⟨z.toNat, by omega⟩
    by_cases hqN : N ≤ q
    · have hqd : decide ((N : Int) ≤ (q : Int)) = true := decide_eq_true (by omega)
      have hqd2 : decide (N ≤ q) = true := decide_eq_true hqN
      obtain ⟨rfl, rfl⟩ := HBAD.out (.inr (.inl (by omega)))
      clear hz
      go_wp2_with fail
      go_ret2
      refine ⟨rfl, ?_⟩
      have h := HXW.out.grown
      rw [HWE.out] at h
      exact h
    · have hqd : decide ((N : Int) ≤ (q : Int)) = false := decide_eq_false (by omega)
      have hqd2 : decide (N ≤ q) = false := decide_eq_false hqN
      clear hz
      go_wp2_with fail
      rw [← HWE.out, ← HBE.out]
      clear y0 HWE HBE
      go_loopg [10] m (fun gk v10 wr => ∃ i : Nat, i ≤ m ∧ gk = m - i ∧ v10 = .int .i64 i ∧ W.grownBy wr none ∧ ∀ j, j < i → noB S (row.getD j 0) = false)
      case atStart => exact ⟨0, Nat.zero_le _, rfl, rfl, grown_refl _ _, fun j hj => absurd hj (Nat.not_lt_zero _)⟩
      case round =>
        obtain ⟨i, hi, hgi, rfl, hg, hno⟩ := hrel
        have HGI : Hid (gk = m - i) := hgi
        have HG : Hid (W.grownBy wr none) := hg
        have HNO : Hid (∀ j, j < i → noB S (row.getD j 0) = false) := hno
        clear hgi hg hno
        by_cases hlt : i < m
        · have hid : decide (i < m) = true := decide_eq_true hlt
          have hi0 : (0 : Int) ≤ (i : Int) := by omega
          have hi1 : (i : Int) < (m : Int) := by omega
          have hil : i < row.length := by rw [← HM.out]; exact hlt
          obtain ⟨rb, ro, hra⟩ : ∃ rb ro, ra = some ⟨rb, ro, none⟩ := by
            rcases HROW.out w (grown_refl _ _) with h | ⟨b, off, e, h⟩
            · rw [h] at hil; cases hil
            · exact ⟨b, off, e⟩
          subst hra
          have HRC : Hid (∀ Y, wr.grownBy Y none → Y.cell? ⟨rb, ro + i, none⟩ = some (.int .i64 (row.getD i 0))) := fun Y hY => by
            rcases HROW.out Y (grown_trans HXW.out.grown (grown_trans HG.out hY)) with h | ⟨b, off, e, h⟩
            · rw [h] at hil; cases hil
            · cases e; exact h i hil
          have hmem : row.getD i 0 ∈ row := by rw [List.getD_eq_getElem?_getD, List.getElem?_eq_getElem hil]; exact List.getElem_mem hil
          obtain ⟨bn, hbn⟩ : ∃ b, b = noB S (row.getD i 0) := ⟨_, rfl⟩
          have HBN : Hid (bn = true → vv = 0 ∧ ev0 = 1) := fun h => HBAD.out (.inr (.inr ⟨_, hmem, by rw [← HSE.out, ← hbn]; exact h⟩))
          have HNN : Hid (bn = false → ∀ j, j < i + 1 → noB S (row.getD j 0) = false) := fun h j hj => by
            by_cases e : j = i
            · rw [e, ← hbn]; exact h
            · exact HNO.out j (by omega)
          obtain ⟨x, hx⟩ : ∃ x, x = row.getD i 0 := ⟨_, rfl⟩
          rw [← hx] at HRC hbn
          have g0 := fun s : WBox (fun y => wr.grownBy y none) => (HXW.out.kept (grown_trans HG.out s.ok)).cells.1
          have g1 := fun s : WBox (fun y => wr.grownBy y none) => (HXW.out.kept (grown_trans HG.out s.ok)).cells.2.1
          have g2 := fun s : WBox (fun y => wr.grownBy y none) => (HXW.out.kept (grown_trans HG.out s.ok)).cells.2.2.1
          have g3 := fun s : WBox (fun y => wr.grownBy y none) => (HXW.out.kept (grown_trans HG.out s.ok)).cells.2.2.2.1
          have g4 := fun s : WBox (fun y => wr.grownBy y none) => (HXW.out.kept (grown_trans HG.out s.ok)).cells.2.2.2.2
          have e0 := fun s : WBox (fun y => wr.grownBy y none) => HRC.out s.w s.ok
          have K1 : Hid (∀ s : WBox (fun y => wr.grownBy y none), Calls Try.prog 24 #[.agg #[.slice ta tn tc, .slice na nn nc, .slice la ln lc, .int .i64 st, .slice pa n pc]] s.w fun e w' => e = .returned (.int .i64 (S : Int)) ∧ ∃ s' : WBox (fun y => wr.grownBy y none), w' = s'.w) := fun s => calls_class ((HSY.out s.w).mono fun e w' h => ⟨h.1, grown_trans s.ok h.2⟩)
          have hA : wr.grownBy wr.drew none := grown_drewN _ 1
          haveI hne : Nonempty (WBox (fun y => wr.grownBy y none)) := ⟨⟨_, hA⟩⟩
          have hi2 : decide ((i : Int) < (m : Int)) = true := decide_eq_true hi1
          have hi4 : ((i : Int) == (m : Int)) = false := beq_eq_false_iff_ne.2 (by omega)
          clear hx hil hmem
          by_cases hx0 : x < 0
          · have hxd : decide (x < 0) = true := decide_eq_true hx0
            have hbt : bn = true := by rw [hbn]; unfold noB; rw [decide_eq_false (by omega)]; rfl
            obtain ⟨rfl, rfl⟩ := HBN.out hbt
            clear hbn hbt HNN HBN hx0
            go_wp2_with fail
            refine wp_region_class (p := fun y => wr.grownBy y none) (by kernel_rfl) (by kernel_rfl) hA ?_
            repeat (go_big_quiet_step (first | (go_at_call 24; rename_i s; with_reducible exact K1.out s)))
            refine wpQuiet_nil ?_
            rintro _ ⟨s, rfl⟩
            go_wp2_with fail
            go_ret2
            exact ⟨rfl, grown_trans HXW.out.grown (grown_trans HG.out s.ok)⟩
          · have hxd : decide (x < 0) = false := decide_eq_false hx0
            by_cases hx1 : (S : Int) ≤ x
            · have hxe : decide ((S : Int) ≤ x) = true := decide_eq_true hx1
              have hbt : bn = true := by rw [hbn]; unfold noB; rw [decide_eq_false (by omega)]; rfl
              obtain ⟨rfl, rfl⟩ := HBN.out hbt
              clear hbn hbt HNN HBN hx0 hx1
              go_wp2_with fail
              refine wp_region_class (p := fun y => wr.grownBy y none) (by kernel_rfl) (by kernel_rfl) hA ?_
              repeat (go_big_quiet_step (first | (go_at_call 24; rename_i s; with_reducible exact K1.out s)))
              refine wpQuiet_nil ?_
              rintro _ ⟨s, rfl⟩
              go_wp2_with fail
              go_ret2
              exact ⟨rfl, grown_trans HXW.out.grown (grown_trans HG.out s.ok)⟩
            · have hxe : decide ((S : Int) ≤ x) = false := decide_eq_false hx1
              have hbt : bn = false := by rw [hbn]; unfold noB; rw [decide_eq_true (by omega)]; rfl
              have HNX := show Hid _ from HNN.out hbt
              clear hbn hbt HNN HBN hx0 hx1
              go_wp2_with fail
              refine wp_region_class (p := fun y => wr.grownBy y none) (by kernel_rfl) (by kernel_rfl) hA ?_
              repeat (go_big_quiet_step (first | (go_at_call 24; rename_i s; with_reducible exact K1.out s)))
              refine wpQuiet_nil ?_
              rintro _ ⟨s, rfl⟩
              go_wp2_with fail
              go_roundg (m - (i + 1))
              case measure => have := HGI.out; omega
              case rel => exact ⟨i + 1, by omega, rfl, by go_num, grown_trans HG.out s.ok, HNX.out⟩
        · have him : m = i := by omega
          subst him
          have hid : decide (m < m) = false := decide_eq_false (by omega)
          obtain ⟨rfl, rfl⟩ := HGOOD.out q rfl (by omega) (fun x hx => by
            obtain ⟨j, hj, h3⟩ := List.getElem_of_mem hx
            have h4 := HNO.out j (by rw [HM.out]; exact hj)
            rw [List.getD_eq_getElem?_getD, List.getElem?_eq_getElem hj, h3] at h4
            rw [← HSE.out]; exact h4)
          have HC := show Hid _ from HWY.out wr q HG.out (by omega)
          obtain ⟨y0, y1, y2⟩ := HAC.out wr HG.out
          obtain ⟨r, hr⟩ : ∃ r, r = wayV (wayF es (some (q : Int)) row) := ⟨_, rfl⟩
          have HR : Hid (r = wayV (wayF es (some (q : Int)) row)) := hr
          rw [← hr] at HC
          clear hr
          go_wp2_with fail
          refine Calls.mono HC.out ?_
          rintro e w4 ⟨rfl, hg4⟩
          have HG4 : Hid (w.grownBy w4 none) := grown_trans HXW.out.grown (grown_trans HG.out hg4)
          clear hg4
          go_wp2_with fail
          go_ret2
          exact ⟨by rw [HR.out]; rfl, HG4.out⟩
end

end Go.Proofs.Ytfllgmbnljfboaa.J
