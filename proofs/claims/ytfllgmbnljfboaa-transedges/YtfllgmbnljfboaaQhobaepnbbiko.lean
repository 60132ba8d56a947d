import Derived.Test.YtfllgmbnljfboaaQimnigofcdkme

/-
  trans: automatonOf of any grammar; the law's awake.
-/
namespace Go.Proofs.Ytfllgmbnljfboaa.J
open Go.RowKit Go.Maps Go.Shelf

attribute [local go_sem] Oper.semAt_some

theorem esOK_of {G : List It → Nat → List It} {n : Nat} {R : Nat → List Int} {S : Nat} {ks : List (List It)} {es : List (List (Nat × Nat))} (h : AutF G n R S ks es) (hS : S ≤ 130) : EsOK ks es :=
  ⟨h.kok.le, h.len, fun q hq => ⟨by rw [h.elen hq]; exact Nat.le_trans (symsT_len _ _) hS, by rw [h.fst q hq]; exact symsT_nodup _ _, fun x hx => by
    have := h.snd q hq x hx
    omega⟩⟩

section
variable (ta na la pa : Option Addr) (tc nc lc pc : Nat) (ts : List (ByteArray × Int)) (ns : List ByteArray) (lv : List Int) (n : Nat) (L : Nat → Int) (R : Nat → List Int) (ra : Nat → Option Addr) (rc : Nat → Nat) (V : Nat → Int) (st : Int) (w : World) (tn nn ln : Nat) (hlen : ts.length = tn ∧ ns.length = nn ∧ lv.length = ln) (hG : GAt w ta na la pa tc nc lc pc ts ns lv n L R ra rc V)
include hlen hG
theorem ofBad1 (hc : ¬ closedOK ts ns lv st n L R V) : OfBad ta na la pa tc nc lc pc n st w tn nn ln 1 := fun X hX =>
  of_bad ta na la pa tc nc lc pc n st X tn nn ln 1 (.inl rfl) fun Y hY => buildBad ta na la pa tc nc lc pc ts ns lv n L R ra rc V st Y tn nn ln hlen (hG.kept (grown_trans hX hY)) hc
theorem ofBad11 (hc : closedOK ts ns lv st n L R V) (h : autoF (GG tn n L R) (tn + nn) 256 = none) : OfBad ta na la pa tc nc lc pc n st w tn nn ln 11 := fun X hX =>
  of_bad ta na la pa tc nc lc pc n st X tn nn ln 11 (.inr rfl) fun Y hY => build_none ta na la pa tc nc lc pc ts ns lv n L R ra rc V st w tn nn ln hlen hG hc h Y (grown_trans hX hY)
theorem ofOk (hc : closedOK ts ns lv st n L R V) {ks : List (List It)} {es : List (List (Nat × Nat))} (h : autoF (GG tn n L R) (tn + nn) 256 = some (ks, es)) : OfOk ta na la pa tc nc lc pc n st w tn nn ln ks es ∧ EsOK ks es := by
  have hM : MayOK tn nn n st L R true := by obtain ⟨rfl, rfl, rfl⟩ := hlen; exact mayOK_closed hc
  have hE : EsOK ks es := esOK_of (autF hM.p0 h) (by have := hM.tmax; have := hM.nmax; omega)
  refine ⟨fun X hX => of_ok ta na la pa tc nc lc pc n st X tn nn ln (askN es) ks es hE.le hE.len (fun q hq => ⟨(hE.each q hq).1, (hE.each q hq).2.1, fun x hx => by have := (hE.each q hq).2.2 x hx; have := hE.le; omega⟩) fun Y hY => ?_, hE⟩
  refine (build_some ta na la pa tc nc lc pc ts ns lv n L R ra rc V st w tn nn ln hlen hG hc h Y (grown_trans hX hY)).mono ?_
  rintro e y ⟨sa, sc, kv, ev, he, hAP, hg⟩
  exact ⟨sa, sc, kv, ev, he, hAP.base hY.size, hg⟩
end

theorem k_ggT : autoF (GG 3 3 kL kR) 5 256 = some (kKs, kEs) := by
  have h : ∀ k ∈ kKs, IsClo 3 3 kL kR k (CLo 3 3 kL kR k) := fun k hk => by
    have h1 := k_clo k hk
    rw [CLo_eq h1 (by
      simp only [kKs, List.mem_cons, List.not_mem_nil, or_false] at hk
      rcases hk with rfl | rfl | rfl | rfl | rfl <;> decide)]
    exact h1
  exact k_auto h
theorem k_trT : trT 3 kEs 5 = [(0, 4)] := by decide
theorem k_way : wayF kEs (some 0) [4, 1, 2] = some 4 := by decide
theorem k_dir : dirOf 3 4 kEs (0, 4) = [0, 1] := by decide

set_option maxRecDepth 100000 in
set_option maxHeartbeats 2000000 in
theorem awake_any (w : World) : Calls Try.prog 8 #[] w fun e w' => e = .returned (.bool true) ∧ w.grownBy w' none := by
  have hE : ∀ X : World, (binOp .eql 62 (.agg #[.int .i64 0, .int .i64 4]) (.agg #[.int .i64 0, .int .i64 4])).run Try.prog X = .ok (.bool true) X := fun X => eq_trans 0 4 0 4 X
  go_enter Try.func8, Try.ntmps8
  go_wp2_with fail
  refine Calls.mono (small_any w) ?_
  rintro e w1 ⟨b1, b2, b6, ra, rc, rfl, hG1, hg1⟩
  obtain ⟨hOf, hEs⟩ := ofOk (some ⟨b1, 0, none⟩) (some ⟨b2, 0, none⟩) none (some ⟨b6, 0, none⟩) 3 2 0 3 kTs kNs [] 3 kL kR ra rc (fun _ => 0) 4 w1 3 2 0 ⟨rfl, rfl, rfl⟩ hG1 k_closed k_ggT
  have HOF : Hid (OfOk (some ⟨b1, 0, none⟩) (some ⟨b2, 0, none⟩) none (some ⟨b6, 0, none⟩) 3 2 0 3 3 4 w1 3 2 0 kKs kEs) := hOf
  have HES : Hid (EsOK kKs kEs) := hEs
  have HOX : Hid (∀ X, w1.grownBy X none → OfOk (some ⟨b1, 0, none⟩) (some ⟨b2, 0, none⟩) none (some ⟨b6, 0, none⟩) 3 2 0 3 3 4 X 3 2 0 kKs kEs) := fun X hX Y hY => HOF.out Y (grown_trans hX hY)
  have HLI : Hid (∀ X, w1.grownBy X none → Calls Try.prog 14 #[.agg #[.slice (some ⟨b1, 0, none⟩) 3 3, .slice (some ⟨b2, 0, none⟩) 2 2, .slice none 0 0, .int .i64 4, .slice (some ⟨b6, 0, none⟩) 3 3]] X fun e y => ∃ g c, e = .returned (.tuple #[.slice (some ⟨g, 0, none⟩) 1 c, .int .i64 0]) ∧ y.cell? ⟨g, 0, none⟩ = some (.int .i64 0) ∧ y.cell? ⟨g, 1, none⟩ = some (.int .i64 4) ∧ X.grownBy y none) := fun X hX => by
    refine (listX_ok _ _ _ _ _ _ _ _ 3 4 X 3 2 0 kKs kEs HES.out.le (fun q hq => (HES.out.each q hq).1) (HOX.out X hX)).mono ?_
    rintro e y ⟨a, c, rfl, ho, hg⟩
    have e1 : trT 3 kEs kKs.length = [(0, 4)] := k_trT
    rw [e1] at ho ⊢
    obtain ⟨g, c2, he, hcell⟩ := owns_at ho (by decide)
    simp only [Value.slice.injEq] at he
    obtain ⟨rfl, _, rfl⟩ := he
    exact ⟨g, c, rfl, hcell 0 _ rfl, hcell 1 _ rfl, hg⟩
  have HWA : Hid (∀ X b, w1.grownBy X none → IntsAt X (some ⟨b, 0, none⟩) [4, 1, 2] → Calls Try.prog 10 #[.agg #[.slice (some ⟨b1, 0, none⟩) 3 3, .slice (some ⟨b2, 0, none⟩) 2 2, .slice none 0 0, .int .i64 4, .slice (some ⟨b6, 0, none⟩) 3 3], .int .i64 0, .slice (some ⟨b, 0, none⟩) 3 3] X fun e y => e = .returned (.tuple #[.int .i64 4, .int .i64 0]) ∧ X.grownBy y none) := fun X b hX hI => by
    have h := walkX_ok _ _ _ _ 3 2 0 3 3 4 X 3 2 0 kKs kEs (by decide) (by decide) HES.out.le HES.out.ok (HOX.out X hX) 0 (by decide) (some ⟨b, 0, none⟩) 3 [4, 1, 2] hI (by decide) (by decide)
    have e1 : wayV (wayF kEs (some ((0 : Nat) : Int)) [4, 1, 2]) = 4 := by rw [show ((0 : Nat) : Int) = 0 from rfl, k_way]; rfl
    rw [e1] at h
    exact h
  have HDI : Hid (∀ X, w1.grownBy X none → Calls Try.prog 18 #[.agg #[.slice (some ⟨b1, 0, none⟩) 3 3, .slice (some ⟨b2, 0, none⟩) 2 2, .slice none 0 0, .int .i64 4, .slice (some ⟨b6, 0, none⟩) 3 3]] X fun e y => ∃ rb a c, e = .returned (.tuple #[.slice (some ⟨rb, 0, none⟩) 1 1, .int .i64 0]) ∧ y.cell? ⟨rb, 0, none⟩ = some (.slice a 2 c) ∧ X.grownBy y none) := fun X hX => by
    refine (directX_ok _ _ _ _ 3 2 0 3 3 4 X 3 2 0 kKs kEs HES.out (HOX.out X hX)).mono ?_
    rintro e y ⟨rb, ua, uc, rfl, hv, _, hg⟩
    have e1 : trT 3 kEs kKs.length = [(0, 4)] := k_trT
    rw [e1] at hv ⊢
    have h1 := hv.cell 0 (by decide)
    rw [show ([((0 : Int), (4 : Int))] : List It).getD 0 (0, 0) = (0, 4) from rfl, k_dir] at h1
    exact ⟨rb, ua 0, uc 0, rfl, h1, hg⟩
  obtain ⟨gb, hgb⟩ : ∃ gb, gb = w1.heap.size := ⟨_, rfl⟩
  obtain ⟨X1, hX1⟩ : ∃ X1, X1 = w1.alloc (.cells #[.slice (some ⟨b1, 0, none⟩) 3 3, .slice (some ⟨b2, 0, none⟩) 2 2, .slice none 0 0, .int .i64 4, .slice (some ⟨b6, 0, none⟩) 3 3] 27) := ⟨_, rfl⟩
  have HP1 : Hid (PhAt w1 X1 gb #[.slice (some ⟨b1, 0, none⟩) 3 3, .slice (some ⟨b2, 0, none⟩) 2 2, .slice none 0 0, .int .i64 4, .slice (some ⟨b6, 0, none⟩) 3 3]) := ⟨by rw [hX1]; exact World.grownBy_alloc _ _ none, by rw [hX1, hgb]; exact heap_alloc_last w1 _⟩
  have HGW : Hid (w.grownBy w1 none) := hg1
  have HXE := show Hid _ from hX1
  have HGE := show Hid _ from hgb
  clear hG1 hg1 hX1 hgb hOf hEs HOF HOX HES
  go_wp2_with fail
  rw [← HXE.out, ← HGE.out]
  refine Calls.mono (HLI.out X1 HP1.out.grown) ?_
  rintro e w2 ⟨g2, c2, rfl, r0, r1, hg2⟩
  have HP2 : Hid (PhAt w1 w2 gb #[.slice (some ⟨b1, 0, none⟩) 3 3, .slice (some ⟨b2, 0, none⟩) 2 2, .slice none 0 0, .int .i64 4, .slice (some ⟨b6, 0, none⟩) 3 3]) := HP1.out.kept hg2
  clear hg2 HP1 HXE HGE HLI
  obtain ⟨k0, k1, k2, k3, k4⟩ := HP2.out.cells
  have HWC : Hid (Calls Try.prog 10 #[.agg #[.slice (some ⟨b1, 0, none⟩) 3 3, .slice (some ⟨b2, 0, none⟩) 2 2, .slice none 0 0, .int .i64 4, .slice (some ⟨b6, 0, none⟩) 3 3], .int .i64 0, .slice (some ⟨w2.heap.size, 0, none⟩) 3 3] (w2.alloc (.cells #[.int .i64 4, .int .i64 1, .int .i64 2] 3)) fun e y => e = .returned (.tuple #[.int .i64 4, .int .i64 0]) ∧ (w2.alloc (.cells #[.int .i64 4, .int .i64 1, .int .i64 2] 3)).grownBy y none) := HWA.out _ _ (grown_trans HP2.out.grown (World.grownBy_alloc _ _ none)) (.inr ⟨w2.heap.size, 0, rfl, fun i hi => by
    have h2 : i = 0 ∨ i = 1 ∨ i = 2 := by simp at hi; omega
    rcases h2 with rfl | rfl | rfl <;> (rw [cell_of_row _ _ _ _ _ _ (heap_alloc_last w2 _)]; rfl)⟩)
  go_wp2_with fail
  refine Calls.mono HWC.out ?_
  rintro e w3 ⟨rfl, hg3⟩
  have HP3 : Hid (PhAt w1 w3 gb #[.slice (some ⟨b1, 0, none⟩) 3 3, .slice (some ⟨b2, 0, none⟩) 2 2, .slice none 0 0, .int .i64 4, .slice (some ⟨b6, 0, none⟩) 3 3]) := HP2.out.kept (grown_trans (World.grownBy_alloc _ _ none) hg3)
  have r0' := hg3.cell ((World.grownBy_alloc w2 (.cells #[.int .i64 4, .int .i64 1, .int .i64 2] 3) none).cell r0 (by simp)) (by simp)
  have r1' := hg3.cell ((World.grownBy_alloc w2 (.cells #[.int .i64 4, .int .i64 1, .int .i64 2] 3) none).cell r1 (by simp)) (by simp)
  clear hg3 HP2 HWC HWA k0 k1 k2 k3 k4 r0 r1
  obtain ⟨k0, k1, k2, k3, k4⟩ := HP3.out.cells
  go_wp2_with fail
  refine Calls.mono (HDI.out w3 HP3.out.grown) ?_
  rintro e w4 ⟨rb, a4, c4, rfl, y0, hg4⟩
  have q0 := hg4.cell r0' (by simp)
  have q1 := hg4.cell r1' (by simp)
  have HG4 : Hid (w.grownBy w4 none) := grown_trans HGW.out (grown_trans HP3.out.grown hg4)
  clear hg4 HP3 HDI k0 k1 k2 k3 k4 r0' r1' HGW
  go_wp2_with fail
  go_ret
  exact ⟨rfl, HG4.out⟩

end Go.Proofs.Ytfllgmbnljfboaa.J

/-
  trans: the document's Next; the transitions by their numbers.
-/
namespace Go.Proofs.Ytfllgmbnljfboaa.J
open Go.RowKit Go.Maps Go.Shelf

attribute [local go_sem] Oper.semAt_some

theorem neq_trans (p d p' d' : Int) (w : World) : (binOp .neq 62 (.agg #[.int .i64 p, .int .i64 d]) (.agg #[.int .i64 p', .int .i64 d'])).run Try.prog w = .ok (.bool (!(p == p' && d == d'))) w := by
  have u3 := Try.underlying3
  have a3 := Try.isAgg3
  have z3 := Try.sizeOf3
  have hS : Try.prog.underlying 62 = some (.struct (Try.prog.fieldsOf 62)) := by kernel_rfl
  have hp : Try.prog.stoodInHeld 62 = false := by kernel_rfl
  rw [run_neq_struct, show (10000 : Nat) = 9999 + 1 from rfl, run_equalIn_agg w 9999 62 _ _ hS hp]
  simp only [Program.fieldsOf, Try.underlying62]
  go_simp
  by_cases h1 : p = p' <;> by_cases h2 : d = d' <;> simp [h1, h2]
theorem nextL_cons_no {x : Nat × Nat} {l : List (Nat × Nat)} {s : Int} (h : ¬ (x.1 : Int) = s) : nextL (x :: l) s = nextL l s := by
  unfold nextL
  rw [List.find?_cons]
  simp [h]
theorem nextL_found {l : List (Nat × Nat)} {s : Int} {j : Nat} (hj : j < l.length) (h : ((l.getD j (0, 0)).1 : Int) = s) (hno : ∀ i, i < j → ¬ ((l.getD i (0, 0)).1 : Int) = s) : nextL l s = some ((l.getD j (0, 0)).2 : Int) := by
  induction l generalizing j with
  | nil => cases hj
  | cons x l ih =>
    cases j with
    | zero =>
      unfold nextL
      rw [List.find?_cons]
      have h' : (x.1 : Int) = s := h
      simp [h']
    | succ j =>
      rw [nextL_cons_no (x := x) (hno 0 (Nat.succ_pos _))]
      exact ih (by simpa using hj) h fun i hi => hno (i + 1) (by omega)
theorem nextL_none {l : List (Nat × Nat)} {s : Int} (hno : ∀ i, i < l.length → ¬ ((l.getD i (0, 0)).1 : Int) = s) : nextL l s = none := by
  induction l with
  | nil => rfl
  | cons x l ih =>
    rw [nextL_cons_no (x := x) (hno 0 (by simp))]
    exact ih fun i hi => hno (i + 1) (by simpa using hi)

set_option maxRecDepth 100000 in
theorem rnext_any (sa : Option Addr) (sc : Nat) (ask nI : Int) (w : World) (B : Nat) (ks : List (List It)) (es : List (List (Nat × Nat))) (kv ev : Nat → Value) (hP : AutP B w (.slice sa ks.length sc) ks (elF es) kv ev) (hEl : ∀ q, (es.getD q []).length ≤ 130) (q : Nat) (hq : q < ks.length) (s : Int) :
    Calls Try.prog 16 #[.agg #[.slice sa ks.length sc, .int .i64 ask, .int .i64 nI], .int .i64 (q : Int), .int .i64 s] w fun e y => e = .returned (.int .i64 (wayV (nextL (es.getD q []) s))) ∧ w.grownBy y none := by
  have hg0 : w.grownBy (w.alloc (.cells #[.slice sa ks.length sc, .int .i64 ask, .int .i64 nI] 42)) none := World.grownBy_alloc _ _ none
  have hPZ := hP.kept hg0
  obtain ⟨sb, sc', hsv, _, hs1⟩ := hPZ.st hq
  simp only [Value.slice.injEq] at hsv
  obtain ⟨rfl, _, rfl⟩ := hsv
  obtain ⟨ea, ec, hev, hei⟩ := hPZ.edgAt hq
  rw [hev] at hs1
  obtain ⟨N, hN⟩ : ∃ n, n = ks.length := ⟨_, rfl⟩
  obtain ⟨E, hE⟩ : ∃ E, E = (elF es q).length := ⟨_, rfl⟩
  rw [← hE] at hs1
  rw [← hN] at hs1 hg0 hei hq ⊢
  have HE : Hid (E = (es.getD q []).length) := by show _ = _; rw [hE]; exact elF_len _ _
  have hEb : E ≤ 130 := by rw [HE.out]; exact hEl q
  have HEI : Hid (∀ Y, (w.alloc (.cells #[.slice (some ⟨sb, 0, none⟩) N sc, .int .i64 ask, .int .i64 nI] 42)).grownBy Y none → ItsAt Y ea (elF es q)) := fun Y hY => hei.kept hY
  have HG0 : Hid (w.grownBy (w.alloc (.cells #[.slice (some ⟨sb, 0, none⟩) N sc, .int .i64 ask, .int .i64 nI] 42)) none) := hg0
  have hq0 : (0 : Int) ≤ (q : Int) := by omega
  have hq1 : (q : Int) < (N : Int) := by omega
  obtain ⟨r, hr⟩ : ∃ r, r = wayV (nextL (es.getD q []) s) := ⟨_, rfl⟩
  have HRR : Hid (r = wayV (nextL (es.getD q []) s)) := hr
  rw [← hr]
  clear hP hPZ hev hei hE hN hg0 hEl hr
  go_enter Try.func16, Try.ntmps16
  go_wp2_with fail
  obtain ⟨W, hW⟩ : ∃ W, W = w.alloc (.cells #[.slice (some ⟨sb, 0, none⟩) N sc, .int .i64 ask, .int .i64 nI] 42) := ⟨_, rfl⟩
  rw [← hW] at HEI HG0 ⊢
  clear hW hs1
  go_loopg [8] E (fun gk v8 wr => ∃ j : Nat, j ≤ E ∧ gk = E - j ∧ v8 = .int .i64 j ∧ W.grownBy wr none ∧ ∀ i, i < j → ¬ (((es.getD q []).getD i (0, 0)).1 : Int) = s)
  case atStart => exact ⟨0, Nat.zero_le _, rfl, rfl, grown_refl _ _, fun i hi => absurd hi (Nat.not_lt_zero _)⟩
  case round =>
    obtain ⟨j, hj, hgj, rfl, hg, hno⟩ := hrel
    have HGJ : Hid (gk = E - j) := hgj
    have HG : Hid (W.grownBy wr none) := hg
    have HNO := show Hid _ from hno
    clear hgj hg hno
    by_cases hlt : j < E
    · have hjd : decide (j < E) = true := decide_eq_true hlt
      have hj0 : (0 : Int) ≤ (j : Int) := by omega
      have hj1 : (j : Int) < (E : Int) := by omega
      have hje : j < (es.getD q []).length := by rw [← HE.out]; exact hlt
      obtain ⟨eb, eo, hea, c0, c1⟩ := (HEI.out wr HG.out).cellAt (i := j) (by rw [elF_len]; exact hje)
      subst hea
      rw [(elF_at hje).2] at c0 c1
      by_cases hs : (((es.getD q []).getD j (0, 0)).1 : Int) = s
      · have HF : Hid (nextL (es.getD q []) s = some (((es.getD q []).getD j (0, 0)).2 : Int)) := nextL_found hje hs HNO.out
        obtain ⟨t, ht⟩ : ∃ t : Nat, t = ((es.getD q []).getD j (0, 0)).2 := ⟨_, rfl⟩
        rw [← ht] at c1 HF
        simp only at c0
        rw [hs] at c0
        have hss : (s == s) = true := beq_self_eq_true _
        clear hs ht hje
        go_wp2_with fail
        go_ret
        exact ⟨by rw [HRR.out, HF.out]; rfl, grown_trans HG0.out HG.out⟩
      · have HNS : Hid (¬ (((es.getD q []).getD j (0, 0)).1 : Int) = s) := hs
        obtain ⟨u, hu⟩ : ∃ u : Int, u = (((es.getD q []).getD j (0, 0)).1 : Int) := ⟨_, rfl⟩
        simp only at c0
        rw [← hu] at c0 hs
        have hss : (u == s) = false := beq_eq_false_iff_ne.2 hs
        clear hs hu hje c1
        go_wp2_with fail
        go_roundg (E - (j + 1))
        case measure => have := HGJ.out; omega
        case rel => exact ⟨j + 1, by omega, rfl, by go_num, HG.out, fun i hi => by
          by_cases e : i = j
          · rw [e]; exact HNS.out
          · exact HNO.out i (by omega)⟩
    · have hjE : E = j := by omega
      subst hjE
      have hjd : decide (E < E) = false := decide_eq_false (by omega)
      have HF : Hid (nextL (es.getD q []) s = none) := nextL_none (by rw [← HE.out]; exact HNO.out)
      go_wp2_with fail
      go_ret
      exact ⟨by rw [HRR.out, HF.out]; rfl, grown_trans HG0.out HG.out⟩

theorem trT_prefix (tn : Nat) (es : List (List (Nat × Nat))) {i N : Nat} (h : i ≤ N) : trT tn es i <+: trT tn es N := by
  obtain ⟨d, rfl⟩ : ∃ d, N = i + d := ⟨N - i, by omega⟩
  clear h
  induction d with
  | zero => exact List.prefix_refl _
  | succ d ih => exact ih.trans (List.prefix_append _ _)
theorem trI_prefix (tn : Nat) {l m : List (Nat × Nat)} (i : Nat) (h : l <+: m) : trI tn l i <+: trI tn m i := by
  obtain ⟨t, rfl⟩ := h
  unfold trI
  rw [List.filter_append, List.map_append]
  exact List.prefix_append _ _
/-- The transition of an edge, and its number. -/
theorem trT_at {tn : Nat} {es : List (List (Nat × Nat))} {q N j s t : Nat} (hq : q < N) (hj : j < (es.getD q []).length) (he : (es.getD q []).getD j (0, 0) = (s, t)) (hs : tn ≤ s) : (trT tn es q ++ trI tn ((es.getD q []).take j) q).length < (trT tn es N).length ∧ (trT tn es N).getD (trT tn es q ++ trI tn ((es.getD q []).take j) q).length (0, 0) = ((q : Int), (s : Int)) := by
  have h1 : trT tn es q ++ trI tn ((es.getD q []).take (j + 1)) q = (trT tn es q ++ trI tn ((es.getD q []).take j) q) ++ [((q : Int), (s : Int))] := by
    rw [take_snocE hj he, trI_snoc, if_pos hs, List.append_assoc]
  have h2 : trT tn es q ++ trI tn ((es.getD q []).take (j + 1)) q <+: trT tn es N := by
    refine List.IsPrefix.trans ?_ (trT_prefix tn es (i := q + 1) hq)
    exact (List.prefix_append_right_inj _).2 (trI_prefix tn q (List.take_prefix _ _))
  rw [h1] at h2
  have h3 := h2.length_le
  rw [List.length_append, List.length_singleton] at h3
  refine ⟨by omega, ?_⟩
  rw [getD_prefix h2 (by simp), getD_snoc_new]


end Go.Proofs.Ytfllgmbnljfboaa.J

/-
  trans: the law TransEdges, walked.
-/
namespace Go.Proofs.Ytfllgmbnljfboaa.J
open Go.RowKit Go.Maps Go.Shelf

attribute [local go_sem] Oper.semAt_some

section
variable (ta na la pa : Option Addr) (tc nc lc pc : Nat) (n : Nat) (st : Int) (w : World) (tn nn ln : Nat)

set_option maxRecDepth 100000 in
set_option maxHeartbeats 2000000 in
theorem tedges_bad (ec : Int) (hec : ec = 1 ∨ ec = 11) (hO : OfBad ta na la pa tc nc lc pc n st w tn nn ln ec)
    (hBU : ∀ X, w.grownBy X none → Calls Try.prog 13 #[.agg #[.slice ta tn tc, .slice na nn nc, .slice la ln lc, .int .i64 st, .slice pa n pc]] X fun e y => e = .returned (.tuple #[.agg #[.slice none 0 0, .int .i64 0, .int .i64 0], .int .i64 ec]) ∧ X.grownBy y none) :
    Calls Try.prog 6 #[.agg #[.slice ta tn tc, .slice na nn nc, .slice la ln lc, .int .i64 st, .slice pa n pc]] w fun e w' => e = .returned (.bool true) ∧ w.grownBy w' none := by
  have HBU := show Hid _ from hBU
  have HLI : Hid (∀ X, w.grownBy X none → Calls Try.prog 14 #[.agg #[.slice ta tn tc, .slice na nn nc, .slice la ln lc, .int .i64 st, .slice pa n pc]] X fun e y => e = .returned (.tuple #[.slice none 0 0, .int .i64 ec]) ∧ X.grownBy y none) := fun X hX => listX_bad ta na la pa tc nc lc pc n st X tn nn ln ec hec (fun Y hY => hO Y (grown_trans hX hY))
  have HX0 : Hid (PhAt w (w.alloc (.cells #[.slice ta tn tc, .slice na nn nc, .slice la ln lc, .int .i64 st, .slice pa n pc] 27)) w.heap.size #[.slice ta tn tc, .slice na nn nc, .slice la ln lc, .int .i64 st, .slice pa n pc]) := ⟨World.grownBy_alloc _ _ none, heap_alloc_last w _⟩
  have hne : (ec != 0) = true := bne_iff_ne.2 (by omega)
  have hee : (ec == ec) = true := beq_self_eq_true _
  clear hBU hO hec
  go_enter Try.func6, Try.ntmps6
  go_wp2_with fail
  refine Calls.mono (awake_any _) ?_
  rintro e w1 ⟨rfl, hg1⟩
  have HX1 : Hid (PhAt w w1 w.heap.size #[.slice ta tn tc, .slice na nn nc, .slice la ln lc, .int .i64 st, .slice pa n pc]) := HX0.out.kept hg1
  clear hg1 HX0
  obtain ⟨k0, k1, k2, k3, k4⟩ := HX1.out.cells
  go_wp2_with fail
  refine Calls.mono (HBU.out _ HX1.out.grown) ?_
  rintro e w2 ⟨rfl, hg2⟩
  have HX2 : Hid (PhAt w (w2.alloc (.cells #[.slice none 0 0, .int .i64 0, .int .i64 0] 42)) w.heap.size #[.slice ta tn tc, .slice na nn nc, .slice la ln lc, .int .i64 st, .slice pa n pc]) := HX1.out.kept (grown_trans hg2 (World.grownBy_alloc _ _ none))
  clear hg2 HX1 k0 k1 k2 k3 k4
  obtain ⟨k0, k1, k2, k3, k4⟩ := HX2.out.cells
  go_wp2_with fail
  refine Calls.mono (HLI.out _ HX2.out.grown) ?_
  rintro e w3 ⟨rfl, hg3⟩
  have HG3 : Hid (w.grownBy w3 none) := grown_trans HX2.out.grown hg3
  clear hg3 HX2 k0 k1 k2 k3 k4
  go_wp2_with fail
  go_ret
  exact ⟨rfl, HG3.out⟩

set_option maxRecDepth 100000 in
set_option maxHeartbeats 4000000 in
theorem tedges_ok (ask : Nat) (htn : tn ≤ 65) (hnn : nn ≤ 65) (ks : List (List It)) (es : List (List (Nat × Nat))) (hE : EsOK ks es) (hsy : ∀ q, q < ks.length → ∀ x ∈ es.getD q [], x.1 < tn + nn) (hO : OfOk ta na la pa tc nc lc pc n st w tn nn ln ks es)
    (hBU : ∀ X, w.grownBy X none → Calls Try.prog 13 #[.agg #[.slice ta tn tc, .slice na nn nc, .slice la ln lc, .int .i64 st, .slice pa n pc]] X fun e y => ∃ sa sc kv ev, e = .returned (.tuple #[.agg #[.slice sa ks.length sc, .int .i64 (ask : Int), .int .i64 (ks.length : Int)], .int .i64 0]) ∧ AutP X.heap.size y (.slice sa ks.length sc) ks (elF es) kv ev ∧ X.grownBy y none) :
    Calls Try.prog 6 #[.agg #[.slice ta tn tc, .slice na nn nc, .slice la ln lc, .int .i64 st, .slice pa n pc]] w fun e w' => e = .returned (.bool true) ∧ w.grownBy w' none := by
  have HBU := show Hid _ from hBU
  have HE : Hid (EsOK ks es) := hE
  have HSY := show Hid _ from hsy
  have HLI : Hid (∀ X, w.grownBy X none → Calls Try.prog 14 #[.agg #[.slice ta tn tc, .slice na nn nc, .slice la ln lc, .int .i64 st, .slice pa n pc]] X fun e y => TrErr (trT tn es ks.length) X e y) := fun X hX => listX_ok ta na la pa tc nc lc pc n st X tn nn ln ks es hE.le (fun q hq => (hE.each q hq).1) (fun Y hY => hO Y (grown_trans hX hY))
  have HWA : Hid (∀ X b q s, w.grownBy X none → q < ks.length → s < tn + nn → IntsAt X (some ⟨b, 0, none⟩) [((s : Nat) : Int)] → Calls Try.prog 10 #[.agg #[.slice ta tn tc, .slice na nn nc, .slice la ln lc, .int .i64 st, .slice pa n pc], .int .i64 ((q : Nat) : Int), .slice (some ⟨b, 0, none⟩) 1 1] X fun e y => e = .returned (.tuple #[.int .i64 (wayV (nextL (es.getD q []) (s : Int))), .int .i64 0]) ∧ X.grownBy y none) := fun X b q s hX hq hs hI => by
    have h := walkX_ok ta na la pa tc nc lc pc n st X tn nn ln ks es htn hnn hE.le hE.ok (fun Y hY => hO Y (grown_trans hX hY)) q hq (some ⟨b, 0, none⟩) 1 [(s : Int)] hI (by simp) (fun x hx => by
      rw [List.mem_singleton.1 hx]
      unfold noB
      rw [decide_eq_true (by omega)]; rfl)
    have e1 : wayF es (some (q : Int)) [(s : Int)] = nextL (es.getD q []) (s : Int) := leadA_at es (by rw [hE.len]; exact hq) (s : Int)
    rw [e1] at h
    exact h
  have HX0 : Hid (PhAt w (w.alloc (.cells #[.slice ta tn tc, .slice na nn nc, .slice la ln lc, .int .i64 st, .slice pa n pc] 27)) w.heap.size #[.slice ta tn tc, .slice na nn nc, .slice la ln lc, .int .i64 st, .slice pa n pc]) := ⟨World.grownBy_alloc _ _ none, heap_alloc_last w _⟩
  obtain ⟨N, hN⟩ : ∃ n, n = ks.length := ⟨_, rfl⟩
  have HN : Hid (N = ks.length) := hN
  have hN256 : N ≤ 256 := by rw [hN]; exact hE.le
  obtain ⟨l, hl⟩ : ∃ l, l = trT tn es N := ⟨_, rfl⟩
  have HL : Hid (l = trT tn es N) := hl
  have hlb : l.length ≤ 33280 := by
    rw [hl]
    have h1 := trT_len (tn := tn) (c := 130) N (fun q hq => hE.short q)
    have h2 : N * 130 ≤ 256 * 130 := Nat.mul_le_mul_right _ hN256
    omega
  rw [← hN, ← hl] at HLI
  rw [← hN] at HBU HWA
  clear hBU hO hE hsy htn hnn hN hl
  go_enter Try.func6, Try.ntmps6
  go_wp2_with fail
  refine Calls.mono (awake_any _) ?_
  rintro e w1 ⟨rfl, hg1⟩
  have HX1 : Hid (PhAt w w1 w.heap.size #[.slice ta tn tc, .slice na nn nc, .slice la ln lc, .int .i64 st, .slice pa n pc]) := HX0.out.kept hg1
  clear hg1 HX0
  obtain ⟨k0, k1, k2, k3, k4⟩ := HX1.out.cells
  go_wp2_with fail
  refine Calls.mono (HBU.out _ HX1.out.grown) ?_
  rintro e w2 ⟨sa, sc, kv, ev, rfl, hAP, hg2⟩
  obtain ⟨ab, hab⟩ : ∃ b, b = w2.heap.size := ⟨_, rfl⟩
  obtain ⟨V1, hV1⟩ : ∃ W, W = w2.alloc (.cells #[.slice sa N sc, .int .i64 (ask : Int), .int .i64 (N : Int)] 42) := ⟨_, rfl⟩
  have hgV : w2.grownBy V1 none := by rw [hV1]; exact World.grownBy_alloc _ _ none
  have HXV : Hid (PhAt w V1 w.heap.size #[.slice ta tn tc, .slice na nn nc, .slice la ln lc, .int .i64 st, .slice pa n pc]) := HX1.out.kept (grown_trans hg2 hgV)
  have HAV : Hid (V1.heap[ab]? = some (.cells #[.slice sa N sc, .int .i64 (ask : Int), .int .i64 (N : Int)] 42 (0, 0))) := by rw [hV1, hab]; exact heap_alloc_last w2 _
  have HPV : Hid (∃ B, AutP B V1 (.slice sa N sc) ks (elF es) kv ev) := ⟨_, hAP.kept hgV⟩
  have HVE := show Hid _ from hV1
  have HBE := show Hid _ from hab
  clear hg2 hAP HX1 k0 k1 k2 k3 k4 hV1 hab hgV
  obtain ⟨k0, k1, k2, k3, k4⟩ := HXV.out.cells
  rw [HVE.out] at k0 k1 k2 k3 k4
  go_wp2_with fail
  rw [← HVE.out, ← HBE.out]
  clear k0 k1 k2 k3 k4
  refine Calls.mono (HLI.out V1 HXV.out.grown) ?_
  rintro e W ⟨a3, c3, rfl, ho3, hg3⟩
  have HXW : Hid (PhAt w W w.heap.size #[.slice ta tn tc, .slice na nn nc, .slice la ln lc, .int .i64 st, .slice pa n pc]) := HXV.out.kept hg3
  have HAW : Hid (W.heap[ab]? = some (.cells #[.slice sa N sc, .int .i64 (ask : Int), .int .i64 (N : Int)] 42 (0, 0))) := box_kept HAV.out hg3
  have HPW : Hid (∃ B, AutP B W (.slice sa N sc) ks (elF es) kv ev) := by
    obtain ⟨B, h⟩ := HPV.out
    exact ⟨B, h.kept hg3⟩
  have HTW : Hid (∀ Y, W.grownBy Y none → ItsAt Y a3 l) := fun Y hY => (ItsAt.ofT ho3).kept hY
  obtain ⟨K, hK⟩ : ∃ k, k = l.length := ⟨_, rfl⟩
  have HK : Hid (K = l.length) := hK
  rw [← hK] at hlb ⊢
  have HCE : Hid (∀ Y, W.grownBy Y none → (Y.cell? ⟨w.heap.size, 0, none⟩ = some (.slice ta tn tc) ∧ Y.cell? ⟨w.heap.size, 1, none⟩ = some (.slice na nn nc) ∧ Y.cell? ⟨w.heap.size, 2, none⟩ = some (.slice la ln lc) ∧ Y.cell? ⟨w.heap.size, 3, none⟩ = some (.int .i64 st) ∧ Y.cell? ⟨w.heap.size, 4, none⟩ = some (.slice pa n pc)) ∧ Y.cell? ⟨ab, 0, none⟩ = some (.slice sa N sc) ∧ Y.cell? ⟨ab, 1, none⟩ = some (.int .i64 (ask : Int)) ∧ Y.cell? ⟨ab, 2, none⟩ = some (.int .i64 (N : Int))) := fun Y hY => ⟨(HXW.out.kept hY).cells, by rw [cell_of_row _ _ _ _ _ _ (box_kept HAW.out hY)]; rfl, by rw [cell_of_row _ _ _ _ _ _ (box_kept HAW.out hY)]; rfl, by rw [cell_of_row _ _ _ _ _ _ (box_kept HAW.out hY)]; rfl⟩
  clear hg3 ho3 HXV HAV HPV HVE HBE hK HLI HBU
  go_wp2_with fail
  go_loopg [8, 9] N (fun gk v8 v9 wr => ∃ q m : Nat, q ≤ N ∧ gk = N - q ∧ v9 = .int .i64 q ∧ v8 = .int .i64 m ∧ m = (trT tn es q).length ∧ W.grownBy wr none)
  case atStart => exact ⟨0, 0, Nat.zero_le _, rfl, rfl, rfl, rfl, grown_refl _ _⟩
  case round =>
    obtain ⟨q, m, hq, hgq, rfl, rfl, hm, hg⟩ := hrel
    have HGQ : Hid (gk = N - q) := hgq
    have HM : Hid (m = (trT tn es q).length) := hm
    have HG : Hid (W.grownBy wr none) := hg
    clear hgq hm hg
    generalize wr = Z at *
    obtain ⟨_, y0, y1, y2⟩ := HCE.out Z HG.out
    by_cases hlt : q < N
    · have hqd : decide (q < N) = true := decide_eq_true hlt
      have hq0 : (0 : Int) ≤ (q : Int) := by omega
      have hq1 : (q : Int) < (N : Int) := by omega
      have hqk : q < ks.length := by rw [← HN.out]; exact hlt
      obtain ⟨B, hPB⟩ := HPW.out
      have hPB' : AutP B W (.slice sa ks.length sc) ks (elF es) kv ev := by rw [← HN.out]; exact hPB
      obtain ⟨sb, sc', hsv, _, hs1⟩ := hPB'.st hqk
      simp only [Value.slice.injEq] at hsv
      obtain ⟨rfl, _, rfl⟩ := hsv
      obtain ⟨ea, ec, hev, hei⟩ := hPB'.edgAt hqk
      rw [hev] at hs1
      obtain ⟨E, hE⟩ : ∃ E, E = (elF es q).length := ⟨_, rfl⟩
      rw [← hE] at hs1
      have HEE : Hid (E = (es.getD q []).length) := by show _ = _; rw [hE]; exact elF_len _ _
      have hEb : E ≤ 130 := by rw [HEE.out]; exact HE.out.short q
      have HEI : Hid (∀ Y, W.grownBy Y none → ItsAt Y ea (elF es q) ∧ Y.cell? ⟨sb, q * 2 + 1, none⟩ = some (.slice ea E ec)) := fun Y hY => ⟨hei.kept hY, hY.cell hs1 (by simp)⟩
      have HNXT : Hid (∀ Y (s : Int), W.grownBy Y none → Calls Try.prog 16 #[.agg #[.slice (some ⟨sb, 0, none⟩) N sc, .int .i64 (ask : Int), .int .i64 (N : Int)], .int .i64 (q : Int), .int .i64 s] Y fun e y => e = .returned (.int .i64 (wayV (nextL (es.getD q []) s))) ∧ Y.grownBy y none) := fun Y s hY => by
        have h := rnext_any (some ⟨sb, 0, none⟩) sc (ask : Int) (N : Int) Y B ks es kv ev (hPB'.kept hY) HE.out.short q hqk s
        rw [← HN.out] at h
        exact h
      clear hE hev hei hs1 hPB hPB'
      go_wp2_with fail
      go_loopg [8, 10] E (fun gk v8 v10 wr => ∃ j m : Nat, j ≤ E ∧ gk = E - j ∧ v10 = .int .i64 j ∧ v8 = .int .i64 m ∧ m = (trT tn es q ++ trI tn ((es.getD q []).take j) q).length ∧ W.grownBy wr none)
      case atStart => exact ⟨0, m, Nat.zero_le _, rfl, rfl, rfl, by simpa [trI] using HM.out, HG.out⟩
      case round =>
        obtain ⟨j, m2, hj, hgj, rfl, rfl, hm2, hg2⟩ := hrel
        have HGJ : Hid (gk = E - j) := hgj
        have HM2 : Hid (m2 = (trT tn es q ++ trI tn ((es.getD q []).take j) q).length) := hm2
        have HG2 : Hid (W.grownBy wr none) := hg2
        clear hgj hm2 hg2 y0 y1 y2
        obtain ⟨⟨k0, k1, k2, k3, k4⟩, y0, y1, y2⟩ := HCE.out wr HG2.out
        obtain ⟨hIE, x0⟩ := HEI.out wr HG2.out
        by_cases hlj : j < E
        · have hjd : decide (j < E) = true := decide_eq_true hlj
          have hj0 : (0 : Int) ≤ (j : Int) := by omega
          have hj1 : (j : Int) < (E : Int) := by omega
          have hje : j < (es.getD q []).length := by rw [← HEE.out]; exact hlj
          obtain ⟨eb, eo, hea, c0, -⟩ := hIE.cellAt (i := j) (by rw [elF_len]; exact hje)
          subst hea
          rw [(elF_at hje).2] at c0
          obtain ⟨x, hx⟩ : ∃ x, x = (es.getD q []).getD j (0, 0) := ⟨_, rfl⟩
          have hxs : x.1 < tn + nn := HSY.out q hqk x (by
            rw [hx]
            generalize es.getD q [] = l at hje ⊢
            rw [List.getD_eq_getElem?_getD, List.getElem?_eq_getElem hje]; exact List.getElem_mem hje)
          rw [← hx] at c0
          obtain ⟨s, t⟩ := x
          simp only at c0 hxs
          have HTK : Hid (trI tn ((es.getD q []).take (j + 1)) q = trI tn ((es.getD q []).take j) q ++ (if tn ≤ s then [((q : Int), (s : Int))] else [])) := by
            show _ = _
            rw [take_snocE hje hx.symm, trI_snoc]
          by_cases hts : tn ≤ s
          · have hd1 : decide (s < tn) = false := decide_eq_false (by omega)
            have hd2 : decide ((s : Int) < (tn : Int)) = false := decide_eq_false (by omega)
            obtain ⟨h1, h2⟩ := trT_at hlt hje hx.symm hts
            rw [← HM2.out, ← HL.out] at h1 h2
            have hmK : m2 < K := by rw [HK.out]; exact h1
            have hm0 : (0 : Int) ≤ (m2 : Int) := by omega
            have hm1 : (m2 : Int) < (K : Int) := by omega
            have hd3 : decide (K ≤ m2) = false := decide_eq_false (by omega)
            have hd4 : decide ((K : Int) ≤ (m2 : Int)) = false := decide_eq_false (by omega)
            obtain ⟨lb2, lo2, hla, d0, d1⟩ := (HTW.out wr HG2.out).cellAt h1
            subst hla
            rw [h2] at d0 d1
            simp only at d0 d1
            have HNX : Hid (m2 + 1 = (trT tn es q ++ trI tn ((es.getD q []).take (j + 1)) q).length) := by
              show _ = _
              rw [HTK.out, if_pos hts, ← List.append_assoc, List.length_append, ← HM2.out]; rfl
            have hNE : ∀ X : World, (binOp .neq 62 (.agg #[.int .i64 (q : Int), .int .i64 (s : Int)]) (.agg #[.int .i64 (q : Int), .int .i64 (s : Int)])).run Try.prog X = .ok (.bool false) X := fun X => by
              have h := neq_trans (q : Int) (s : Int) (q : Int) (s : Int) X
              simpa using h
            have HWC := show Hid _ from HWA.out (wr.alloc (.cells #[.int .i64 (s : Int)] 3)) wr.heap.size q s (grown_trans HXW.out.grown (grown_trans HG2.out (World.grownBy_alloc _ _ none))) hlt hxs (.inr ⟨wr.heap.size, 0, rfl, fun i hi => by
              have h9 : i = 0 := by simp at hi; omega
              subst h9
              rw [cell_of_row _ _ _ _ _ _ (heap_alloc_last wr _)]; rfl⟩)
            have HNC := show Hid _ from fun (Y : World) (hY : W.grownBy Y none) => HNXT.out Y (s : Int) hY
            obtain ⟨v, hv⟩ : ∃ v, v = wayV (nextL (es.getD q []) (s : Int)) := ⟨_, rfl⟩
            rw [← hv] at HWC HNC
            have hvv : (v != v) = false := bne_self_eq_false _
            clear hx hje h1 h2 hv hxs hIE
            go_wp2_with fail
            refine Calls.mono HWC.out ?_
            rintro e w5 ⟨rfl, hg5⟩
            have HG5 : Hid (W.grownBy w5 none) := grown_trans HG2.out (grown_trans (World.grownBy_alloc _ _ none) hg5)
            clear hg5 HWC k0 k1 k2 k3 k4 y0 y1 y2 x0 c0 d0 d1
            obtain ⟨_, y0, y1, y2⟩ := HCE.out w5 HG5.out
            go_wp2_with fail
            refine Calls.mono (HNC.out w5 HG5.out) ?_
            rintro e w6 ⟨rfl, hg6⟩
            have HG6 : Hid (W.grownBy w6 none) := grown_trans HG5.out hg6
            clear hg6 HNC y0 y1 y2
            go_wp2_with fail
            go_roundg (E - (j + 1))
            case measure => have := HGJ.out; omega
            case rel => exact ⟨j + 1, m2 + 1, by omega, rfl, by go_num, by go_num, HNX.out, HG6.out⟩
          · have hd1 : decide (s < tn) = true := decide_eq_true (by omega)
            have hd2 : decide ((s : Int) < (tn : Int)) = true := decide_eq_true (by omega)
            have HNX : Hid (m2 = (trT tn es q ++ trI tn ((es.getD q []).take (j + 1)) q).length) := by
              show _ = _
              rw [HTK.out, if_neg hts, List.append_nil]; exact HM2.out
            clear hx hje hxs hIE
            go_wp2_with fail
            go_roundg (E - (j + 1))
            case measure => have := HGJ.out; omega
            case rel => exact ⟨j + 1, m2, by omega, rfl, by go_num, rfl, HNX.out, HG2.out⟩
        · have hjE : E = j := by omega
          subst hjE
          have hjd : decide (E < E) = false := decide_eq_false (by omega)
          have HNX : Hid (m2 = (trT tn es (q + 1)).length) := by
            have h := HM2.out
            rw [HEE.out, List.take_length] at h
            exact h
          go_wp2_with fail
          go_roundg (N - (q + 1))
          case measure => have := HGQ.out; omega
          case rel => exact ⟨q + 1, m2, by omega, rfl, by go_num, rfl, HNX.out, HG2.out⟩
    · have hqN : N = q := by omega
      subst hqN
      have hqd : decide (N < N) = false := decide_eq_false (by omega)
      have hmK : m = K := by rw [HK.out, HL.out]; exact HM.out
      subst hmK
      have hmm : ((m : Int) == (m : Int)) = true := beq_self_eq_true _
      go_wp2_with fail
      go_ret
      exact ⟨rfl, grown_trans HXW.out.grown HG.out⟩
end

end Go.Proofs.Ytfllgmbnljfboaa.J
