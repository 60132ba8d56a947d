/-
  lr0: the document's Build, walked.
-/
import Derived.Test.YtapahpljmcaahaaQoimiegefcnbi
namespace Go.Proofs.Ytapahpljmcaahaa.J
open Go.RowKit Go.Maps Go.Shelf

attribute [local go_sem] Oper.semAt_some

theorem results_rbuild (tmps : Array Value) (w : World) (g : Nat) (cs : Array Value) (x : Value) (h2 : tmps.getD 2 undef = .pointer (some ⟨g, 0, none⟩)) (h3 : tmps.getD 3 undef = x) (hg : w.heap[g]? = some (.cells cs 32 (0, 0))) (hs : cs.size = 3) :
    (results Try.f7 tmps).run Try.prog w = .ok (.tuple #[.agg cs, x]) w := by
  have h2' : tmps[2]?.getD undef = .pointer (some ⟨g, 0, none⟩) := by simpa using h2
  have h3' : tmps[3]?.getD undef = x := by simpa using h3
  have hl := run_loadVar_row (P := Try.prog) w g 32 32 cs (0, 0) _ hg Try.underlying32 rfl (by rw [hs]; kernel_rfl)
  simp [results, Try.results7, h2', h3', asAddr, hl]

section
variable (ta na la pa : Option Addr) (tc nc lc pc : Nat) (ts : List (ByteArray × Int)) (ns : List ByteArray) (lv : List Int) (n : Nat) (L : Nat → Int) (R : Nat → List Int) (ra : Nat → Option Addr) (rc : Nat → Nat) (V : Nat → Int) (st : Int) (w : World) (tn nn ln : Nat) (hlen : ts.length = tn ∧ ns.length = nn ∧ lv.length = ln) (hG : GAt w ta na la pa tc nc lc pc ts ns lv n L R ra rc V) (hts : ∀ t ∈ ts, t.1.size ≤ 140737488355328) (hns : ∀ s ∈ ns, s.size ≤ 140737488355328)
include hlen hG hts hns
set_option maxRecDepth 100000 in
theorem rbuildBad (hb : ¬ closedOK ts ns lv st n L R V) : Calls Try.prog 7 #[.agg #[.slice ta tn tc, .slice na nn nc, .slice la ln lc, .int .i64 st, .slice pa n pc]] w fun e y => e = .returned (.tuple #[.agg #[.slice none 0 0, .int .i64 0, .int .i64 0], .int .i64 1]) ∧ w.grownBy y none := by
  have HCL : Hid (∀ X, w.grownBy X none → Calls Try.prog 12 #[.agg #[.slice ta tn tc, .slice na nn nc, .slice la ln lc, .int .i64 st, .slice pa n pc]] X fun e w' => e = .returned (.bool false) ∧ X.grownBy w' none) := fun X hX => by
    have := rclosed_any ta na la pa tc nc lc pc st ts ns lv n L R ra rc V X (hG.kept hX) hts hns false ⟨(fun h => by cases h), fun h => absurd h hb⟩
    rwa [hlen.1, hlen.2.1, hlen.2.2] at this
  have HX0 : Hid (w.grownBy ((w.alloc (.cells #[.slice ta tn tc, .slice na nn nc, .slice la ln lc, .int .i64 st, .slice pa n pc] 27)).alloc (.cells #[.slice none 0 0, .int .i64 0, .int .i64 0] 32)) none) := grown_trans (World.grownBy_alloc _ _ none) (World.grownBy_alloc _ _ none)
  have HB0 : Hid (((w.alloc (.cells #[.slice ta tn tc, .slice na nn nc, .slice la ln lc, .int .i64 st, .slice pa n pc] 27)).alloc (.cells #[.slice none 0 0, .int .i64 0, .int .i64 0] 32)).heap[w.heap.size + 1]? = some (.cells #[.slice none 0 0, .int .i64 0, .int .i64 0] 32 (0, 0))) := by
    have h := heap_alloc_last (w.alloc (.cells #[.slice ta tn tc, .slice na nn nc, .slice la ln lc, .int .i64 st, .slice pa n pc] 27)) (.cells #[.slice none 0 0, .int .i64 0, .int .i64 0] 32)
    rw [World.size_alloc] at h; exact h
  clear hlen hG hb hts hns
  go_enter Try.func7, Try.ntmps7
  go_wp2_with fail
  refine Calls.mono (HCL.out _ HX0.out) ?_
  rintro e w1 ⟨rfl, hg1⟩
  have HB1 : Hid (w1.heap[w.heap.size + 1]? = some (.cells #[.slice none 0 0, .int .i64 0, .int .i64 0] 32 (0, 0))) := box_kept HB0.out hg1
  have HG1 : Hid (w.grownBy w1 none) := grown_trans HX0.out hg1
  clear hg1 HB0 HX0
  have k0 := cell_of_row w1 (w.heap.size + 1) 0 _ _ _ HB1.out
  have k1 := cell_of_row w1 (w.heap.size + 1) 1 _ _ _ HB1.out
  have k2 := cell_of_row w1 (w.heap.size + 1) 2 _ _ _ HB1.out
  have kf := fun j => frozen_of_row w1 (w.heap.size + 1) j _ _ HB1.out
  simp only [List.getElem?_toArray, List.getElem?_cons_zero, List.getElem?_cons_succ] at k0 k1 k2
  go_wp2_with fail
  refine bodyPost_ret (v := .tuple #[.agg #[.slice none 0 0, .int .i64 0, .int .i64 0], .int .i64 1]) ?_ rfl ?_
  · exact results_rbuild _ _ (w.heap.size + 1) _ _ rfl rfl (set3_heap HB1.out _ _ _) rfl
  · exact ⟨rfl, grown_new HG1.out (set3_grown _ _ _ _ _) (by omega)⟩

set_option maxRecDepth 100000 in
set_option maxHeartbeats 4000000 in
theorem rbuildOk (hc : closedOK ts ns lv st n L R V) : Calls Try.prog 7 #[.agg #[.slice ta tn tc, .slice na nn nc, .slice la ln lc, .int .i64 st, .slice pa n pc]] w fun e y => AutTold w tn n (tn + nn) L R e y := by
  have hM : MayOK tn nn n st L R true := by obtain ⟨rfl, rfl, rfl⟩ := hlen; exact mayOK_closed hc
  have HCL : Hid (∀ X, w.grownBy X none → Calls Try.prog 12 #[.agg #[.slice ta tn tc, .slice na nn nc, .slice la ln lc, .int .i64 st, .slice pa n pc]] X fun e w' => e = .returned (.bool true) ∧ X.grownBy w' none) := fun X hX => by
    have := rclosed_any ta na la pa tc nc lc pc st ts ns lv n L R ra rc V X (hG.kept hX) hts hns true ⟨fun _ => hc, fun _ => rfl⟩
    rwa [hlen.1, hlen.2.1, hlen.2.2] at this
  obtain ⟨S, hS⟩ : ∃ S, S = tn + nn := ⟨_, rfl⟩
  have hSz : S ≤ 130 := by have := hM.tmax; have := hM.nmax; omega
  have HRR : Hid (∀ k, k < n → ∀ x ∈ R k, (0 : Int) ≤ x ∧ x < ((tn + nn : Nat) : Int)) := fun k hk x hx => ⟨by have := hM.right k hk x hx; omega, (hM.right k hk x hx).2⟩
  have HAU : Hid (∀ i ks es, autoF (GG tn n L R) S i = some (ks, es) → AuOK (PJ n R) (GG tn n L R) S i ks es ∧ askN es ≤ 33281) := fun i ks es h => by
    rw [hS] at h ⊢
    exact ⟨auOK hM.p0 h, askN_le hM.p0 (by omega) h⟩
  have HSY : Hid (∀ X, Calls Try.prog 19 #[.agg #[.slice ta tn tc, .slice na nn nc, .slice la ln lc, .int .i64 st, .slice pa n pc]] X fun e y => e = .returned (.int .i64 (S : Int)) ∧ X.grownBy y none) := fun X => by
    have h1 := hM.tmax
    have h2 := hM.nmax
    refine (Go.Proofs.Ytapahpljmcaahaa.symbols_any ta na la pa tn nn ln n tc nc lc pc st X (by omega) (by omega)).mono ?_
    rintro e y ⟨rfl, hg⟩
    exact ⟨by rw [hS, Int.natCast_add], hg⟩
  have HCS : Hid (∀ X a cap (I : List It), w.grownBy X none → ItsAt X a I → I.length ≤ 8796093022208 → (∀ x ∈ I, itB n R x = true) → Calls Try.prog 18 #[.agg #[.slice ta tn tc, .slice na nn nc, .slice la ln lc, .int .i64 st, .slice pa n pc], .slice a I.length cap] X fun e y => CloTold tn n L R I X e y) := fun X a cap I hX hI hIb hit => rclos_any ta na la pa tc nc lc pc n L R ra rc V st X tn nn ln (prods_kept hG.prods hX) hM.pmax hM.p0 hM.tmax hM.nmax HRR.out a cap I hI hIb hit
  have HFR : Hid (∀ X a cap (l : List It) (s : Int), w.grownBy X none → ItsAt X a l → l.length ≤ 8796093035208 → (∀ x ∈ l, itB n R x = true) → Asc l → Calls Try.prog 20 #[.agg #[.slice ta tn tc, .slice na nn nc, .slice la ln lc, .int .i64 st, .slice pa n pc], .int .i64 s, .slice a l.length cap] X fun e y => ItsTold (kerT R l s) X e y) := fun X a cap l s hX hl hlb hit hasc => rfrom_any ta na la pa tc nc lc pc n L R ra rc V st s X tn nn ln (prods_kept hG.prods hX) (gright hG.prods) a cap l hl hlb hit hasc
  have HZ : Hid (∀ k : List It, (∀ x ∈ k, itB n R x = true) → GG tn n L R k 0 = []) := fun k hk => GG_zero' hk (fun k hk x hx => (hM.right k hk x hx).1)
  have HX0 : Hid (w.grownBy ((w.alloc (.cells #[.slice ta tn tc, .slice na nn nc, .slice la ln lc, .int .i64 st, .slice pa n pc] 27)).alloc (.cells #[.slice none 0 0, .int .i64 0, .int .i64 0] 32)) none) := grown_trans (World.grownBy_alloc _ _ none) (World.grownBy_alloc _ _ none)
  have HP0 : Hid (PhAt w ((w.alloc (.cells #[.slice ta tn tc, .slice na nn nc, .slice la ln lc, .int .i64 st, .slice pa n pc] 27)).alloc (.cells #[.slice none 0 0, .int .i64 0, .int .i64 0] 32)) w.heap.size #[.slice ta tn tc, .slice na nn nc, .slice la ln lc, .int .i64 st, .slice pa n pc]) := PhAt.kept ⟨World.grownBy_alloc _ _ none, heap_alloc_last w _⟩ (World.grownBy_alloc _ _ none)
  have HB0 : Hid (((w.alloc (.cells #[.slice ta tn tc, .slice na nn nc, .slice la ln lc, .int .i64 st, .slice pa n pc] 27)).alloc (.cells #[.slice none 0 0, .int .i64 0, .int .i64 0] 32)).heap[w.heap.size + 1]? = some (.cells #[.slice none 0 0, .int .i64 0, .int .i64 0] 32 (0, 0))) := by
    have h := heap_alloc_last (w.alloc (.cells #[.slice ta tn tc, .slice na nn nc, .slice la ln lc, .int .i64 st, .slice pa n pc] 27)) (.cells #[.slice none 0 0, .int .i64 0, .int .i64 0] 32)
    rw [World.size_alloc] at h; exact h
  have HPN : Hid (0 < n ∧ n ≤ 97) := ⟨hM.p0, hM.pmax⟩
  have hS1 : 1 ≤ S := by have := hM.t0; omega
  rw [← hS]
  clear hlen hG hc hM hts hns hS HRR
  obtain ⟨i2, hi2, hu0, hu1, hu2⟩ := info_parts infoState
  obtain ⟨i3, hi3, hv0, hv1, hv2⟩ := info_parts infoEdge
  go_enter Try.func7, Try.ntmps7
  go_wp2_with fail
  refine Calls.mono (HCL.out _ HX0.out) ?_
  rintro e P ⟨rfl, hg1⟩
  have HB1 : Hid (P.heap[w.heap.size + 1]? = some (.cells #[.slice none 0 0, .int .i64 0, .int .i64 0] 32 (0, 0))) := box_kept HB0.out hg1
  have HP1 : Hid (PhAt w P w.heap.size #[.slice ta tn tc, .slice na nn nc, .slice la ln lc, .int .i64 st, .slice pa n pc]) := HP0.out.kept hg1
  clear hg1 HB0 HX0 HP0
  have HA1 := show Hid _ from heap_alloc_last P (.cells #[.slice none 0 0, .int .i64 1, .int .i64 1] 32)
  have HA2 : Hid (((P.alloc (.cells #[.slice none 0 0, .int .i64 1, .int .i64 1] 32)).alloc (.cells #[.int .i64 0, .int .i64 0] 49)).heap[P.heap.size + 1]? = some (.cells #[.int .i64 0, .int .i64 0] 49 (0, 0))) := by
    have h := heap_alloc_last (P.alloc (.cells #[.slice none 0 0, .int .i64 1, .int .i64 1] 32)) (.cells #[.int .i64 0, .int .i64 0] 49)
    rw [World.size_alloc] at h; exact h
  have HNW : Hid (∀ j z, [Value.slice (some ⟨P.heap.size + 1, 0, none⟩) 1 1, Value.slice none 0 0][j]? = some z → (((P.alloc (.cells #[.slice none 0 0, .int .i64 1, .int .i64 1] 32)).alloc (.cells #[.int .i64 0, .int .i64 0] 49)).alloc (.cells #[.slice (some ⟨P.heap.size + 1, 0, none⟩) 1 1, .slice none 0 0] 43)).cell? ((⟨P.heap.size + 1 + 1, 0, none⟩ : Addr).add j) = some z) := by
    have h := heap_alloc_last ((P.alloc (.cells #[.slice none 0 0, .int .i64 1, .int .i64 1] 32)).alloc (.cells #[.int .i64 0, .int .i64 0] 49)) (.cells #[.slice (some ⟨P.heap.size + 1, 0, none⟩) 1 1, .slice none 0 0] 43)
    rw [World.size_alloc, World.size_alloc] at h
    exact World.news_of_block h
  go_wp2_with (at_builtin; refine wpList_append_srcW rfl (.tmp 18) (.tmp 22) 30 rfl P.heap.size 43 i2 (.agg #[.slice none 0 0, .slice none 0 0]) 2 48 Try.underlying30 hi2 hu0 hu1 hu2 rfl (by decide) (.slice none 0 0) 0 [] rfl (World.ownsRow_nil _ _ _ _) (some ⟨P.heap.size + 1 + 1, 0, none⟩) 1 1 [.slice (some ⟨P.heap.size + 1, 0, none⟩) 1 1, .slice none 0 0] rfl (fun h => by cases h) rfl (fun ad e => by cases e; exact HNW.out) (by simp [Value.oneCell']) (by unfold maxLen; omega) (by omega) (by simp; omega) ?_)
  intro v8 wB hoB hgB
  obtain ⟨s8, c8, rfl⟩ := owns_cut hoB
  have hgA : ((P.alloc (.cells #[.slice none 0 0, .int .i64 1, .int .i64 1] 32)).alloc (.cells #[.int .i64 0, .int .i64 0] 49)).grownBy wB none := grown_trans (World.grownBy_alloc _ _ none) hgB
  have hbB : wB.heap[P.heap.size]? = some (.cells #[.slice none 0 0, .int .i64 1, .int .i64 1] 32 (0, 0)) := box_kept HA1.out (grown_trans (World.grownBy_alloc _ _ none) hgA)
  obtain ⟨bx, hbx⟩ : ∃ b, b = P.heap.size := ⟨_, rfl⟩
  have HD0 : Hid (DbP P wB bx (.slice none 0 0) 1 1 (.slice s8 1 c8) 1 (fun _ => .slice (some ⟨P.heap.size + 1, 0, none⟩) 1 1) (fun _ => .slice none 0 0) (fun i => [[((0 : Int), (0 : Int))]].getD i []) (elF []) (fun _ _ => False)) := by
    refine ⟨grown_trans (World.grownBy_alloc _ _ none) (grown_trans (World.grownBy_alloc _ _ none) hgA), by rw [hbx]; exact hbB, hoB, fun i hi => ?_, fun i hi => World.ownsRow_nil _ _ _ _, fun i j _ _ _ => .inl rfl, by rw [hbx]; exact Nat.le_refl _, fun v l h => h.elim⟩
    obtain rfl : i = 0 := by omega
    exact ⟨rfl, .inr ⟨P.heap.size + 1, 1, #[.int .i64 0, .int .i64 0], rfl, by omega, box_kept HA2.out hgA, Nat.le_refl _, by unfold maxLen; omega, rfl, rfl⟩⟩
  have HD1 : Hid (DbAt P (wB.setCell ⟨bx, 0, none⟩ (.slice s8 1 c8)) bx [[(0, 0)]] ((askN [] : Nat) : Int) (elF []) (fun _ _ => False)) := ⟨s8, c8, _, _, HD0.out.setS _⟩
  obtain ⟨k0, _, _⟩ := HD0.out.cells
  have kf := HD0.out.free 0
  rw [← hbx]
  clear hoB hgB hgA hbB HA1 HA2 HNW HD0 hbx
  go_wp2_with fail
  obtain ⟨X5, hX5⟩ : ∃ X5, X5 = wB.setCell ⟨bx, 0, none⟩ (.slice s8 1 c8) := ⟨_, rfl⟩
  rw [← hX5] at HD1
  try rw [← hX5]
  clear k0 kf hX5
  go_loopg [6] 256 (fun gk v6 wr => ∃ (i : Nat) (ks : List (List It)) (es : List (List (Nat × Nat))), autoF (GG tn n L R) S i = some (ks, es) ∧ i ≤ ks.length ∧ gk = 256 - i ∧ v6 = .int .i64 i ∧ DbAt P wr bx ks (askN es : Int) (elF es) (fun _ _ => False))
  case atStart => exact ⟨0, [[(0, 0)]], [], rfl, Nat.zero_le _, rfl, rfl, HD1.out⟩
  case round =>
    obtain ⟨i, ks, es, hau, hi, hgi, rfl, hmk⟩ := hrel
    have HGI : Hid (gk = 256 - i) := hgi
    have HA : Hid (autoF (GG tn n L R) S i = some (ks, es)) := hau
    obtain ⟨hAO, hAN⟩ := HAU.out i ks es hau
    have HAO : Hid (AuOK (PJ n R) (GG tn n L R) S i ks es) := hAO
    obtain ⟨sa, sc, kv, ev, hD⟩ := hmk
    have HD : Hid (DbP P wr bx (.slice sa ks.length sc) (askN es : Int) (ks.length : Int) (.slice sa ks.length sc) ks.length kv ev (fun i => ks.getD i []) (elF es) (fun _ _ => False)) := hD
    obtain ⟨N, hN⟩ : ∃ n, n = ks.length := ⟨_, rfl⟩
    have HN : Hid (N = ks.length) := hN
    have hN256 : N ≤ 256 := by rw [hN]; exact hAO.kok.le
    obtain ⟨y0, y1, y2⟩ := hD.cells
    rw [← hN] at hi y0 y2
    by_cases hlt : i < N
    · have hid : decide (i < N) = true := decide_eq_true hlt
      have hi0 : (0 : Int) ≤ (i : Int) := by omega
      have hi1 : (i : Int) < (N : Int) := by omega
      have hil : i < ks.length := by rw [← hN]; exact hlt
      obtain ⟨sb, sc2, hse, hscell⟩ := owns_at hD.row (by omega)
      simp only [Value.slice.injEq] at hse
      obtain ⟨rfl, _, rfl⟩ := hse
      have hr1 := hscell _ _ (stV_at kv ev ks.length i hil).1
      obtain ⟨ka, kc, hkv⟩ := owns_cut (hD.ker i hil)
      have hkr := hD.ker i hil
      rw [hkv] at hr1 hkr
      have hqb : (ks.getD i []).length ≤ 3328001 := by
        have h1 := (hAO.kok.each i hil).2
        have h3 : 13000 * i ≤ 13000 * 256 := Nat.mul_le_mul_left _ (by omega)
        omega
      obtain ⟨kq, hkq⟩ : ∃ q, q = (ks.getD i []).length := ⟨_, rfl⟩
      have HCC : Hid (∀ Y, wr.grownBy Y none → Calls Try.prog 18 #[.agg #[.slice ta tn tc, .slice na nn nc, .slice la ln lc, .int .i64 st, .slice pa n pc], .slice ka kq kc] Y fun e y => CloTold tn n L R (ks.getD i []) Y e y) := fun Y hY => by
        rw [hkq]
        exact HCS.out Y ka kc (ks.getD i []) (grown_trans HP1.out.grown (grown_trans hD.grown hY)) (ItsAt.of (keep0 hkr hY)) (by omega) (hAO.kok.each i hil).1
      have HKS : Hid (∀ Y, wr.grownBy Y none → (Y.cell? ⟨w.heap.size, 0, none⟩ = some (.slice ta tn tc) ∧ Y.cell? ⟨w.heap.size, 1, none⟩ = some (.slice na nn nc) ∧ Y.cell? ⟨w.heap.size, 2, none⟩ = some (.slice la ln lc) ∧ Y.cell? ⟨w.heap.size, 3, none⟩ = some (.int .i64 st) ∧ Y.cell? ⟨w.heap.size, 4, none⟩ = some (.slice pa n pc)) ∧ Y.cell? ⟨bx, 0, none⟩ = some (.slice (some ⟨sb, 0, none⟩) N sc) ∧ Y.cell? ⟨sb, i * 2, none⟩ = some (.slice ka kq kc)) := fun Y hY => ⟨(HP1.out.kept (grown_trans hD.grown hY)).cells, hY.cell y0 (by simp), by rw [hkq]; exact hY.cell hr1 (by simp)⟩
      have HQB : Hid ((ks.getD i []).length ≤ 3328001) := hqb
      have HUP : Hid (wr.grownBy wr.drew none) := grown_drewN _ 1
      clear hgi hau hAO hD hN hscell hr1 hkv hkr hqb hkq hil y1 y2 HD1
      go_wp2_with fail
      clear y0
      go_region_held3 (fun Y => (Y.cell? ⟨w.heap.size, 0, none⟩ = some (.slice ta tn tc) ∧ Y.cell? ⟨w.heap.size, 1, none⟩ = some (.slice na nn nc) ∧ Y.cell? ⟨w.heap.size, 2, none⟩ = some (.slice la ln lc) ∧ Y.cell? ⟨w.heap.size, 3, none⟩ = some (.int .i64 st) ∧ Y.cell? ⟨w.heap.size, 4, none⟩ = some (.slice pa n pc)) ∧ Y.cell? ⟨bx, 0, none⟩ = some (.slice (some ⟨sb, 0, none⟩) N sc) ∧ Y.cell? ⟨sb, i * 2, none⟩ = some (.slice ka kq kc)) (first | exact HKS.out _ HUP.out | exact HKS.out _ HG4.out | go_keep)
        ((first
          | (go_at_call 18; refine Calls.mono (HCC.out _ HUP.out) ?_; rintro e w4 ⟨l, hIC, hll, a3, c3, rfl, ho3, hg4⟩; have HG4 : Hid (wr.grownBy w4 none) := grown_trans HUP.out hg4; have HIC : Hid (IsClo tn n L R (ks.getD i []) l ∧ l.length ≤ (ks.getD i []).length + 13000) := ⟨hIC, hll⟩; have HO3 : Hid (w4.ownsRow wr.drew.heap.size 49 2 (.slice a3 l.length c3) l.length (itsV l)) := ho3; clear hIC hll ho3 hg4)
          | fail))
      have HIM : Hid (∀ x ∈ l, itB n R x = true) := fun x hx => ((HIC.out.1.mem x).1 hx).item (HAO.out.kok.each i (by rw [← HN.out]; exact hlt)).1
      have HGE : Hid (GG tn n L R (ks.getD i []) = fun s : Nat => kerT R l (s : Int)) := GG_eq HIC.out.1 HIC.out.2
      have HIL : Hid (i < ks.length) := by show _ < _; rw [← HN.out]; exact hlt
      have HLV : Hid (∀ s ks' ed, leaveF (fun s : Nat => kerT R l (s : Int)) ks s = some (ks', ed) → KsOK (PJ n R) ks' ∧ ks <+: ks' ∧ ed.length ≤ s) := fun s ks' ed h => by
        obtain ⟨h1, h2, h3, _⟩ := HAO.out.kok.leave (G := fun s : Nat => kerT R l (s : Int)) (fun m t hm => PJ.ker (HAO.out.kok.each i HIL.out) HIM.out HIC.out.2 (Nat.lt_of_lt_of_le HIL.out hm)) s h
        exact ⟨h1, h2, h3⟩
      have HLB : Hid (l.length ≤ 3341001) := by have h1 := HIC.out.2; have h2 := HQB.out; show _ ≤ _; omega
      have HEI : Hid (es.length = i) := by show _ = _; rw [HAO.out.len]; have := HIL.out; omega
      have HE0 : Hid (updL (elF es) i (edI []) = elF es) := by
        have h := elF_out (es := es) (j := i) (by rw [HEI.out]; exact Nat.le_refl _)
        refine funext fun j => ?_
        by_cases e : j = i
        · rw [e, updL_same, h]; rfl
        · rw [updL_other _ _ e]
      have HL1 : Hid (leaveF (fun s : Nat => kerT R l (s : Int)) ks 1 = some (ks, [])) := leaveF_skip rfl (by have h := HZ.out (ks.getD i []) (HAO.out.kok.each i HIL.out).1; rw [HGE.out] at h; exact h)
      obtain ⟨ak, hak⟩ : ∃ a : Nat, a = askN es := ⟨_, rfl⟩
      have HAK : Hid (ak = askN es) := hak
      have hakb : ak ≤ 33281 := by rw [hak]; exact hAN
      obtain ⟨q, hq⟩ : ∃ q, q = l.length := ⟨_, rfl⟩
      have HQ : Hid (q = l.length) := hq
      obtain ⟨Q1, hQ1⟩ : ∃ Q : Value → List It → Prop, Q = fun v m => v = .slice a3 q c3 ∧ m = l := ⟨_, rfl⟩
      have HQ1 : Hid (Q1 = fun v m => v = .slice a3 q c3 ∧ m = l) := hQ1
      have HD4 : Hid (DbAt P w4 bx ks ((ak + ([] : List (Nat × Nat)).length : Nat) : Int) (updL (elF es) i (edI [])) Q1) := by
        rw [HE0.out, List.length_nil, Nat.add_zero, hak]
        refine ⟨_, _, kv, ev, (HD.out.kept HG4.out).mono fun v m hm => ?_⟩
        rw [hQ1] at hm
        obtain ⟨rfl, rfl⟩ := hm
        rw [hq]
        exact owns_base HO3.out (Nat.le_trans HD.out.grown.size HUP.out.size)
      have HGF : Hid (∀ Y (s : Int), w.grownBy Y none → ItsAt Y a3 l → Calls Try.prog 20 #[.agg #[.slice ta tn tc, .slice na nn nc, .slice la ln lc, .int .i64 st, .slice pa n pc], .int .i64 s, .slice a3 q c3] Y fun e y => ItsTold (kerT R l s) Y e y) := fun Y s hY hI => by
        rw [hq]
        exact HFR.out Y a3 c3 l s hY hI (by have := HLB.out; omega) HIM.out HIC.out.1.asc
      rw [← hq]
      clear hq hak hQ1 hAN HKS HUP HCC HO3 HD
      go_wp2_with fail
      go_loopg [8] (S - 1) (fun gk v8 wr => ∃ (s : Nat) (ks' : List (List It)) (ed : List (Nat × Nat)), s ≤ S ∧ gk = S - s ∧ v8 = .int .i64 s ∧ leaveF (fun s : Nat => kerT R l (s : Int)) ks s = some (ks', ed) ∧ DbAt P wr bx ks' ((ak + ed.length : Nat) : Int) (updL (elF es) i (edI ed)) Q1)
      case atStart => exact ⟨1, ks, [], hS1, rfl, rfl, HL1.out, HD4.out⟩
      case round =>
        obtain ⟨s, ks', ed, hs, hgs, rfl, hlv, hD5⟩ := hrel
        have HGS : Hid (gk = S - s) := hgs
        have HLF : Hid (leaveF (fun s : Nat => kerT R l (s : Int)) ks s = some (ks', ed)) := hlv
        have HD5 : Hid (DbAt P wr bx ks' ((ak + ed.length : Nat) : Int) (updL (elF es) i (edI ed)) Q1) := hD5
        obtain ⟨hk1, hk2, hk3⟩ := HLV.out _ _ _ hlv
        obtain ⟨em, hem⟩ : ∃ m, m = ed.length := ⟨_, rfl⟩
        have HEM : Hid (em = ed.length) := hem
        have hems : em ≤ S := by omega
        have HK1 : Hid (KsOK (PJ n R) ks') := hk1
        have HI5 : Hid (i < ks'.length) := Nat.lt_of_lt_of_le HIL.out hk2.length_le
        rw [← hem] at HD5
        clear hgs hlv hD5 hk1 hk2 hk3 hem HD4
        obtain ⟨k0, k1, k2, k3, k4⟩ := (HP1.out.kept HD5.out.grown).cells
        go_wp2_with fail
        refine Calls.mono (HSY.out _) ?_
        rintro e w5 ⟨rfl, hg5⟩
        have HD6 : Hid (DbAt P w5 bx ks' ((ak + em : Nat) : Int) (updL (elF es) i (edI ed)) Q1) := HD5.out.kept hg5
        clear hg5 HD5 k0 k1 k2 k3 k4
        obtain ⟨k0, k1, k2, k3, k4⟩ := (HP1.out.kept HD6.out.grown).cells
        by_cases hlt2 : s < S
        · have hsd : decide (s < S) = true := decide_eq_true hlt2
          have HFC : Hid (Calls Try.prog 20 #[.agg #[.slice ta tn tc, .slice na nn nc, .slice la ln lc, .int .i64 st, .slice pa n pc], .int .i64 (s : Int), .slice a3 q c3] w5 fun e y => ItsTold (kerT R l (s : Int)) w5 e y) := by
            obtain ⟨sa5, sc5, kv5, ev5, h5⟩ := HD6.out
            have h6 := h5.pas (.slice a3 q c3) l (by rw [HQ1.out]; exact ⟨rfl, rfl⟩)
            exact HGF.out w5 (s : Int) (grown_trans HP1.out.grown h5.grown) (ItsAt.of (by rw [← HQ.out]; rw [← HQ.out] at h6; exact h6))
          go_wp2_with fail
          refine Calls.mono HFC.out ?_
          rintro e w6 ⟨a9, c9, rfl, ho9, hg6⟩
          obtain ⟨K, hK⟩ : ∃ K, K = kerT R l (s : Int) := ⟨_, rfl⟩
          have HKK : Hid (K = kerT R l (s : Int)) := hK
          have HKL : Hid (K.length ≤ 3341001) := by show _ ≤ _; rw [hK]; exact Nat.le_trans (kerT_len R l (s : Int)) HLB.out
          rw [← hK] at ho9 ⊢
          obtain ⟨kl, hkl⟩ : ∃ k, k = K.length := ⟨_, rfl⟩
          have HKN : Hid (kl = K.length) := hkl
          rw [← hkl] at ho9 ⊢
          have HO9 : Hid (w6.ownsRow P.heap.size 49 2 (.slice a9 kl c9) kl (itsV K)) := owns_base ho9 HD6.out.grown.size
          have HD7 : Hid (DbAt P w6 bx ks' ((ak + em : Nat) : Int) (updL (elF es) i (edI ed)) Q1) := HD6.out.kept hg6
          clear hK hkl ho9 hg6 HFC HD6 k0 k1 k2 k3 k4
          by_cases hk0 : kl = 0
          · have hkz : ((kl : Int) == 0) = true := beq_iff_eq.2 (by omega)
            have hkz1 : (kl == 0) = true := beq_iff_eq.2 hk0
            have HLF2 : Hid (leaveF (fun s : Nat => kerT R l (s : Int)) ks (s + 1) = some (ks', ed)) := leaveF_skip HLF.out (by show kerT R l (s : Int) = []; rw [← HKK.out]; exact List.eq_nil_of_length_eq_zero (by rw [← HKN.out]; exact hk0))
            clear hk0
            go_wp2_with fail
            go_roundg (S - (s + 1))
            case measure => have := HGS.out; omega
            case rel => exact ⟨s + 1, ks', ed, by omega, rfl, by go_num, HLF2.out, by rw [← HEM.out]; exact HD7.out⟩
          · have hkz : ((kl : Int) == 0) = false := beq_eq_false_iff_ne.2 (by omega)
            have hkz1 : (kl == 0) = false := beq_eq_false_iff_ne.2 hk0
            have HNE : Hid (kerT R l (s : Int) ≠ []) := by
              intro h
              rw [← HKK.out] at h
              exact hk0 (by rw [HKN.out, h]; rfl)
            obtain ⟨sa7, sc7, kv7, ev7, hD7⟩ := HD7.out
            obtain ⟨c, hc⟩ : ∃ c, c = ak + em := ⟨_, rfl⟩
            have HCA : Hid (c = ak + em) := hc
            have hcb : c ≤ 100000 := by omega
            obtain ⟨Q2, hQ2⟩ : ∃ Q : Value → List It → Prop, Q = fun v m => Q1 v m ∨ (v = .slice a9 kl c9 ∧ m = K) := ⟨_, rfl⟩
            have HQ2 : Hid (Q2 = fun v m => Q1 v m ∨ (v = .slice a9 kl c9 ∧ m = K)) := hQ2
            have hD7' : DbP P w6 bx (.slice sa7 ks'.length sc7) (c : Int) (ks'.length : Int) (.slice sa7 ks'.length sc7) ks'.length kv7 ev7 (fun i => ks'.getD i []) (updL (elF es) i (edI ed)) Q2 := by
              rw [hc]
              refine hD7.mono fun v m hm => ?_
              rw [hQ2] at hm
              rcases hm with hm | ⟨rfl, rfl⟩
              · exact hD7.pas v m hm
              · rw [← HKN.out]; exact HO9.out
            have hD8 := hD7'.setA ((c : Int) + 1)
            obtain ⟨X8, hX8⟩ : ∃ X, X = w6.setCell ⟨bx, 1, none⟩ (.int .i64 ((c : Int) + 1)) := ⟨_, rfl⟩
            have HX8 : Hid (X8 = w6.setCell ⟨bx, 1, none⟩ (.int .i64 ((c : Int) + 1))) := hX8
            rw [← hX8] at hD8
            obtain ⟨-, y1, -⟩ := hD7'.cells
            have f1 := hD7'.free 1
            obtain ⟨z0, -, -⟩ := hD8.cells
            obtain ⟨M, hM⟩ : ∃ m, m = ks'.length := ⟨_, rfl⟩
            have HM : Hid (M = ks'.length) := hM
            have hM256 : M ≤ 256 := by rw [hM]; exact HK1.out.le
            have hiM : i < M := by rw [hM]; exact HI5.out
            have hwc : IntKind.i64.wrap ((c : Int) + 1) = (c : Int) + 1 := by rw [IntKind.wrap_i64]; omega
            obtain ⟨pv, hpv⟩ : ∃ v, v = placeV ks' K := ⟨_, rfl⟩
            have HPL : Hid (Calls Try.prog 21 #[.slice sa7 M sc7, .slice a9 kl c9] X8 fun e y => e = .returned (.int .i64 pv) ∧ X8.grownBy y none) := by
              obtain ⟨pa7, pc7, h7⟩ := hD8.kers
              have h8 := hD8.pas (.slice a9 kl c9) K (by rw [hQ2]; exact .inr ⟨rfl, rfl⟩)
              rw [hM, hpv, HKN.out]
              rw [HKN.out] at h8
              refine rplace_any sa7 a9 sc7 c9 ks' pa7 pc7 K X8 h7 (ItsAt.of h8) HK1.out.le (fun j hj => ?_) (by have := HKL.out; omega)
              have h1 := (HK1.out.each j hj).2
              have h2 := HK1.out.le
              have h4 : 13000 * j ≤ 13000 * 256 := Nat.mul_le_mul_left _ (by omega)
              omega
            have HD8 : Hid (DbP P X8 bx (.slice sa7 M sc7) ((c : Int) + 1) (M : Int) (.slice sa7 M sc7) M kv7 ev7 (fun i => ks'.getD i []) (updL (elF es) i (edI ed)) Q2) := by rw [hM]; exact hD8
            rw [← hM] at z0
            rw [hX8] at z0
            have HPV : Hid (pv = placeV ks' K) := hpv
            clear hc hQ2 hD7 hD7' hD8 hX8 hM hpv HD7 HO9
            go_wp2_with fail
            rw [← HX8.out]
            refine Calls.mono HPL.out ?_
            rintro e w9 ⟨rfl, hg9⟩
            have HD9 : Hid (DbP P w9 bx (.slice sa7 M sc7) ((c : Int) + 1) (M : Int) (.slice sa7 M sc7) M kv7 ev7 (fun i => ks'.getD i []) (updL (elF es) i (edI ed)) Q2) := HD8.out.kept hg9
            clear hg9 y1 f1 z0 HPL HX8 HD8
            have hcs : K ∈ ks' ∨ (K ∉ ks' ∧ M < 256) ∨ (K ∉ ks' ∧ 256 ≤ M) := by
              by_cases h1 : K ∈ ks'
              · exact .inl h1
              · by_cases h2 : M < 256
                · exact .inr (.inl ⟨h1, h2⟩)
                · exact .inr (.inr ⟨h1, by omega⟩)
            rcases hcs with hm | ⟨hm, hf⟩ | ⟨hm, hf⟩
            case' inl =>
              obtain ⟨t, ht⟩ : ∃ t, t = ks'.idxOf K := ⟨_, rfl⟩
              obtain ⟨ks2, hks2⟩ : ∃ k, k = ks' := ⟨_, rfl⟩
              have HAF : Hid (askF ks' K = some (t, ks2)) := by
                show _ = _
                unfold askF
                rw [if_pos hm, ht, hks2]
              obtain rfl : pv = (t : Int) := by
                have := HPV.out
                unfold placeV at this
                rw [if_pos hm] at this
                rw [this, ht]
              have HD2 : Hid (DbAt P w9 bx ks2 ((c : Int) + 1) (updL (elF es) i (edI ed)) Q1) := by
                rw [hks2]
                refine ⟨sa7, sc7, kv7, ev7, ?_⟩
                have h := HD9.out.mono (Q' := Q1) fun v m hm => HD9.out.pas v m (by rw [HQ2.out]; exact .inl hm)
                rw [← HM.out]; exact h
              obtain ⟨X2, rfl⟩ : ∃ X, X = w9 := ⟨_, rfl⟩
              have htd : decide ((t : Int) < 0) = false := decide_eq_false (by omega)
              clear hm ht hks2 HD9 HPV
              go_wp2_with fail
            case' inr.inr =>
              have HNO : Hid (leaveF (fun s : Nat => kerT R l (s : Int)) ks S = none) := leaveF_full HLF.out HNE.out (by
                show askF ks' (kerT R l (s : Int)) = _
                rw [← HKK.out]
                unfold askF
                rw [if_neg hm, if_neg (by rw [← HM.out]; omega)]) hlt2
              have HN2 : Hid (autoF (GG tn n L R) S 256 = none) := by
                have hst := autoF_step HA.out HIL.out
                rw [HGE.out, HNO.out] at hst
                have h9 := autoF_none hst (256 - (i + 1))
                rwa [show i + 1 + (256 - (i + 1)) = 256 by omega] at h9
              obtain rfl : pv = -1 := by
                have := HPV.out
                unfold placeV at this
                rw [if_neg hm] at this
                exact this
              have HB9 : Hid (w9.heap[w.heap.size + 1]? = some (.cells #[.slice none 0 0, .int .i64 0, .int .i64 0] 32 (0, 0))) := box_kept HB1.out HD9.out.grown
              have HG9 : Hid (w.grownBy w9 none) := grown_trans HP1.out.grown HD9.out.grown
              obtain ⟨z0, -, -⟩ := HD9.out.cells
              have hfd : decide (256 ≤ M) = true := decide_eq_true hf
              have hfd2 : decide ((256 : Int) ≤ (M : Int)) = true := decide_eq_true (by omega)
              have k0 := cell_of_row w9 (w.heap.size + 1) 0 _ _ _ HB9.out
              have k1 := cell_of_row w9 (w.heap.size + 1) 1 _ _ _ HB9.out
              have k2 := cell_of_row w9 (w.heap.size + 1) 2 _ _ _ HB9.out
              have kf := fun j => frozen_of_row w9 (w.heap.size + 1) j _ _ HB9.out
              simp only [List.getElem?_toArray, List.getElem?_cons_zero, List.getElem?_cons_succ] at k0 k1 k2
              clear hm HD9 HPV
              go_wp2_with fail
              refine bodyPost_ret (v := .tuple #[.agg #[.slice none 0 0, .int .i64 0, .int .i64 0], .int .i64 11]) ?_ rfl ?_
              · exact results_rbuild _ _ (w.heap.size + 1) _ _ rfl rfl (set3_heap HB9.out _ _ _) rfl
              · exact .inr ⟨HN2.out, rfl, grown_new HG9.out (set3_grown _ _ _ _ _) (by omega)⟩
            case' inr.inl =>
              obtain rfl : pv = -1 := by
                have := HPV.out
                unfold placeV at this
                rw [if_neg hm] at this
                exact this
              have HAF0 : Hid (askF ks' K = some (M, ks' ++ [K])) := by
                show _ = _
                unfold askF
                rw [if_neg hm, if_pos (by rw [← HM.out]; exact hf), HM.out]
              obtain ⟨z0, -, z2⟩ := HD9.out.cells
              have f2 := HD9.out.free 2
              have hfd : decide (256 ≤ M) = false := decide_eq_false (by omega)
              have hfd2 : decide ((256 : Int) ≤ (M : Int)) = false := decide_eq_false (by omega)
              have hwm : IntKind.i64.wrap ((M : Int) + 1) = (M : Int) + 1 := by rw [IntKind.wrap_i64]; omega
              have hD10 := HD9.out.setI ((M : Int) + 1)
              have HD11 : Hid (DbP P ((w9.setCell ⟨bx, 2, none⟩ (.int .i64 ((M : Int) + 1))).alloc (.cells #[.slice a9 kl c9, .slice none 0 0] 43)) bx (.slice sa7 M sc7) ((c : Int) + 1) ((M : Int) + 1) (.slice sa7 M sc7) M kv7 ev7 (fun i => ks'.getD i []) (updL (elF es) i (edI ed)) Q2) := hD10.kept (World.grownBy_alloc _ _ none)
              obtain ⟨x0, -, -⟩ := hD10.cells
              have HNS : Hid (∀ j z, [Value.slice a9 kl c9, Value.slice none 0 0][j]? = some z → ((w9.setCell ⟨bx, 2, none⟩ (.int .i64 ((M : Int) + 1))).alloc (.cells #[.slice a9 kl c9, .slice none 0 0] 43)).cell? ((⟨(w9.setCell ⟨bx, 2, none⟩ (.int .i64 ((M : Int) + 1))).heap.size, 0, none⟩ : Addr).add j) = some z) := World.news_of_block (heap_alloc_last _ _)
              have e9 : (w9.setCell ⟨bx, 2, none⟩ (.int .i64 ((M : Int) + 1))).heap.size = w9.heap.size := by simp
              rw [e9] at HNS
              clear hm HPV hD10 e9
              go_wp2_with (at_builtin; refine wpList_append_srcW rfl (.tmp 74) (.tmp 77) 30 rfl P.heap.size 43 i2 (.agg #[.slice none 0 0, .slice none 0 0]) 2 48 Try.underlying30 hi2 hu0 hu1 hu2 rfl (by decide) (.slice sa7 M sc7) M (stV kv7 ev7 M) rfl HD11.out.row (some ⟨w9.heap.size, 0, none⟩) 1 1 [.slice a9 kl c9, .slice none 0 0] rfl (fun h => by cases h) rfl (fun ad e => by cases e; exact HNS.out) (by simp [Value.oneCell']) (by unfold maxLen; omega) (by omega) HD11.out.grown.size ?_)
              intro v12 wB hoB hgB
              obtain ⟨s12, c12, rfl⟩ := owns_cut hoB
              have hkk := HD11.out.pas (.slice a9 kl c9) K (by rw [HQ2.out]; exact .inr ⟨rfl, rfl⟩)
              have hD12 := HD11.out.pushS (rv' := .slice s12 (M + 1) c12) hkk hgB hoB
              have hD13 := hD12.setS (.slice s12 (M + 1) c12)
              obtain ⟨x0, -, -⟩ := hD12.cells
              have xf := hD12.free 0
              have HD2 : Hid (DbAt P (wB.setCell ⟨bx, 0, none⟩ (.slice s12 (M + 1) c12)) bx (ks' ++ [K]) ((c : Int) + 1) (updL (elF es) i (edI ed)) Q1) := by
                have e1 : updL (fun i => ks'.getD i []) M K = fun i => (ks' ++ [K]).getD i [] := by rw [HM.out]; exact db_more
                have e2 : updL (updL (elF es) i (edI ed)) M [] = updL (elF es) i (edI ed) := db_none fun j hj => by
                  rw [updL_other _ _ (by omega)]
                  exact elF_out (by rw [HEI.out]; omega)
                have e3 : (ks' ++ [K]).length = M + 1 := by rw [List.length_append, ← HM.out]; rfl
                rw [e1, e2] at hD13
                have h := hD13.mono (Q' := Q1) fun v m hm => hD13.pas v m (by rw [HQ2.out]; exact .inl hm)
                refine ⟨s12, c12, updL kv7 M (.slice a9 kl c9), updL ev7 M (.slice none 0 0), ?_⟩
                rw [e3]
                exact h
              clear hoB hgB hkk hD12 hD13 HD11 HNS HD9 z0 z2 f2
              go_wp2_with fail
              obtain ⟨X2, hX2⟩ : ∃ X, X = wB.setCell ⟨bx, 0, none⟩ (.slice s12 (M + 1) c12) := ⟨_, rfl⟩
              rw [← hX2] at HD2
              rw [← hX2]
              obtain ⟨ks2, hks2⟩ : ∃ k, k = ks' ++ [K] := ⟨_, rfl⟩
              rw [← hks2] at HD2 HAF0
              clear hX2 hks2 x0 xf hfd hfd2 hwm
              obtain ⟨t, rfl⟩ : ∃ t, t = M := ⟨_, rfl⟩
              have HAF : Hid (askF ks' K = some (t, ks2)) := HAF0.out
              clear HAF0
            all_goals
              have HLF2 : Hid (leaveF (fun s : Nat => kerT R l (s : Int)) ks (s + 1) = some (ks2, ed ++ [(s, t)])) := leaveF_push HLF.out HNE.out (by show askF ks' (kerT R l (s : Int)) = _; rw [← HKK.out]; exact HAF.out)
              have HL2 : Hid (i < ks2.length ∧ ks2.length ≤ 256) := by
                obtain ⟨h1, h2, _⟩ := HLV.out _ _ _ HLF2.out
                exact ⟨Nat.lt_of_lt_of_le HIL.out h2.length_le, h1.le⟩
              obtain ⟨sa2, sc2, kv2, ev2, hD2⟩ := HD2.out
              obtain ⟨sb2, sc3, hse2, hscell2⟩ := owns_at hD2.row (by have := HL2.out; omega)
              simp only [Value.slice.injEq] at hse2
              obtain ⟨rfl, _, rfl⟩ := hse2
              have r1 := hscell2 _ _ (stV_at kv2 ev2 ks2.length i HL2.out.1).2
              obtain ⟨ea, ec, hev⟩ := owns_cut (hD2.edg i HL2.out.1)
              have her := hD2.edg i HL2.out.1
              rw [hev] at r1 her
              simp only [updL_same] at r1 her
              rw [edI_len, ← HEM.out] at r1 her
              obtain ⟨N2, hN2⟩ : ∃ m, m = ks2.length := ⟨_, rfl⟩
              obtain ⟨x0, -, -⟩ := hD2.cells
              have hiN2 : (i : Int) < (N2 : Int) := by have := HL2.out.1; omega
              rw [← hN2] at x0
              have HRC : Hid (∀ Y, X2.grownBy Y none → Y.cell? ⟨bx, 0, none⟩ = some (.slice (some ⟨sb2, 0, none⟩) N2 sc2) ∧ Y.cell? ⟨sb2, i * 2 + 1, none⟩ = some (.slice ea em ec)) := fun Y hY => ⟨hY.cell x0 (by simp), hY.cell r1 (by simp)⟩
              have HOW : Hid (∀ Y, X2.grownBy Y none → Y.ownsRow P.heap.size 61 2 (.slice ea em ec) em (itsV (edI ed))) := fun Y hY => keep0 her hY
              have HPS : Hid (∀ Y, X2.grownBy Y none → P.heap.size ≤ Y.heap.size) := fun Y hY => (hD2.kept hY).grown.size
              have HFIN : Hid (∀ (Y Z : World) (g c' : Nat), X2.grownBy Y none → Y.grownBy Z (Value.slice ea em ec).ownBlock → Z.ownsRow P.heap.size 61 2 (.slice (some ⟨g, 0, none⟩) (em + 1) c') (em + 1) (itsV (edI ed) ++ [.int .i64 (s : Int), .int .i64 (t : Int)]) → ((Value.slice ea em ec).ownBlock = some g ∨ g = Y.heap.size) →
                  DbAt P (Z.setCell ⟨sb2, i * 2 + 1, none⟩ (.slice (some ⟨g, 0, none⟩) (em + 1) c')) bx ks2 ((ak + (ed ++ [(s, t)]).length : Nat) : Int) (updL (elF es) i (edI (ed ++ [(s, t)]))) Q1 ∧ Z.cell? ⟨sb2, i * 2 + 1, none⟩ = some (.slice ea em ec) ∧ Z.frozen? ⟨sb2, i * 2 + 1, none⟩ = false ∧ Z.cell? ⟨bx, 0, none⟩ = some (.slice (some ⟨sb2, 0, none⟩) N2 sc2)) := fun Y Z g c' hY hg ho hat => by
                have hl : (edI (ed ++ [(s, t)])).length = em + 1 := by rw [edI_len, List.length_append, ← HEM.out]; rfl
                have hE := (hD2.kept hY).pushE (i := i) (g := g) (c := c') (ed := edI (ed ++ [(s, t)])) HL2.out.1 (by rw [hev]; simp only [updL_same]; rw [edI_len, ← HEM.out]; exact hg) (by rw [hl, edI_snoc, itsV_append]; exact ho) (by rw [hev]; simp only [updL_same]; rw [edI_len, ← HEM.out]; exact hat)
                have hS9 := hE.set rfl HL2.out.1
                refine ⟨?_, ?_, ?_, ?_⟩
                · have e1 : updL (updL (elF es) i (edI ed)) i (edI (ed ++ [(s, t)])) = updL (elF es) i (edI (ed ++ [(s, t)])) := funext fun j => by
                    by_cases e : j = i
                    · rw [e, updL_same, updL_same]
                    · rw [updL_other _ _ e, updL_other _ _ e, updL_other _ _ e]
                  have e2 : ((ak + (ed ++ [(s, t)]).length : Nat) : Int) = (c : Int) + 1 := by
                    have h1 : (ed ++ [(s, t)]).length = em + 1 := by rw [List.length_append, ← HEM.out]; rfl
                    have h2 := HCA.out
                    omega
                  rw [e1, hl] at hS9
                  rw [e2]
                  exact ⟨_, _, _, _, hS9⟩
                · obtain ⟨g9, c9', e9, h9⟩ := owns_at hE.row (by have := HL2.out; omega)
                  simp only [Value.slice.injEq, Option.some.injEq, Addr.mk.injEq] at e9
                  obtain ⟨⟨rfl, _⟩, _⟩ := e9
                  rw [h9 _ _ (stV_at kv2 ev2 ks2.length i HL2.out.1).2, hev]
                  simp only [updL_same]
                  rw [edI_len, ← HEM.out]
                · rcases hE.row.2 with ⟨h1, _⟩ | ⟨g9, cap9, cur9, h1, _, hh, _⟩
                  · cases h1
                  · simp only [Value.slice.injEq, Option.some.injEq, Addr.mk.injEq] at h1
                    obtain ⟨⟨rfl, _⟩, _⟩ := h1
                    exact frozen_of_row _ _ _ _ _ hh
                · rw [hE.cells, hN2]
              obtain ⟨x1, x2⟩ := HRC.out X2 (grown_refl _ _)
              have x3 : ∀ o, (X2.alloc o).cell? ⟨bx, 0, none⟩ = some (.slice (some ⟨sb2, 0, none⟩) N2 sc2) := fun o => (HRC.out _ (World.grownBy_alloc _ _ none)).1
              have x4 : ∀ o, (X2.alloc o).cell? ⟨sb2, i * 2 + 1, none⟩ = some (.slice ea em ec) := fun o => (HRC.out _ (World.grownBy_alloc _ _ none)).2
              obtain ⟨xs, hxs⟩ : ∃ xs, xs = itsV (edI ed) := ⟨_, rfl⟩
              rw [← hxs] at HOW HFIN
              clear hD2 hscell2 hev her hN2 hxs x0 r1 HD2
              refine rb_edgeq (X2 := X2) (B := P.heap.size) (bx := bx) (sb2 := sb2) (N2 := N2) (sc2 := sc2) (i := i) (s := s) (t := t) (em := em) (ec := ec) (ea := ea) (xs := xs) x1 x2 x3 x4 hiN2 (by omega) HOW.out HPS.out ?_
              intro Y9 Z9 g9 c9 hY9 hg9 ho9 hat9
              obtain ⟨q1, q2, q3, q4⟩ := HFIN.out Y9 Z9 g9 c9 hY9 hg9 ho9 hat9
              refine ⟨q2, q3, q4, ?_⟩
              intro u80 u81 u82 u83 u84 u85 u86 u87 u88 u89 u90 u91 u92 u93 u94 u95
              have HQ9 := show Hid _ from q1
              clear q1 q2 q3 q4 hY9 hg9 ho9 hat9 x1 x2 x3 x4
              go_wp2_with fail
              go_roundg (S - (s + 1))
              case measure => have := HGS.out; omega
              case rel => exact ⟨s + 1, ks2, ed ++ [(s, t)], by omega, rfl, by go_num, HLF2.out, HQ9.out⟩
        · have hsS : S = s := by omega
          subst hsS
          have hsd : decide (S < S) = false := decide_eq_false (by omega)
          have HA2 : Hid (autoF (GG tn n L R) S (i + 1) = some (ks', es ++ [ed])) := by
            have hst := autoF_step HA.out HIL.out
            rw [HGE.out, HLF.out] at hst
            exact hst
          have HDN : Hid (DbAt P w5 bx ks' ((askN (es ++ [ed]) : Nat) : Int) (elF (es ++ [ed])) (fun _ _ => False)) := by
            obtain ⟨sa5, sc5, kv5, ev5, h5⟩ := HD6.out
            refine ⟨sa5, sc5, kv5, ev5, ?_⟩
            have h6 := h5.mono (Q' := fun _ _ => False) fun v m hm => hm.elim
            rw [← elF_snoc, askN_snoc, HEI.out, ← HAK.out, ← HEM.out]
            exact h6
          go_wp2_with fail
          go_roundg (256 - (i + 1))
          case measure => have := HGI.out; omega
          case rel => exact ⟨i + 1, ks', es ++ [ed], HA2.out, HI5.out, rfl, by go_num, HDN.out⟩
    · have hiN : N = i := by omega
      subst hiN
      have hid : decide (N < N) = false := decide_eq_false (by omega)
      have HA2 : Hid (autoF (GG tn n L R) S 256 = some (ks, es)) := by
        have h9 := autoF_stay HA.out (by rw [← HN.out]; exact Nat.le_refl _) (256 - N)
        rwa [show N + (256 - N) = 256 by omega] at h9
      have HB9 : Hid (wr.heap[w.heap.size + 1]? = some (.cells #[.slice none 0 0, .int .i64 0, .int .i64 0] 32 (0, 0))) := box_kept HB1.out HD.out.grown
      have HG9 : Hid (w.grownBy wr none) := grown_trans HP1.out.grown HD.out.grown
      have HAP : Hid (AutP w.heap.size wr (.slice sa ks.length sc) ks (elF es) kv ev) := ⟨owns_base HD.out.row HP1.out.grown.size, fun i hi => owns_base (HD.out.ker i hi) HP1.out.grown.size, fun i hi => owns_base (HD.out.edg i hi) HP1.out.grown.size⟩
      have k0 := cell_of_row wr (w.heap.size + 1) 0 _ _ _ HB9.out
      have k1 := cell_of_row wr (w.heap.size + 1) 1 _ _ _ HB9.out
      have k2 := cell_of_row wr (w.heap.size + 1) 2 _ _ _ HB9.out
      have kf := fun j => frozen_of_row wr (w.heap.size + 1) j _ _ HB9.out
      simp only [List.getElem?_toArray, List.getElem?_cons_zero, List.getElem?_cons_succ] at k0 k1 k2
      obtain ⟨ask, hask⟩ : ∃ a, a = (askN es : Int) := ⟨_, rfl⟩
      have HASK : Hid (ask = (askN es : Int)) := hask
      rw [← hask] at y1
      clear hask hau hAO hD HD HD1 hN hAN hgi
      go_wp2_with fail
      refine bodyPost_ret (v := .tuple #[.agg #[.slice sa N sc, .int .i64 ask, .int .i64 (N : Int)], .int .i64 0]) ?_ rfl ?_
      · exact results_rbuild _ _ (w.heap.size + 1) _ _ rfl rfl (set3_heap HB9.out _ _ _) rfl
      · refine .inl ⟨ks, es, sa, sc, kv, ev, HA2.out, ?_, ?_, grown_new HG9.out (set3_grown _ _ _ _ _) (by omega)⟩
        · rw [HASK.out, ← HN.out]
        · exact HAP.out.box HB9.out (by decide) (by decide) (by decide) (set3_grown _ _ _ _ _)
end

end Go.Proofs.Ytapahpljmcaahaa.J
