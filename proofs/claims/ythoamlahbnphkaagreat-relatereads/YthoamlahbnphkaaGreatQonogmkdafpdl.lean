import Derived.Test.YthoamlahbnphkaaGreatQpbmaenlcbhnk
import Derived.Maps.OwnSet

/-
  lr0: the maker's automaton, and Build.
-/
namespace Go.Proofs.YthoamlahbnphkaaGreat.J
open Go.RowKit Go.Maps Go.Shelf

attribute [local go_sem] Oper.semAt_some

/-- The closure of a kernel. -/
noncomputable def CLo (tn n : Nat) (L : Nat → Int) (R : Nat → List Int) (k : List It) : List It := by
  classical exact if h : ∃ l, IsClo tn n L R k l ∧ l.length ≤ k.length + 13000 then Classical.choose h else []
theorem CLo_eq {tn n : Nat} {L : Nat → Int} {R : Nat → List Int} {k l : List It} (h : IsClo tn n L R k l) (hl : l.length ≤ k.length + 13000) : CLo tn n L R k = l := by
  have hh : ∃ l, IsClo tn n L R k l ∧ l.length ≤ k.length + 13000 := ⟨l, h, hl⟩
  unfold CLo
  rw [dif_pos hh]
  exact (Classical.choose_spec hh).1.unique h
/-- The kernel behind a symbol. -/
noncomputable def GG (tn n : Nat) (L : Nat → Int) (R : Nat → List Int) (k : List It) (s : Nat) : List It := kerT R (CLo tn n L R k) (s : Int)
theorem GG_eq {tn n : Nat} {L : Nat → Int} {R : Nat → List Int} {k l : List It} (h : IsClo tn n L R k l) (hl : l.length ≤ k.length + 13000) : GG tn n L R k = fun s : Nat => kerT R l (s : Int) := by
  unfold GG
  rw [CLo_eq h hl]
theorem PJ.GG {tn n : Nat} {L : Nat → Int} {R : Nat → List Int} {i m : Nat} {k : List It} (s : Nat) (h : PJ n R i k) (hm : i < m) : PJ n R m (GG tn n L R k s) := by
  unfold J.GG CLo
  by_cases hh : ∃ l, IsClo tn n L R k l ∧ l.length ≤ k.length + 13000
  · rw [dif_pos hh]
    have h1 := Classical.choose_spec hh
    exact h.ker (fun x hx => ((h1.1.mem x).1 hx).item h.1) h1.2 hm
  · rw [dif_neg hh]
    exact ⟨fun x hx => absurd hx (by simp [kerT]), by simp [kerT]⟩
/-- How many kernels were asked for. -/
def askN (es : List (List (Nat × Nat))) : Nat := 1 + (es.map List.length).sum
theorem askN_snoc (es : List (List (Nat × Nat))) (ed : List (Nat × Nat)) : askN (es ++ [ed]) = askN es + ed.length := by
  unfold askN
  rw [List.map_append, List.sum_append]
  simp; omega
theorem sum_le {c : Nat} : ∀ (es : List (List (Nat × Nat))), (∀ q, q < es.length → (es.getD q []).length ≤ c) → (es.map List.length).sum ≤ es.length * c
  | [], _ => by simp
  | ed :: es, h => by
    have h1 := h 0 (by simp)
    have h2 := sum_le es fun q hq => h (q + 1) (by simpa using hq)
    simp only [List.map_cons, List.sum_cons, List.length_cons, Nat.succ_mul]
    have h3 : ed.length ≤ c := h1
    omega
theorem auOK {tn nn n : Nat} {L : Nat → Int} {R : Nat → List Int} (hn0 : 0 < n) {i : Nat} {ks : List (List It)} {es : List (List (Nat × Nat))} (h : autoF (GG tn n L R) (tn + nn) i = some (ks, es)) : AuOK (PJ n R) (GG tn n L R) (tn + nn) i ks es :=
  autoOK ⟨fun x hx => by
    rw [List.mem_singleton.1 hx]
    unfold itB
    simp only [Bool.and_eq_true, decide_eq_true_eq]
    exact ⟨⟨⟨by omega, by omega⟩, by omega⟩, by omega⟩, by simp⟩ (fun i m k s hp hm => hp.GG s hm) i h
theorem askN_le {tn nn n : Nat} {L : Nat → Int} {R : Nat → List Int} (hn0 : 0 < n) (hS : tn + nn ≤ 130) {i : Nat} {ks : List (List It)} {es : List (List (Nat × Nat))} (h : autoF (GG tn n L R) (tn + nn) i = some (ks, es)) : askN es ≤ 33281 := by
  have ha := auOK hn0 h
  have h1 := sum_le es (fun q hq => Nat.le_trans (ha.edges q hq).1 hS)
  have h2 : es.length ≤ 256 := by rw [ha.len]; have := ha.kok.le; omega
  have h3 : es.length * 130 ≤ 256 * 130 := Nat.mul_le_mul_right _ h2
  unfold askN
  omega

/-- An automaton in memory. -/
structure AutP (B : Nat) (X : World) (v : Value) (ks : List (List It)) (el : Nat → List It) (kv ev : Nat → Value) : Prop where
  row : X.ownsRow B 67 2 v ks.length (stV kv ev ks.length)
  ker : ∀ i, i < ks.length → X.ownsRow B 69 2 (kv i) (ks.getD i []).length (itsV (ks.getD i []))
  edg : ∀ i, i < ks.length → X.ownsRow B 115 2 (ev i) (el i).length (itsV (el i))
theorem AutP.kept {B : Nat} {X Y : World} {v : Value} {ks : List (List It)} {el : Nat → List It} {kv ev : Nat → Value} (h : AutP B X v ks el kv ev) (hg : X.grownBy Y none) : AutP B Y v ks el kv ev :=
  ⟨keep0 h.row hg, fun i hi => keep0 (h.ker i hi) hg, fun i hi => keep0 (h.edg i hi) hg⟩
/-- The edges of the states. -/
def elF (es : List (List (Nat × Nat))) (i : Nat) : List It := edI (es.getD i [])
theorem elF_snoc (es : List (List (Nat × Nat))) (ed : List (Nat × Nat)) : updL (elF es) es.length (edI ed) = elF (es ++ [ed]) := funext fun j => by
  unfold elF
  by_cases e : j = es.length
  · subst e; rw [updL_same, getD_snoc_new]
  · rw [updL_other _ _ e]
    by_cases e2 : j < es.length
    · rw [getD_snoc_old e2]
    · rw [List.getD_eq_getElem?_getD, List.getD_eq_getElem?_getD, List.getElem?_eq_none (by omega), List.getElem?_eq_none (by rw [List.length_append, List.length_singleton]; omega)]
theorem elF_out {es : List (List (Nat × Nat))} {j : Nat} (h : es.length ≤ j) : elF es j = [] := by
  unfold elF
  rw [List.getD_eq_getElem?_getD, List.getElem?_eq_none h]; rfl

/-- What Build tells of a closed grammar. -/
def AutTold (w : World) (tn n S : Nat) (L : Nat → Int) (R : Nat → List Int) (e : Ending) (y : World) : Prop :=
  (∃ (ks : List (List It)) (es : List (List (Nat × Nat))) (sa : Option Addr) (sc : Nat) (kv ev : Nat → Value), autoF (GG tn n L R) S 256 = some (ks, es) ∧ e = .returned (.tuple #[.agg #[.slice sa ks.length sc, .int .i64 (askN es : Int), .int .i64 (ks.length : Int)], .int .i64 0]) ∧ AutP w.heap.size y (.slice sa ks.length sc) ks (elF es) kv ev ∧ w.grownBy y none)
  ∨ (autoF (GG tn n L R) S 256 = none ∧ e = .returned (.tuple #[.agg #[.slice none 0 0, .int .i64 0, .int .i64 0], .int .i64 11]) ∧ w.grownBy y none)

end Go.Proofs.YthoamlahbnphkaaGreat.J

/-
  lr0: the maker's automaton, walked.
-/
namespace Go.Proofs.YthoamlahbnphkaaGreat.J
open Go.RowKit Go.Maps Go.Shelf

attribute [local go_sem] Oper.semAt_some

theorem set3_heap {w : World} {g : Nat} {t : TypeId} {a0 a1 a2 : Value} (h : w.heap[g]? = some (.cells #[a0, a1, a2] t (0, 0))) (v0 v1 v2 : Value) :
    (((w.setCell ⟨g, 0, none⟩ v0).setCell ⟨g, 1, none⟩ v1).setCell ⟨g, 2, none⟩ v2).heap[g]? = some (.cells #[v0, v1, v2] t (0, 0)) := by
  have h0 := heap_setCell_same w g 0 _ _ v0 h
  have h1 := heap_setCell_same _ g 1 _ _ v1 h0
  exact heap_setCell_same _ g 2 _ _ v2 h1
theorem set3_grown (w : World) (g : Nat) (v0 v1 v2 : Value) : w.grownBy (((w.setCell ⟨g, 0, none⟩ v0).setCell ⟨g, 1, none⟩ v1).setCell ⟨g, 2, none⟩ v2) (some g) :=
  grown_trans (grown_trans (grown_setCell _ _ _) (grown_setCell _ _ _)) (grown_setCell _ _ _)
theorem results_auto (tmps : Array Value) (w : World) (g : Nat) (cs : Array Value) (x : Value) (h2 : tmps.getD 2 undef = .pointer (some ⟨g, 0, none⟩)) (h3 : tmps.getD 3 undef = x) (hg : w.heap[g]? = some (.cells cs 59 (0, 0))) (hs : cs.size = 3) :
    (results Tryz.f46 tmps).run Tryz.prog w = .ok (.tuple #[.agg cs, x]) w := by
  have h2' : tmps[2]?.getD undef = .pointer (some ⟨g, 0, none⟩) := by simpa using h2
  have h3' : tmps[3]?.getD undef = x := by simpa using h3
  have hl := run_loadVar_row (P := Tryz.prog) w g 59 59 cs (0, 0) _ hg Tryz.underlying59 rfl (by rw [hs]; kernel_rfl)
  simp [results, Tryz.results46, h2', h3', asAddr, hl]
theorem AutP.box {B : Nat} {X Y : World} {v : Value} {ks : List (List It)} {el : Nat → List It} {kv ev : Nat → Value} {bx : Nat} {cs : Array Value} {e : TypeId} (h : AutP B X v ks el kv ev) (hb : X.heap[bx]? = some (.cells cs e (0, 0))) (h1 : 67 ≠ e) (h2 : 69 ≠ e) (h3 : 115 ≠ e) (hg : X.grownBy Y (some bx)) : AutP B Y v ks el kv ev :=
  ⟨h.row.kept hg (owns_nebox h.row hb h1), fun i hi => (h.ker i hi).kept hg (owns_nebox (h.ker i hi) hb h2), fun i hi => (h.edg i hi).kept hg (owns_nebox (h.edg i hi) hb h3)⟩
theorem MkAt.cellsA {w X : World} {mb bm : Nat} {c0 c1 c2 c3 c4 : Value} {ks : List (List It)} {asked : Int} {el : Nat → List It} {E : Nat} (h : MkAt w X mb bm c0 c1 c2 c3 c4 ks asked el E) : ∃ (sa : Option Addr) (sc : Nat) (kv ev : Nat → Value), X.cell? ⟨mb, 5, none⟩ = some (.slice sa ks.length sc) ∧ X.cell? ⟨mb, 6, none⟩ = some (.int .i64 asked) ∧ X.cell? ⟨mb, 7, none⟩ = some (.int .i64 (ks.length : Int)) ∧ AutP w.heap.size X (.slice sa ks.length sc) ks el kv ev ∧ w.grownBy X none := by
  obtain ⟨sa, sc, kv, ev, m, fv, h1, _⟩ := h
  obtain ⟨_, _, _, _, _, y5, y6, y7, _⟩ := h1.cells
  exact ⟨sa, sc, kv, ev, y5, y6, y7, ⟨h1.row, h1.ker, h1.edg⟩, h1.grown⟩

set_option maxRecDepth 100000 in
set_option maxHeartbeats 4000000 in
theorem automaton_any (ta na la pa : Option Addr) (tc nc lc pc : Nat) (n : Nat) (L : Nat → Int) (R : Nat → List Int) (ra : Nat → Option Addr) (rc : Nat → Nat) (V : Nat → Int) (st : Int) (w X : World) (tn nn ln : Nat) (hP : ProdsAt w pa n L R ra rc V) (hn : n ≤ 97) (hn0 : 0 < n) (htn : tn ≤ 65) (hnn : nn ≤ 65) (hR : ∀ k, k < n → ∀ x ∈ R k, (0 : Int) ≤ x ∧ x < ((tn + nn : Nat) : Int)) (hRb : ∀ k, k < n → (R k).length ≤ 17592186044416)
    (mb bm E : Nat) (hM : MkAt w X mb bm (.slice ta tn tc) (.slice na nn nc) (.slice la ln lc) (.int .i64 st) (.slice pa n pc) [] 0 (fun _ => []) E) :
    Calls Tryz.prog 46 #[.pointer (some ⟨mb, 0, none⟩)] X fun e y => AutTold w tn n (tn + nn) L R e y := by
  obtain ⟨S, hS⟩ : ∃ S, S = tn + nn := ⟨_, rfl⟩
  have HAU : Hid (∀ i ks es, autoF (GG tn n L R) S i = some (ks, es) → AuOK (PJ n R) (GG tn n L R) S i ks es ∧ askN es ≤ 33281) := fun i ks es h => by
    rw [hS] at h ⊢
    exact ⟨auOK hn0 h, askN_le hn0 (by omega) h⟩
  have HLV : Hid (∀ (Y : World) ks es E i, autoF (GG tn n L R) S i = some (ks, es) → i < ks.length → MkAt w Y mb bm (.slice ta tn tc) (.slice na nn nc) (.slice la ln lc) (.int .i64 st) (.slice pa n pc) ks (askN es : Int) (elF es) E → Calls Tryz.prog 73 #[.pointer (some ⟨mb, 0, none⟩), .int .i64 (i : Int)] Y fun e y => LeaveTold w Y mb bm (.slice ta tn tc) (.slice na nn nc) (.slice la ln lc) (.int .i64 st) (.slice pa n pc) tn n S L R ks (askN es : Int) (elF es) i e y) := fun Y ks es E i h hi hm => by
    have ha := (HAU.out i ks es h).1
    have hb := (HAU.out i ks es h).2
    rw [hS]
    exact leave_any ta na la pa tc nc lc pc n L R ra rc V st w Y tn nn ln hP hn hn0 htn hnn hR hRb mb bm ks (askN es : Int) (elF es) E i hm ha.kok hi (by omega) (by omega) (fun j hj => elF_out (by rw [ha.len]; omega))
  rw [← hS]
  have hM0 := hM.kept (World.grownBy_alloc X (.cells #[.slice none 0 0, .int .i64 0, .int .i64 0] 59) none)
  have hM1 := hM0.kept (World.grownBy_alloc _ (.cells #[.int .i64 0, .int .i64 0] 69) none)
  have hsw : w.heap.size ≤ X.heap.size := by obtain ⟨_, _, _, _, _, _, h, _⟩ := hM; exact h.grown.size
  have HAK : Hid (Calls Tryz.prog 72 #[.pointer (some ⟨mb, 0, none⟩), .slice (some ⟨X.heap.size + 1, 0, none⟩) 1 1] ((X.alloc (.cells #[.slice none 0 0, .int .i64 0, .int .i64 0] 59)).alloc (.cells #[.int .i64 0, .int .i64 0] 69)) fun e y => AskTold w ((X.alloc (.cells #[.slice none 0 0, .int .i64 0, .int .i64 0] 59)).alloc (.cells #[.int .i64 0, .int .i64 0] 69)) mb bm (.slice ta tn tc) (.slice na nn nc) (.slice la ln lc) (.int .i64 st) (.slice pa n pc) [] 0 (fun _ => []) E [(0, 0)] e y) := by
    refine ask_any w _ mb bm _ _ _ _ _ [] 0 (fun _ => []) E [(0, 0)] (some ⟨X.heap.size + 1, 0, none⟩) 1 0 0 hM1 ?_ rfl ⟨rfl, rfl⟩ (by simp) (by simp) (fun i hi => by cases hi) (by simp) (by omega) (by omega) (fun _ _ => rfl)
    refine ⟨rfl, .inr ⟨X.heap.size + 1, 1, #[.int .i64 0, .int .i64 0], rfl, by omega, ?_, Nat.le_refl _, by unfold maxLen; omega, rfl, rfl⟩⟩
    have h := heap_alloc_last (X.alloc (.cells #[.slice none 0 0, .int .i64 0, .int .i64 0] 59)) (.cells #[.int .i64 0, .int .i64 0] 69)
    simpa using h
  have HBX : Hid (((X.alloc (.cells #[.slice none 0 0, .int .i64 0, .int .i64 0] 59)).alloc (.cells #[.int .i64 0, .int .i64 0] 69)).heap[X.heap.size]? = some (.cells #[.slice none 0 0, .int .i64 0, .int .i64 0] 59 (0, 0))) := box_kept (heap_alloc_last X _) (World.grownBy_alloc _ _ none)
  clear hM hM0 hM1 hP hR hRb hS
  obtain ⟨bx, hbx⟩ : ∃ b, b = X.heap.size := ⟨_, rfl⟩
  rw [← hbx] at HBX
  have HBW : Hid (w.heap.size ≤ bx) := by show _ ≤ _; rw [hbx]; exact hsw
  go_enter Tryz.func46, Tryz.ntmps46
  go_wp2_with fail
  refine Calls.mono HAK.out ?_
  rintro e w3 (⟨t, ks1, ha, rfl, hM3, hT3⟩ | ⟨ha, rfl, _⟩)
  case inr => exact absurd ha (by simp [askF])
  have hks : ks1 = [[(0, 0)]] := by simp [askF] at ha; exact ha.2.symm
  subst hks
  have HM3 : Hid (MkAt w w3 mb bm (.slice ta tn tc) (.slice na nn nc) (.slice la ln lc) (.int .i64 st) (.slice pa n pc) [[(0, 0)]] ((askN [] : Nat) : Int) (elF []) E) := by
    have e1 : elF [] = fun _ => [] := funext fun j => by unfold elF; rfl
    rw [e1]
    exact hM3
  have HB3 : Hid (w3.heap[bx]? = some (.cells #[.slice none 0 0, .int .i64 0, .int .i64 0] 59 (0, 0))) := hT3.block _ _ _ _ (by decide) (by decide) (by decide) HBX.out
  rw [← hbx]
  clear ha hM3 hT3 HAK HBX hbx hsw
  go_wp2_with fail
  go_loopg [4] 256 (fun gk v4 wr => ∃ (i : Nat) (ks : List (List It)) (es : List (List (Nat × Nat))) (E : Nat), autoF (GG tn n L R) S i = some (ks, es) ∧ i ≤ ks.length ∧ gk = 256 - i ∧ v4 = .int .i64 i ∧ MkAt w wr mb bm (.slice ta tn tc) (.slice na nn nc) (.slice la ln lc) (.int .i64 st) (.slice pa n pc) ks (askN es : Int) (elF es) E ∧ wr.heap[bx]? = some (.cells #[.slice none 0 0, .int .i64 0, .int .i64 0] 59 (0, 0)))
  case atStart => exact ⟨0, [[(0, 0)]], [], E, rfl, Nat.zero_le _, rfl, rfl, HM3.out, HB3.out⟩
  case round =>
    obtain ⟨i, ks, es, E2, hau, hi, hgi, rfl, hmk, hb⟩ := hrel
    have HGI : Hid (gk = 256 - i) := hgi
    have HA : Hid (autoF (GG tn n L R) S i = some (ks, es)) := hau
    have HMK : Hid (MkAt w wr mb bm (.slice ta tn tc) (.slice na nn nc) (.slice la ln lc) (.int .i64 st) (.slice pa n pc) ks (askN es : Int) (elF es) E2) := hmk
    have HB : Hid (wr.heap[bx]? = some (.cells #[.slice none 0 0, .int .i64 0, .int .i64 0] 59 (0, 0))) := hb
    obtain ⟨hAO, hAN⟩ := HAU.out i ks es hau
    have HAO : Hid (AuOK (PJ n R) (GG tn n L R) S i ks es) := hAO
    obtain ⟨sa, sc, kv, ev, y5, y6, y7, hAP, hgw⟩ := hmk.cellsA
    have HAP : Hid (AutP w.heap.size wr (.slice sa ks.length sc) ks (elF es) kv ev ∧ w.grownBy wr none) := ⟨hAP, hgw⟩
    obtain ⟨N, hN⟩ : ∃ n, n = ks.length := ⟨_, rfl⟩
    have HN : Hid (N = ks.length) := hN
    have hN256 : N ≤ 256 := by rw [hN]; exact hAO.kok.le
    rw [← hN] at hi y5 y7
    clear hgi hau hmk hb hAO hAP hgw hN HM3 HB3
    by_cases hlt : i < N
    · have hid : decide (i < N) = true := decide_eq_true hlt
      have HC := show Hid _ from HLV.out wr ks es E2 i HA.out (by rw [← HN.out]; exact hlt) HMK.out
      go_wp2_with fail
      refine Calls.mono HC.out ?_
      rintro e w4 ⟨l, hIC, hll, h4⟩
      have hGG := GG_eq hIC hll
      have hst := autoF_step HA.out (by rw [← HN.out]; exact hlt)
      rw [hGG] at hst
      rcases h4 with ⟨ks2, ed, E4, hlf, rfl, hM4, hT4⟩ | ⟨hlf, rfl, hg4, hT4⟩
      · rw [hlf] at hst
        have HA2 : Hid (autoF (GG tn n L R) S (i + 1) = some (ks2, es ++ [ed])) := hst
        have hel : es.length = i := by rw [HAO.out.len, ← HN.out]; omega
        have HM4 : Hid (MkAt w w4 mb bm (.slice ta tn tc) (.slice na nn nc) (.slice la ln lc) (.int .i64 st) (.slice pa n pc) ks2 ((askN (es ++ [ed]) : Nat) : Int) (elF (es ++ [ed])) E4) := by
          rw [← elF_snoc, askN_snoc, hel, Int.natCast_add]
          exact hM4
        have HB4 : Hid (w4.heap[bx]? = some (.cells #[.slice none 0 0, .int .i64 0, .int .i64 0] 59 (0, 0))) := hT4.block _ _ _ _ (by decide) (by decide) (by decide) HB.out
        have HL2 : Hid (i + 1 ≤ ks2.length) := by
          have h9 := (HAU.out _ _ _ hst).1.len
          rw [List.length_append, List.length_singleton, hel] at h9
          show _ ≤ _
          omega
        clear hIC hll hGG hst hlf hM4 hT4 hel HC y5 y6 y7
        go_wp2_with fail
        go_roundg (256 - (i + 1))
        case measure => have := HGI.out; omega
        case rel => exact ⟨i + 1, ks2, es ++ [ed], E4, HA2.out, HL2.out, rfl, by go_num, HM4.out, HB4.out⟩
      · rw [hlf] at hst
        have HA2 : Hid (autoF (GG tn n L R) S 256 = none) := by
          have h9 := autoF_none hst (256 - (i + 1))
          rwa [show i + 1 + (256 - (i + 1)) = 256 by omega] at h9
        have HB4 : Hid (w4.heap[bx]? = some (.cells #[.slice none 0 0, .int .i64 0, .int .i64 0] 59 (0, 0))) := hT4.block _ _ _ _ (by decide) (by decide) (by decide) HB.out
        have HG4 : Hid (w.grownBy w4 none) := hg4
        have k0 := cell_of_row w4 bx 0 _ _ _ HB4.out
        have k1 := cell_of_row w4 bx 1 _ _ _ HB4.out
        have k2 := cell_of_row w4 bx 2 _ _ _ HB4.out
        have kf := fun j => frozen_of_row w4 bx j _ _ HB4.out
        simp only [List.getElem?_toArray, List.getElem?_cons_zero, List.getElem?_cons_succ] at k0 k1 k2
        clear hIC hll hGG hst hlf hT4 hg4 HC y5 y6 y7
        go_wp2_with fail
        refine bodyPost_ret (v := .tuple #[.agg #[.slice none 0 0, .int .i64 0, .int .i64 0], .int .i64 11]) ?_ rfl ?_
        · exact results_auto _ _ bx _ _ rfl rfl (set3_heap HB4.out _ _ _) rfl
        · exact .inr ⟨HA2.out, rfl, grown_new HG4.out (set3_grown _ _ _ _ _) HBW.out⟩
    · have hiN : N = i := by omega
      subst hiN
      have hid : decide (N < N) = false := decide_eq_false (by omega)
      have HA2 : Hid (autoF (GG tn n L R) S 256 = some (ks, es)) := by
        have h9 := autoF_stay HA.out (by rw [← HN.out]; exact Nat.le_refl _) (256 - N)
        rwa [show N + (256 - N) = 256 by omega] at h9
      have k0 := cell_of_row wr bx 0 _ _ _ HB.out
      have k1 := cell_of_row wr bx 1 _ _ _ HB.out
      have k2 := cell_of_row wr bx 2 _ _ _ HB.out
      have kf := fun j => frozen_of_row wr bx j _ _ HB.out
      simp only [List.getElem?_toArray, List.getElem?_cons_zero, List.getElem?_cons_succ] at k0 k1 k2
      obtain ⟨ask, hask⟩ : ∃ a, a = (askN es : Int) := ⟨_, rfl⟩
      have HASK : Hid (ask = (askN es : Int)) := hask
      rw [← hask] at y6
      clear hask
      go_wp2_with fail
      refine bodyPost_ret (v := .tuple #[.agg #[.slice sa N sc, .int .i64 ask, .int .i64 (N : Int)], .int .i64 0]) ?_ rfl ?_
      · exact results_auto _ _ bx _ _ rfl rfl (set3_heap HB.out _ _ _) rfl
      · refine .inl ⟨ks, es, sa, sc, kv, ev, HA2.out, ?_, ?_, grown_new HAP.out.2 (set3_grown _ _ _ _ _) HBW.out⟩
        · rw [HASK.out, ← HN.out]
        · exact HAP.out.1.box HB.out (by decide) (by decide) (by decide) (set3_grown _ _ _ _ _)

end Go.Proofs.YthoamlahbnphkaaGreat.J

/-
  lr0: Build.
-/
namespace Go.Proofs.YthoamlahbnphkaaGreat.J
open Go.RowKit Go.Maps Go.Shelf

attribute [local go_sem] Oper.semAt_some

theorem results_build (tmps : Array Value) (w : World) (g : Nat) (cs : Array Value) (x : Value) (h2 : tmps.getD 2 undef = .pointer (some ⟨g, 0, none⟩)) (h3 : tmps.getD 3 undef = x) (hg : w.heap[g]? = some (.cells cs 59 (0, 0))) (hs : cs.size = 3) :
    (results Tryz.f22 tmps).run Tryz.prog w = .ok (.tuple #[.agg cs, x]) w := by
  have h2' : tmps[2]?.getD undef = .pointer (some ⟨g, 0, none⟩) := by simpa using h2
  have h3' : tmps[3]?.getD undef = x := by simpa using h3
  have hl := run_loadVar_row (P := Tryz.prog) w g 59 59 cs (0, 0) _ hg Tryz.underlying59 rfl (by rw [hs]; kernel_rfl)
  simp [results, Tryz.results22, h2', h3', asAddr, hl]

/-- The maker as newMaker leaves it. -/
theorem mk_new {w X : World} {mb bm : Nat} {c0 c1 c2 c3 c4 : Value} (hg : w.grownBy X none) (hb : X.heap[mb]? = some (.cells #[c0, c1, c2, c3, c4, .slice none 0 0, .int .i64 0, .int .i64 0, .map (some bm)] 134 (0, 0))) (hm : MpAt X bm 0 (fun _ => .slice none 0 0)) (h1 : w.heap.size ≤ bm) (h2 : bm < mb) : MkAt w X mb bm c0 c1 c2 c3 c4 [] 0 (fun _ => []) 0 :=
  ⟨none, 0, fun _ => undef, fun _ => undef, 0, fun _ => .slice none 0 0, ⟨hg, hb, World.ownsRow_nil _ _ _ _, fun i hi => absurd hi (Nat.not_lt_zero _), fun i hi => absurd hi (Nat.not_lt_zero _), hm, fun x => by rw [begI_nil]; exact World.ownsRow_nil _ _ _ _, fun x y _ => .inl rfl, ⟨h1, by omega⟩, fun i hi => absurd hi (Nat.not_lt_zero _)⟩, Nat.le_refl _⟩

section
variable (ta na la pa : Option Addr) (tc nc lc pc : Nat) (ts : List (ByteArray × Int)) (ns : List ByteArray) (lv : List Int) (n : Nat) (L : Nat → Int) (R : Nat → List Int) (ra : Nat → Option Addr) (rc : Nat → Nat) (V : Nat → Int) (st : Int) (w : World) (tn nn ln : Nat) (hlen : ts.length = tn ∧ ns.length = nn ∧ lv.length = ln) (hG : GAt w ta na la pa tc nc lc pc ts ns lv n L R ra rc V)
include hlen hG
set_option maxRecDepth 100000 in
theorem buildBad (hb : ¬ closedOK ts ns lv st n L R V) : Calls Tryz.prog 22 #[.agg #[.slice ta tn tc, .slice na nn nc, .slice la ln lc, .int .i64 st, .slice pa n pc]] w fun e y => e = .returned (.tuple #[.agg #[.slice none 0 0, .int .i64 0, .int .i64 0], .int .i64 1]) ∧ w.grownBy y none := by
  have HCL : Hid (∀ X, w.grownBy X none → Calls Tryz.prog 44 #[.agg #[.slice ta tn tc, .slice na nn nc, .slice la ln lc, .int .i64 st, .slice pa n pc]] X fun e w' => e = .returned (.bool false) ∧ X.grownBy w' none) := fun X hX => by
    have := closed_any ta na la pa tc nc lc pc ts ns lv n L R ra rc V st X (hG.kept hX) false ⟨(fun h => by cases h), fun h => absurd h hb⟩
    rwa [hlen.1, hlen.2.1, hlen.2.2] at this
  have HX0 : Hid (w.grownBy ((w.alloc (.cells #[.slice ta tn tc, .slice na nn nc, .slice la ln lc, .int .i64 st, .slice pa n pc] 27)).alloc (.cells #[.slice none 0 0, .int .i64 0, .int .i64 0] 59)) none) := grown_trans (World.grownBy_alloc _ _ none) (World.grownBy_alloc _ _ none)
  have HB0 : Hid (((w.alloc (.cells #[.slice ta tn tc, .slice na nn nc, .slice la ln lc, .int .i64 st, .slice pa n pc] 27)).alloc (.cells #[.slice none 0 0, .int .i64 0, .int .i64 0] 59)).heap[w.heap.size + 1]? = some (.cells #[.slice none 0 0, .int .i64 0, .int .i64 0] 59 (0, 0))) := by
    have h := heap_alloc_last (w.alloc (.cells #[.slice ta tn tc, .slice na nn nc, .slice la ln lc, .int .i64 st, .slice pa n pc] 27)) (.cells #[.slice none 0 0, .int .i64 0, .int .i64 0] 59)
    rw [World.size_alloc] at h; exact h
  clear hlen hG hb
  go_enter Tryz.func22, Tryz.ntmps22
  go_wp2_with fail
  refine Calls.mono (HCL.out _ HX0.out) ?_
  rintro e w1 ⟨rfl, hg1⟩
  have HB1 : Hid (w1.heap[w.heap.size + 1]? = some (.cells #[.slice none 0 0, .int .i64 0, .int .i64 0] 59 (0, 0))) := box_kept HB0.out hg1
  have HG1 : Hid (w.grownBy w1 none) := grown_trans HX0.out hg1
  clear hg1 HB0 HX0
  have k0 := cell_of_row w1 (w.heap.size + 1) 0 _ _ _ HB1.out
  have k1 := cell_of_row w1 (w.heap.size + 1) 1 _ _ _ HB1.out
  have k2 := cell_of_row w1 (w.heap.size + 1) 2 _ _ _ HB1.out
  have kf := fun j => frozen_of_row w1 (w.heap.size + 1) j _ _ HB1.out
  simp only [List.getElem?_toArray, List.getElem?_cons_zero, List.getElem?_cons_succ] at k0 k1 k2
  go_wp2_with fail
  refine bodyPost_ret (v := .tuple #[.agg #[.slice none 0 0, .int .i64 0, .int .i64 0], .int .i64 1]) ?_ rfl ?_
  · exact results_build _ _ (w.heap.size + 1) _ _ rfl rfl (set3_heap HB1.out _ _ _) rfl
  · exact ⟨rfl, grown_new HG1.out (set3_grown _ _ _ _ _) (by omega)⟩

set_option maxRecDepth 100000 in
theorem buildOk (hc : closedOK ts ns lv st n L R V) : Calls Tryz.prog 22 #[.agg #[.slice ta tn tc, .slice na nn nc, .slice la ln lc, .int .i64 st, .slice pa n pc]] w fun e y => AutTold w tn n (tn + nn) L R e y := by
  have hM : MayOK tn nn n st L R true := by obtain ⟨rfl, rfl, rfl⟩ := hlen; exact mayOK_closed hc
  have HCL : Hid (∀ X, w.grownBy X none → Calls Tryz.prog 44 #[.agg #[.slice ta tn tc, .slice na nn nc, .slice la ln lc, .int .i64 st, .slice pa n pc]] X fun e w' => e = .returned (.bool true) ∧ X.grownBy w' none) := fun X hX => by
    have := closed_any ta na la pa tc nc lc pc ts ns lv n L R ra rc V st X (hG.kept hX) true ⟨fun _ => hc, fun _ => rfl⟩
    rwa [hlen.1, hlen.2.1, hlen.2.2] at this
  have HAU : Hid (∀ X Y mb bm E, w.grownBy X none → MkAt X Y mb bm (.slice ta tn tc) (.slice na nn nc) (.slice la ln lc) (.int .i64 st) (.slice pa n pc) [] 0 (fun _ => []) E → Calls Tryz.prog 46 #[.pointer (some ⟨mb, 0, none⟩)] Y fun e y => AutTold X tn n (tn + nn) L R e y) := fun X Y mb bm E hX hmk => automaton_any ta na la pa tc nc lc pc n L R ra rc V st X Y tn nn ln (prods_kept hG.prods hX) hM.pmax hM.p0 hM.tmax hM.nmax (fun k hk x hx => ⟨by have := hM.right k hk x hx; omega, (hM.right k hk x hx).2⟩) (gright hG.prods) mb bm E hmk
  have HX0 : Hid (w.grownBy ((w.alloc (.cells #[.slice ta tn tc, .slice na nn nc, .slice la ln lc, .int .i64 st, .slice pa n pc] 27)).alloc (.cells #[.slice none 0 0, .int .i64 0, .int .i64 0] 59)) none) := grown_trans (World.grownBy_alloc _ _ none) (World.grownBy_alloc _ _ none)
  have HP0 : Hid (PhAt w ((w.alloc (.cells #[.slice ta tn tc, .slice na nn nc, .slice la ln lc, .int .i64 st, .slice pa n pc] 27)).alloc (.cells #[.slice none 0 0, .int .i64 0, .int .i64 0] 59)) w.heap.size #[.slice ta tn tc, .slice na nn nc, .slice la ln lc, .int .i64 st, .slice pa n pc]) := PhAt.kept ⟨World.grownBy_alloc _ _ none, heap_alloc_last w _⟩ (World.grownBy_alloc _ _ none)
  have HB0 : Hid (((w.alloc (.cells #[.slice ta tn tc, .slice na nn nc, .slice la ln lc, .int .i64 st, .slice pa n pc] 27)).alloc (.cells #[.slice none 0 0, .int .i64 0, .int .i64 0] 59)).heap[w.heap.size + 1]? = some (.cells #[.slice none 0 0, .int .i64 0, .int .i64 0] 59 (0, 0))) := by
    have h := heap_alloc_last (w.alloc (.cells #[.slice ta tn tc, .slice na nn nc, .slice la ln lc, .int .i64 st, .slice pa n pc] 27)) (.cells #[.slice none 0 0, .int .i64 0, .int .i64 0] 59)
    rw [World.size_alloc] at h; exact h
  clear hlen hG hc hM
  obtain ⟨S, hS⟩ : ∃ S, S = tn + nn := ⟨_, rfl⟩
  rw [← hS] at HAU
  rw [← hS]
  clear hS
  go_enter Tryz.func22, Tryz.ntmps22
  go_wp2_with fail
  refine Calls.mono (HCL.out _ HX0.out) ?_
  rintro e w1 ⟨rfl, hg1⟩
  have HB1 : Hid (w1.heap[w.heap.size + 1]? = some (.cells #[.slice none 0 0, .int .i64 0, .int .i64 0] 59 (0, 0))) := box_kept HB0.out hg1
  have HP1 : Hid (PhAt w w1 w.heap.size #[.slice ta tn tc, .slice na nn nc, .slice la ln lc, .int .i64 st, .slice pa n pc]) := HP0.out.kept hg1
  clear hg1 HB0 HX0 HP0
  obtain ⟨k0, k1, k2, k3, k4⟩ := HP1.out.cells
  go_wp2_with fail
  refine Calls.mono (newMaker_any ta na la pa tc nc lc pc n st w1 tn nn ln) ?_
  rintro e w2 ⟨mb, bm, rfl, hbx, hmp, h1, h2, hg2⟩
  have HMK : Hid (MkAt w1 w2 mb bm (.slice ta tn tc) (.slice na nn nc) (.slice la ln lc) (.int .i64 st) (.slice pa n pc) [] 0 (fun _ => []) 0) := mk_new hg2 hbx hmp h1 h2
  clear hbx hmp h1 h2 hg2 k0 k1 k2 k3 k4
  go_wp2_with fail
  refine Calls.mono (HAU.out w1 w2 mb bm 0 HP1.out.grown HMK.out) ?_
  rintro e w3 (⟨ks, es, sa, sc, kv, ev, hau, rfl, hAP, hg3⟩ | ⟨hau, rfl, hg3⟩)
  · have HB3 : Hid (w3.heap[w.heap.size + 1]? = some (.cells #[.slice none 0 0, .int .i64 0, .int .i64 0] 59 (0, 0))) := box_kept HB1.out hg3
    have HG3 : Hid (w.grownBy w3 none) := grown_trans HP1.out.grown hg3
    have HAP : Hid (AutP w.heap.size w3 (.slice sa ks.length sc) ks (elF es) kv ev) := ⟨owns_base hAP.row HP1.out.grown.size, fun i hi => owns_base (hAP.ker i hi) HP1.out.grown.size, fun i hi => owns_base (hAP.edg i hi) HP1.out.grown.size⟩
    have HA : Hid (autoF (GG tn n L R) S 256 = some (ks, es)) := hau
    have k0 := cell_of_row w3 (w.heap.size + 1) 0 _ _ _ HB3.out
    have k1 := cell_of_row w3 (w.heap.size + 1) 1 _ _ _ HB3.out
    have k2 := cell_of_row w3 (w.heap.size + 1) 2 _ _ _ HB3.out
    have kf := fun j => frozen_of_row w3 (w.heap.size + 1) j _ _ HB3.out
    simp only [List.getElem?_toArray, List.getElem?_cons_zero, List.getElem?_cons_succ] at k0 k1 k2
    obtain ⟨ask, hask⟩ : ∃ a, a = (askN es : Int) := ⟨_, rfl⟩
    have HASK : Hid (ask = (askN es : Int)) := hask
    obtain ⟨N, hN⟩ : ∃ a, a = ks.length := ⟨_, rfl⟩
    have HN : Hid (N = ks.length) := hN
    rw [← hask, ← hN]
    clear hask hN hau hAP hg3
    go_wp2_with fail
    refine bodyPost_ret (v := .tuple #[.agg #[.slice sa N sc, .int .i64 ask, .int .i64 (N : Int)], .int .i64 0]) ?_ rfl ?_
    · exact results_build _ _ (w.heap.size + 1) _ _ rfl rfl (set3_heap HB3.out _ _ _) rfl
    · refine .inl ⟨ks, es, sa, sc, kv, ev, HA.out, ?_, ?_, grown_new HG3.out (set3_grown _ _ _ _ _) (by omega)⟩
      · rw [HASK.out, ← HN.out]
      · exact HAP.out.box HB3.out (by decide) (by decide) (by decide) (set3_grown _ _ _ _ _)
  · have HB3 : Hid (w3.heap[w.heap.size + 1]? = some (.cells #[.slice none 0 0, .int .i64 0, .int .i64 0] 59 (0, 0))) := box_kept HB1.out hg3
    have HG3 : Hid (w.grownBy w3 none) := grown_trans HP1.out.grown hg3
    have HA : Hid (autoF (GG tn n L R) S 256 = none) := hau
    have k0 := cell_of_row w3 (w.heap.size + 1) 0 _ _ _ HB3.out
    have k1 := cell_of_row w3 (w.heap.size + 1) 1 _ _ _ HB3.out
    have k2 := cell_of_row w3 (w.heap.size + 1) 2 _ _ _ HB3.out
    have kf := fun j => frozen_of_row w3 (w.heap.size + 1) j _ _ HB3.out
    simp only [List.getElem?_toArray, List.getElem?_cons_zero, List.getElem?_cons_succ] at k0 k1 k2
    clear hau hg3
    go_wp2_with fail
    refine bodyPost_ret (v := .tuple #[.agg #[.slice none 0 0, .int .i64 0, .int .i64 0], .int .i64 11]) ?_ rfl ?_
    · exact results_build _ _ (w.heap.size + 1) _ _ rfl rfl (set3_heap HB3.out _ _ _) rfl
    · exact .inr ⟨HA.out, rfl, grown_new HG3.out (set3_grown _ _ _ _ _) (by omega)⟩
end

end Go.Proofs.YthoamlahbnphkaaGreat.J

/-
  lr0: the edges of an automaton, pure.
-/
namespace Go.Proofs.YthoamlahbnphkaaGreat.J
open Go.RowKit Go.Maps Go.Shelf

/-- Has it items? -/
def someB (k : List It) : Bool := decide (k ≠ [])
theorem someB_true {k : List It} : someB k = true ↔ k ≠ [] := by unfold someB; exact decide_eq_true_iff
/-- The symbols below s whose kernels have items. -/
def symsT (G : Nat → List It) (s : Nat) : List Nat := (List.range s).filter fun t => someB (G t)
theorem symsT_succ (G : Nat → List It) (s : Nat) : symsT G (s + 1) = symsT G s ++ (if G s = [] then [] else [s]) := by
  unfold symsT
  rw [List.range_succ, List.filter_append]
  congr 1
  by_cases h : G s = []
  · rw [if_pos h]; simp [someB, h]
  · rw [if_neg h]; simp [someB, h]
theorem symsT_len (G : Nat → List It) : ∀ s, (symsT G s).length ≤ s
  | 0 => by simp [symsT]
  | s + 1 => by
    rw [symsT_succ, List.length_append]
    have := symsT_len G s
    split <;> simp <;> omega
theorem mem_symsT {G : Nat → List It} {S s : Nat} : s ∈ symsT G S ↔ s < S ∧ G s ≠ [] := by
  unfold symsT
  rw [List.mem_filter, List.mem_range, someB_true]
theorem symsT_nodup (G : Nat → List It) (S : Nat) : (symsT G S).Nodup := List.Nodup.sublist List.filter_sublist List.nodup_range

theorem leaveF_fst {G : Nat → List It} {ks : List (List It)} : ∀ (s : Nat) {ks' : List (List It)} {ed : List (Nat × Nat)}, leaveF G ks s = some (ks', ed) → ed.map Prod.fst = symsT G s
  | 0, ks', ed, e => by
    unfold leaveF at e
    cases e
    rfl
  | s + 1, ks', ed, e => by
    unfold leaveF at e
    cases h1 : leaveF G ks s with
    | none => rw [h1] at e; cases e
    | some q =>
      obtain ⟨k1, e1⟩ := q
      have ih := leaveF_fst s h1
      rw [h1] at e
      simp only at e
      by_cases hg : G s = []
      · rw [if_pos hg] at e
        cases e
        rw [ih, symsT_succ, if_pos hg, List.append_nil]
      · rw [if_neg hg] at e
        cases h2 : askF k1 (G s) with
        | none => rw [h2] at e; cases e
        | some q2 =>
          obtain ⟨t, k2⟩ := q2
          rw [h2] at e
          cases e
          rw [List.map_append, ih, symsT_succ, if_neg hg]; rfl

/-- The edges by their symbols. -/
theorem autoF_fst {P : Nat → List It → Prop} {G : List It → Nat → List It} {S : Nat} (h0 : P 0 [(0, 0)]) (hG : ∀ i m k s, P i k → i < m → P m (G k s)) : ∀ (i : Nat) {ks : List (List It)} {es : List (List (Nat × Nat))}, autoF G S i = some (ks, es) → ∀ q, q < es.length → (es.getD q []).map Prod.fst = symsT (G (ks.getD q [])) S
  | 0, ks, es, e => by
    unfold autoF at e
    cases e
    intro q hq
    exact absurd hq (Nat.not_lt_zero _)
  | i + 1, ks', es', e => by
    cases h1 : autoF G S i with
    | none =>
      have := autoF_none h1 1
      rw [this] at e; cases e
    | some p =>
      obtain ⟨ks, es⟩ := p
      have ih := autoF_fst h0 hG i h1
      have ha := autoOK h0 hG i h1
      by_cases hi : i < ks.length
      · have e' := e
        rw [autoF_step h1 hi] at e
        cases h2 : leaveF (G (ks.getD i [])) ks S with
        | none => rw [h2] at e; cases e
        | some q2 =>
          obtain ⟨k2, ed⟩ := q2
          rw [h2] at e
          cases e
          obtain ⟨_, j2, _, _⟩ := ha.kok.leave (fun m s hm => hG i m _ s (ha.kok.each i hi) (by omega)) S h2
          have hes : es.length = i := by rw [ha.len]; omega
          intro q hq
          rw [List.length_append, List.length_singleton] at hq
          by_cases e2 : q < es.length
          · rw [getD_snoc_old e2, getD_prefix j2 (by omega)]
            exact ih q e2
          · have : q = es.length := by omega
            subst this
            rw [getD_snoc_new, hes, getD_prefix j2 hi]
            exact leaveF_fst S h2
      · have := autoF_stay h1 (Nat.le_of_not_lt hi) 1
        rw [this] at e
        cases e
        exact ih

/-- An automaton, all of it. -/
structure AutF (G : List It → Nat → List It) (n : Nat) (R : Nat → List Int) (S : Nat) (ks : List (List It)) (es : List (List (Nat × Nat))) : Prop where
  kok : KsOK (PJ n R) ks
  pos : 0 < ks.length
  head : ks.getD 0 [] = [(0, 0)]
  len : es.length = ks.length
  fst : ∀ q, q < ks.length → (es.getD q []).map Prod.fst = symsT (G (ks.getD q [])) S
  snd : ∀ q, q < ks.length → ∀ x ∈ es.getD q [], x.1 < S ∧ x.2 < ks.length ∧ ks.getD x.2 [] = G (ks.getD q []) x.1
theorem autF {tn nn n : Nat} {L : Nat → Int} {R : Nat → List Int} (hn0 : 0 < n) {ks : List (List It)} {es : List (List (Nat × Nat))} (h : autoF (GG tn n L R) (tn + nn) 256 = some (ks, es)) : AutF (GG tn n L R) n R (tn + nn) ks es := by
  have ha := auOK hn0 h
  have hl : es.length = ks.length := by rw [ha.len]; have := ha.kok.le; omega
  have hp : PJ n R 0 [(0, 0)] := ⟨fun x hx => by
    rw [List.mem_singleton.1 hx]
    unfold itB
    simp only [Bool.and_eq_true, decide_eq_true_eq]
    exact ⟨⟨⟨by omega, by omega⟩, by omega⟩, by omega⟩, by simp⟩
  exact ⟨ha.kok, ha.pos, ha.head, hl, fun q hq => autoF_fst hp (fun i m k s hp hm => hp.GG s hm) 256 h q (by omega), fun q hq x hx => (ha.edges q (by omega)).2 x hx⟩
section
variable {G : List It → Nat → List It} {n : Nat} {R : Nat → List Int} {S : Nat} {ks : List (List It)} {es : List (List (Nat × Nat))}
theorem AutF.elen (h : AutF G n R S ks es) {q : Nat} (hq : q < ks.length) : (es.getD q []).length = (symsT (G (ks.getD q [])) S).length := by rw [← h.fst q hq, List.length_map]
end

end Go.Proofs.YthoamlahbnphkaaGreat.J

/-
  trans: a map from outsets to numbers.
-/
namespace Go.Proofs.YthoamlahbnphkaaGreat.J
open Go.RowKit Go.Maps Go.Shelf

theorem rowOut : (129 : TypeId) < Tryz.prog.types.size := of_decide_eq_true (by kernel_rfl)
theorem wideOut : (match Tryz.prog.underlying 129 with | some (.array _ _) | some (.struct _) => true | _ => false) = true := by rw [Tryz.underlying129]
set_option maxRecDepth 100000 in
theorem lawOut : Keyed Tryz.prog 129 := Keyed.of_law (deep_law_laid laidO (m := 2) (by omega) rowOut (by kernel_rfl) wideOut)
theorem keyTOut : Tryz.prog.keyType 129 = true := by kernel_rfl
theorem cellsOut : Tryz.prog.cellsOf 129 = 2 := by kernel_rfl
theorem sizeTO : ∃ m, Tryz.prog.types.size = m + 1 := size_of rowOut
theorem keyOut {x : It} (h : I64 x) : ∃ kl, keyOf Tryz.prog 129 (aggI x) = some kl := by
  obtain ⟨m, hm⟩ := sizeTO
  refine ⟨.string (keyBytes [.int .i64 x.1, .int .i64 x.2]), ?_⟩
  unfold keyOf aggI
  simp only [Tryz.underlying129]
  rw [if_pos (by simp [keyTOut, Value.formed, Tryz.underlying129, cellsOut]), hm]
  unfold Program.keyLits
  simp only [Tryz.underlying129, Value.cells]
  rw [if_pos (by rw [cellsOut]; exact ⟨rfl, by kernel_rfl⟩)]
  simp [List.mapM_cons, List.mapM_nil, cellsInt, Program.keyLits, Tryz.underlying3, h.1, h.2]

/-- A map in block b: what stands at each outset, if something does. -/
def LdAt (w : World) (b n : Nat) (F : It → Option Int) : Prop := ∃ D : DataW Value, w.ownsMap Tryz.prog 129 heldR b n D ∧ ∀ x kl, keyOf Tryz.prog 129 (aggI x) = some kl → D.atKey kl (.held (.int .i64 0)) = .held (.int .i64 ((F x).getD 0)) ∧ has D kl = (F x).isSome

theorem LdAt.made (w : World) : LdAt (w.alloc (.map #[] 0)) w.heap.size 0 (fun _ => none) := ⟨_, World.ownsMap_made w _ _ _, fun x kl _ => ⟨by simp [DataW.atKey], rfl⟩⟩
theorem LdAt.kept {w w' : World} {row : Option Nat} {b n : Nat} {F : It → Option Int} (h : LdAt w b n F) (hg : w.grownBy w' row) (hne : some b ≠ row) : LdAt w' b n F := by
  obtain ⟨D, h1, h2⟩ := h
  exact ⟨D, h1.kept hg hne, h2⟩
theorem LdAt.obj {X : World} {b n : Nat} {F : It → Option Int} (h : LdAt X b n F) : ∃ es cl, X.heap[b]? = some (.map es cl) := by
  obtain ⟨D, ⟨es, cl, h1, _⟩, _⟩ := h
  exact ⟨es, cl, h1⟩
theorem LdAt.look {w : World} {b n : Nat} {F : It → Option Int} (h : LdAt w b n F) {x : It} (hx : I64 x) : (Instr.lookup 93 (.map (some b)) (aggI x) true).run Tryz.prog w = .ok (.tuple #[.int .i64 ((F x).getD 0), .bool (F x).isSome]) w := by
  obtain ⟨D, h1, h2⟩ := h
  obtain ⟨kl, hk⟩ := keyOut hx
  obtain ⟨v, ps, hrun, hv⟩ := h1.look_ok lawOut Tryz.underlying93 (z := .int .i64 0) (by kernel_rfl) (zd := .held (.int .i64 0)) (zp := []) rfl hk
  obtain ⟨h3, h4⟩ := h2 x kl hk
  rw [h3] at hv
  simp only [heldR, Option.some.injEq, Prod.mk.injEq, DataW.held.injEq] at hv
  rw [hrun, hv.1, h4]
/-- F with v at x. -/
noncomputable def putL (F : It → Option Int) (x : It) (v : Int) : It → Option Int := fun y => if y = x then some v else F y
theorem LdAt.update {w : World} {b n : Nat} {F : It → Option Int} (h : LdAt w b n F) (hn : n < maxLen) {x : It} (hx : I64 x) (v : Int) : ∃ w', (Instr.mapUpdate 93 (.map (some b)) (aggI x) (.int .i64 v)).run Tryz.prog w = .ok () w' ∧ LdAt w' b (n + 1) (putL F x v) ∧ w.grownBy w' (some b) := by
  obtain ⟨D, h1, h2⟩ := h
  obtain ⟨kl, hk⟩ := keyOut hx
  obtain ⟨w', hrun, h3, h4⟩ := h1.update lawOut Tryz.underlying93 hn hk (val := .int .i64 v) (d := .held (.int .i64 v)) (ps := []) rfl
  refine ⟨w', hrun, ⟨_, h3, fun y ky hy => ?_⟩, h4⟩
  unfold putL
  by_cases e : y = x
  · subst e
    rw [hk] at hy
    cases hy
    rw [if_pos rfl, atKey_put_same h1.isMap (lawOut.key hk), has_put_same h1.isMap (lawOut.key hk)]
    exact ⟨rfl, rfl⟩
  · have hne : ky ≠ kl := fun e2 => e (aggI_inj (lawOut.inj hy (by rw [e2]; exact hk)))
    rw [if_neg e, atKey_put_other hne, has_put_other hne]
    exact h2 y ky hy

/-- Where the edge by s leads. -/
def nextL (l : List (Nat × Nat)) (s : Int) : Option Int := (l.find? fun x => decide ((x.1 : Int) = s)).map fun x => (x.2 : Int)
theorem nextL_snoc {l : List (Nat × Nat)} {a b : Nat} (hno : a ∉ l.map Prod.fst) (s : Int) : nextL (l ++ [(a, b)]) s = if s = (a : Int) then some (b : Int) else nextL l s := by
  unfold nextL
  rw [List.find?_append]
  by_cases h : s = (a : Int)
  · subst h
    rw [if_pos rfl]
    have : l.find? (fun x => decide ((x.1 : Int) = (a : Int))) = none := by
      rw [List.find?_eq_none]
      intro x hx
      simp only [decide_eq_true_eq]
      intro e
      exact hno (List.mem_map.2 ⟨x, hx, by omega⟩)
    rw [this]
    simp
  · rw [if_neg h]
    have : [(a, b)].find? (fun x => decide ((x.1 : Int) = s)) = none := by
      rw [List.find?_eq_none]
      intro x hx
      rw [List.mem_singleton.1 hx]
      simp only [decide_eq_true_eq]
      exact fun e => h e.symm
    rw [this]
    simp
/-- What the map holds, once the states below i and j edges of i have been gone over. -/
def leadT (es : List (List (Nat × Nat))) (i j : Nat) (x : It) : Option Int :=
  if 0 ≤ x.1 ∧ x.1 < (i : Int) then nextL (es.getD x.1.toNat []) x.2 else if x.1 = (i : Int) then nextL ((es.getD i []).take j) x.2 else none
theorem leadT_zero (es : List (List (Nat × Nat))) : leadT es 0 0 = fun _ => none := funext fun x => by
  unfold leadT
  rw [if_neg (by omega)]
  split
  · simp [nextL]
  · rfl
theorem leadT_row (es : List (List (Nat × Nat))) (i : Nat) : leadT es i (es.getD i []).length = leadT es (i + 1) 0 := funext fun x => by
  unfold leadT
  rw [List.take_length]
  by_cases h1 : 0 ≤ x.1 ∧ x.1 < (i : Int)
  · rw [if_pos h1, if_pos (by omega)]
  · rw [if_neg h1]
    by_cases h2 : x.1 = (i : Int)
    · rw [if_pos h2, if_pos (by omega), h2, Int.toNat_natCast]
    · rw [if_neg h2, if_neg (by omega)]
      split
      · simp [nextL]
      · rfl
theorem leadT_step {es : List (List (Nat × Nat))} {i j s t : Nat} (hj : j < (es.getD i []).length) (he : (es.getD i []).getD j (0, 0) = (s, t)) (hnd : ((es.getD i []).map Prod.fst).Nodup) : putL (leadT es i j) ((i : Int), (s : Int)) (t : Int) = leadT es i (j + 1) := funext fun x => by
  have e1 : (es.getD i []).take (j + 1) = (es.getD i []).take j ++ [(s, t)] := by
    generalize es.getD i [] = l at hj he ⊢
    rw [List.take_succ_eq_append_getElem hj]
    rw [List.getD_eq_getElem?_getD, List.getElem?_eq_getElem hj] at he
    exact congrArg _ (congrArg (fun y => [y]) he)
  have hno : s ∉ ((es.getD i []).take j).map Prod.fst := by
    have h2 : (((es.getD i []).take (j + 1)).map Prod.fst).Nodup := List.Nodup.sublist (List.Sublist.map _ (List.take_sublist _ _)) hnd
    rw [e1, List.map_append, List.nodup_append] at h2
    intro h3
    exact h2.2.2 s h3 s (by simp) rfl
  unfold putL leadT
  by_cases h : x = ((i : Int), (s : Int))
  · subst h
    rw [if_pos rfl, if_neg (by simp), if_pos rfl, e1, nextL_snoc hno, if_pos rfl]
  · rw [if_neg h]
    by_cases h1 : 0 ≤ x.1 ∧ x.1 < (i : Int)
    · rw [if_pos h1, if_pos h1]
    · rw [if_neg h1, if_neg h1]
      by_cases h2 : x.1 = (i : Int)
      · rw [if_pos h2, if_pos h2, e1, nextL_snoc hno, if_neg (fun h3 => h (Prod.ext h2 h3))]
      · rw [if_neg h2, if_neg h2]
/-- All of it. -/
def leadA (es : List (List (Nat × Nat))) : It → Option Int := leadT es es.length 0
theorem leadA_at (es : List (List (Nat × Nat))) {q : Nat} (hq : q < es.length) (s : Int) : leadA es ((q : Int), s) = nextL (es.getD q []) s := by
  unfold leadA leadT
  rw [if_pos (by simp only; omega)]
  simp only [Int.toNat_natCast]
theorem nextL_mem {l : List (Nat × Nat)} {s t : Int} (h : nextL l s = some t) : ∃ x ∈ l, (x.1 : Int) = s ∧ (x.2 : Int) = t := by
  unfold nextL at h
  cases h1 : l.find? (fun x => decide ((x.1 : Int) = s)) with
  | none => rw [h1] at h; cases h
  | some x =>
    rw [h1] at h
    have h2 := List.find?_some h1
    have h3 := List.mem_of_find?_eq_some h1
    refine ⟨x, h3, by simpa using h2, by simpa using h⟩

/-- The state that a row leads to. -/
def wayF (es : List (List (Nat × Nat))) : Option Int → List Int → Option Int
  | q, [] => q
  | none, _ :: _ => none
  | some q, s :: r => wayF es (leadA es (q, s)) r
theorem wayF_none (es : List (List (Nat × Nat))) : ∀ r, wayF es none r = none
  | [] => rfl
  | _ :: _ => rfl
theorem wayF_append (es : List (List (Nat × Nat))) : ∀ (r r' : List Int) (q : Option Int), wayF es q (r ++ r') = wayF es (wayF es q r) r'
  | [], _, _ => rfl
  | s :: r, r', none => by
    rw [List.cons_append]
    show none = wayF es none r'
    rw [wayF_none]
  | s :: r, r', some q => by
    rw [List.cons_append]
    exact wayF_append es r r' _
def wayV : Option Int → Int
  | none => -1
  | some q => q

end Go.Proofs.YthoamlahbnphkaaGreat.J
