import Derived.Test.YtdijjlhodlghbaaRows
import Derived.Test.YtdijjlhodlghbaaQcblbhkmknmfk
import Derived.Test.YtdijjlhodlghbaaQehmadobnnnbm
import Derived.Test.YtdijjlhodlghbaaQgebfmhdknfjl
import Derived.Test.YtdijjlhodlghbaaQoecljpdbiada
import Derived.Test.YtdijjlhodlghbaaQolpbggfophhg
import Derived.Test.YtdijjlhodlghbaaQipbebobbodac

/-
  lr0: what the laws' theorems share.
-/
namespace Go.Proofs.Ytdijjlhodlghbaa.J
open Go.ChangeShapes Go.WideShapes Go.ChangeAt Go.RowKit Go.Deep

theorem own : ownKnob Try.prog.godebug = none := by kernel_rfl
theorem laidOut : laidOutB Try.prog = true := by kernel_rfl
section
variable {H : Type} {enc : TypeId × Value → H} {W : World} {fuel : Nat} {cs : List Value} {x : DataW H × List MemPlace}

end

end Go.Proofs.Ytdijjlhodlghbaa.J

/-
  lr0: the law Lr0Builds, walked.
-/
namespace Go.Proofs.Ytdijjlhodlghbaa.J
open Go.RowKit Go.Maps Go.Shelf

attribute [local go_sem] Oper.semAt_some

/-- An automaton that was told, or none. -/
def AutOut (ks : List (List It)) (el : Nat → List It) (ask nI ec : Int) (X : World) (e : Ending) (y : World) : Prop := ∃ (sa : Option Addr) (sc : Nat) (kv ev : Nat → Value), e = .returned (.tuple #[.agg #[.slice sa ks.length sc, .int .i64 ask, .int .i64 nI], .int .i64 ec]) ∧ AutP X.heap.size y (.slice sa ks.length sc) ks el kv ev ∧ X.grownBy y none
theorem autOut_none {ec : Int} {X y : World} (h : X.grownBy y none) : AutOut [] (fun _ => []) 0 0 ec X (.returned (.tuple #[.agg #[.slice none 0 0, .int .i64 0, .int .i64 0], .int .i64 ec])) y :=
  ⟨none, 0, fun _ => undef, fun _ => undef, rfl, ⟨World.ownsRow_nil _ _ _ _, fun _ hi => absurd hi (Nat.not_lt_zero _), fun _ hi => absurd hi (Nat.not_lt_zero _)⟩, h⟩

section
variable (ta na la pa : Option Addr) (tc nc lc pc : Nat) (ts : List (ByteArray × Int)) (ns : List ByteArray) (lv : List Int) (n : Nat) (L : Nat → Int) (R : Nat → List Int) (ra : Nat → Option Addr) (rc : Nat → Nat) (V : Nat → Int) (st : Int) (w : World) (tn nn ln : Nat) (hlen : ts.length = tn ∧ ns.length = nn ∧ lv.length = ln) (hG : GAt w ta na la pa tc nc lc pc ts ns lv n L R ra rc V)
include hlen hG
set_option maxRecDepth 100000 in
set_option maxHeartbeats 4000000 in
theorem builds_any (hnt : ta = none → tn = 0 ∧ tc = 0) (hnl : la = none → ln = 0 ∧ lc = 0) (h1 : tn * 24 ≤ 140737488355328) (h2 : nn * 16 ≤ 140737488355328) (h4 : n * 40 ≤ 140737488355328)
    (ks : List (List It)) (el : Nat → List It) (ask nI ec : Int) (hks : ks.length ≤ 256) (hkb : ∀ i, i < ks.length → (ks.getD i []).length ≤ 10000000) (heb : ∀ i, i < ks.length → (el i).length ≤ 1000)
    (hBU : ∀ X, w.grownBy X none → Calls Try.prog 12 #[.agg #[.slice ta tn tc, .slice na nn nc, .slice la ln lc, .int .i64 st, .slice pa n pc]] X fun e y => AutOut ks el ask nI ec X e y)
    (hRB : ∀ X ta' na' la' pa' tc' nc' lc' pc' ra' rc', GAt X ta' na' la' pa' tc' nc' lc' pc' ts ns lv n L R ra' rc' V → Calls Try.prog 11 #[.agg #[.slice ta' tn tc', .slice na' nn nc', .slice la' ln lc', .int .i64 st, .slice pa' n pc']] X fun e y => AutOut ks el ask nI ec X e y) :
    Calls Try.prog 3 #[.agg #[.slice ta tn tc, .slice na nn nc, .slice la ln lc, .int .i64 st, .slice pa n pc]] w fun e w' => e = .returned (.bool true) ∧ w.grownBy w' none := by
  have HBU := show Hid _ from hBU
  have HRB := show Hid _ from hRB
  have HCP : Hid (∀ X, w.grownBy X none → Calls Try.prog 10 #[.agg #[.slice ta tn tc, .slice na nn nc, .slice la ln lc, .int .i64 st, .slice pa n pc]] X fun e w' => ∃ ta' na' la' pa' tc' nc' lc' pc' ra' rc', e = .returned (.agg #[.slice ta' tn tc', .slice na' nn nc', .slice la' ln lc', .int .i64 st, .slice pa' n pc']) ∧ GAt w' ta' na' la' pa' tc' nc' lc' pc' ts ns lv n L R ra' rc' V ∧ X.grownBy w' none) := fun X hX => by
    refine (rcopy_any ta na la pa tn nn ln n tc nc lc pc st ts ns lv L R ra rc V X hlen (hG.kept hX) hnt hnl h1 h2 h4).mono ?_
    rintro e y ⟨ta', na', la', pa', tc', nc', lc', pc', ra', rc', rfl, hg', _, _, _, hg⟩
    exact ⟨ta', na', la', pa', tc', nc', lc', pc', ra', rc', rfl, hg', hg⟩
  have HSM : Hid (∀ X ta' na' la' pa' tc' nc' lc' pc' ra' rc', w.grownBy X none → GAt X ta' na' la' pa' tc' nc' lc' pc' ts ns lv n L R ra' rc' V → Calls Try.prog 15 #[.agg #[.slice ta tn tc, .slice na nn nc, .slice la ln lc, .int .i64 st, .slice pa n pc], .agg #[.slice ta' tn tc', .slice na' nn nc', .slice la' ln lc', .int .i64 st, .slice pa' n pc']] X fun e w' => e = .returned (.bool true) ∧ X.grownBy w' none) := fun X ta' na' la' pa' tc' nc' lc' pc' ra' rc' hX hg' => by
    have := rsame_any (st := st) (st' := st) (hG.kept hX) hg' true ⟨fun _ => ⟨rfl, rfl, rfl, rfl, rfl, fun i hi => ⟨rfl, rfl, rfl⟩⟩, fun _ => rfl⟩
    rwa [hlen.1, hlen.2.1, hlen.2.2] at this
  obtain ⟨N, hN⟩ : ∃ n, n = ks.length := ⟨_, rfl⟩
  have HN : Hid (N = ks.length) := hN
  have HSA : Hid (∀ X B B' sa sb sc sd kv ev kv' ev', AutP B X (.slice sa ks.length sc) ks el kv ev → AutP B' X (.slice sb ks.length sd) ks el kv' ev' → Calls Try.prog 13 #[.agg #[.slice sa N sc, .int .i64 ask, .int .i64 nI], .agg #[.slice sb N sd, .int .i64 ask, .int .i64 nI]] X fun e y => e = .returned (.bool true) ∧ X.grownBy y none) := fun X B B' sa sb sc sd kv ev kv' ev' hA hB => by
    rw [hN]
    exact sameAuto_any sa sb sc sd ask nI X B B' ks el kv ev kv' ev' hA hB hks (fun i hi => by have := hkb i hi; omega) heb
  have HSP : Hid (∀ (w0 X : World) sa sc kv ev, w0.grownBy X none → AutP w0.heap.size X (.slice sa ks.length sc) ks el kv ev → Calls Try.prog 14 #[.agg #[.slice sa N sc, .int .i64 ask, .int .i64 nI]] X fun e y => e = .returned (.tuple #[]) ∧ w0.grownBy y none) := fun w0 X sa sc kv ev hX hA => by
    rw [hN]
    exact spoil_any w0 X sa sc ask nI w0.heap.size ks el kv ev hX (Nat.le_refl _) hX.size hA hks hkb heb
  have HX0 : Hid (PhAt w (w.alloc (.cells #[.slice ta tn tc, .slice na nn nc, .slice la ln lc, .int .i64 st, .slice pa n pc] 27)) w.heap.size #[.slice ta tn tc, .slice na nn nc, .slice la ln lc, .int .i64 st, .slice pa n pc]) := ⟨World.grownBy_alloc _ _ none, heap_alloc_last w _⟩
  have hee : (ec != ec) = false := bne_self_eq_false _
  clear hBU hRB hlen hG hnt hnl h1 h2 h4 hkb heb hks hN
  go_enter Try.func3, Try.ntmps3
  go_wp2_with fail
  refine Calls.mono (awake_any _) ?_
  rintro e w1 ⟨rfl, hg1⟩
  have HX1 : Hid (PhAt w w1 w.heap.size #[.slice ta tn tc, .slice na nn nc, .slice la ln lc, .int .i64 st, .slice pa n pc]) := HX0.out.kept hg1
  clear hg1 HX0
  obtain ⟨k0, k1, k2, k3, k4⟩ := HX1.out.cells
  go_wp2_with fail
  refine Calls.mono (HCP.out _ HX1.out.grown) ?_
  rintro e w2 ⟨ta', na', la', pa', tc', nc', lc', pc', ra', rc', rfl, hg', hg2⟩
  obtain ⟨gb, hgb⟩ : ∃ b, b = w2.heap.size := ⟨_, rfl⟩
  obtain ⟨W, hW⟩ : ∃ W, W = w2.alloc (.cells #[.slice ta' tn tc', .slice na' nn nc', .slice la' ln lc', .int .i64 st, .slice pa' n pc'] 27) := ⟨_, rfl⟩
  have HWE := show Hid _ from hW
  have HGE := show Hid _ from hgb
  have hgW : w2.grownBy W none := by rw [hW]; exact World.grownBy_alloc _ _ none
  have HXW : Hid (PhAt w W w.heap.size #[.slice ta tn tc, .slice na nn nc, .slice la ln lc, .int .i64 st, .slice pa n pc]) := HX1.out.kept (grown_trans hg2 hgW)
  have HBW : Hid (W.heap[gb]? = some (.cells #[.slice ta' tn tc', .slice na' nn nc', .slice la' ln lc', .int .i64 st, .slice pa' n pc'] 27 (0, 0))) := by rw [hW, hgb]; exact heap_alloc_last w2 _
  have HGW : Hid (GAt W ta' na' la' pa' tc' nc' lc' pc' ts ns lv n L R ra' rc' V) := hg'.kept hgW
  have HGC : Hid (∀ Y, W.grownBy Y none → Y.cell? ⟨gb, 0, none⟩ = some (.slice ta' tn tc') ∧ Y.cell? ⟨gb, 1, none⟩ = some (.slice na' nn nc') ∧ Y.cell? ⟨gb, 2, none⟩ = some (.slice la' ln lc') ∧ Y.cell? ⟨gb, 3, none⟩ = some (.int .i64 st) ∧ Y.cell? ⟨gb, 4, none⟩ = some (.slice pa' n pc')) := fun Y hY => by
    have h := box_kept HBW.out hY
    exact ⟨by rw [cell_of_row _ _ _ _ _ _ h]; rfl, by rw [cell_of_row _ _ _ _ _ _ h]; rfl, by rw [cell_of_row _ _ _ _ _ _ h]; rfl, by rw [cell_of_row _ _ _ _ _ _ h]; rfl, by rw [cell_of_row _ _ _ _ _ _ h]; rfl⟩
  obtain ⟨j0, j1, j2, j3, j4⟩ := HGC.out W (grown_refl _ _)
  rw [HWE.out, HGE.out] at j0 j1 j2 j3 j4
  clear hg' hg2 hgW hW hgb HX1 HCP k0 k1 k2 k3 k4
  go_wp2_with fail
  rw [← HWE.out, ← HGE.out]
  clear j0 j1 j2 j3 j4
  refine Calls.mono (HRB.out W ta' na' la' pa' tc' nc' lc' pc' ra' rc' HGW.out) ?_
  rintro e w3 ⟨sw, cw, kw, ew, rfl, hAW, hg3⟩
  obtain ⟨ab, hab⟩ : ∃ b, b = w3.heap.size := ⟨_, rfl⟩
  rw [← HN.out]
  obtain ⟨P, hP⟩ : ∃ P, P = w3.alloc (.cells #[.slice sw N cw, .int .i64 ask, .int .i64 nI] 32) := ⟨_, rfl⟩
  have HPE := show Hid _ from hP
  have HAE := show Hid _ from hab
  have hgP : w3.grownBy P none := by rw [hP]; exact World.grownBy_alloc _ _ none
  have HGP : Hid (W.grownBy P none) := grown_trans hg3 hgP
  have HXP : Hid (PhAt w P w.heap.size #[.slice ta tn tc, .slice na nn nc, .slice la ln lc, .int .i64 st, .slice pa n pc]) := HXW.out.kept HGP.out
  have HBP : Hid (P.heap[ab]? = some (.cells #[.slice sw N cw, .int .i64 ask, .int .i64 nI] 32 (0, 0))) := by rw [hP, hab]; exact heap_alloc_last w3 _
  have HAP : Hid (AutP W.heap.size P (.slice sw ks.length cw) ks el kw ew) := hAW.kept hgP
  clear hAW hg3 hgP hP hab HWE HGE HRB HXW
  go_wp2_with fail
  rw [← HPE.out, ← HAE.out]
  clear HPE HAE
  go_loopg [7] 2 (fun gk v7 wr => ∃ t : Nat, t ≤ 2 ∧ gk = 2 - t ∧ v7 = .int .i64 t ∧ P.grownBy wr none)
  case atStart => exact ⟨0, by omega, rfl, rfl, grown_refl _ _⟩
  case round =>
    obtain ⟨t, ht, hgt, rfl, hg⟩ := hrel
    have HGT : Hid (gk = 2 - t) := hgt
    have HG : Hid (P.grownBy wr none) := hg
    have HXR : Hid (PhAt w wr w.heap.size #[.slice ta tn tc, .slice na nn nc, .slice la ln lc, .int .i64 st, .slice pa n pc]) := HXP.out.kept hg
    clear hgt hg
    obtain ⟨k0, k1, k2, k3, k4⟩ := HXR.out.cells
    by_cases hlt : t < 2
    · have hid : decide (t < 2) = true := decide_eq_true hlt
      have hid2 : decide ((t : Int) < 2) = true := decide_eq_true (by omega)
      generalize wr = W0 at *
      go_wp2_with fail
      refine Calls.mono (HBU.out _ HXR.out.grown) ?_
      rintro e w4 ⟨sa, sc, kv, ev, rfl, hA4, hg4⟩
      rw [← HN.out]
      obtain ⟨bb, hbb⟩ : ∃ b, b = w4.heap.size := ⟨_, rfl⟩
      obtain ⟨T, hT⟩ : ∃ T, T = w4.alloc (.cells #[.slice sa N sc, .int .i64 ask, .int .i64 nI] 32) := ⟨_, rfl⟩
      have HTE := show Hid _ from hT
      have HBE := show Hid _ from hbb
      have hgT : w4.grownBy T none := by rw [hT]; exact World.grownBy_alloc _ _ none
      have HGT4 : Hid (W0.grownBy T none) := grown_trans hg4 hgT
      have HAT : Hid (AutP W0.heap.size T (.slice sa ks.length sc) ks el kv ev) := hA4.kept hgT
      have HBT : Hid (T.heap[bb]? = some (.cells #[.slice sa N sc, .int .i64 ask, .int .i64 nI] 32 (0, 0))) := by rw [hT, hbb]; exact heap_alloc_last w4 _
      have HCT : Hid (∀ Y, T.grownBy Y none → (Y.cell? ⟨bb, 0, none⟩ = some (.slice sa N sc) ∧ Y.cell? ⟨bb, 1, none⟩ = some (.int .i64 ask) ∧ Y.cell? ⟨bb, 2, none⟩ = some (.int .i64 nI)) ∧ Y.cell? ⟨ab, 0, none⟩ = some (.slice sw N cw) ∧ Y.cell? ⟨ab, 1, none⟩ = some (.int .i64 ask) ∧ Y.cell? ⟨ab, 2, none⟩ = some (.int .i64 nI)) := fun Y hY => by
        have h := box_kept HBT.out hY
        have h' := box_kept HBP.out (grown_trans HG.out (grown_trans HGT4.out hY))
        exact ⟨⟨by rw [cell_of_row _ _ _ _ _ _ h]; rfl, by rw [cell_of_row _ _ _ _ _ _ h]; rfl, by rw [cell_of_row _ _ _ _ _ _ h]; rfl⟩, by rw [cell_of_row _ _ _ _ _ _ h']; rfl, by rw [cell_of_row _ _ _ _ _ _ h']; rfl, by rw [cell_of_row _ _ _ _ _ _ h']; rfl⟩
      obtain ⟨⟨y0, y1, y2⟩, z0, z1, z2⟩ := HCT.out T (grown_refl _ _)
      rw [HTE.out, HBE.out] at y0 y1 y2
      rw [HTE.out] at z0 z1 z2
      clear hA4 hg4 hgT hT hbb k0 k1 k2 k3 k4
      go_wp2_with fail
      rw [← HTE.out, ← HBE.out]
      refine Calls.mono (HSA.out T _ _ sa sw sc cw kv ev kw ew HAT.out (HAP.out.kept (grown_trans HG.out HGT4.out))) ?_
      rintro e w5 ⟨rfl, hg5⟩
      have HG5 : Hid (T.grownBy w5 none) := hg5
      clear hg5 y0 y1 y2 z0 z1 z2 HTE HBE
      obtain ⟨⟨y0, y1, y2⟩, _⟩ := HCT.out w5 HG5.out
      go_wp2_with fail
      refine Calls.mono (HSP.out W0 w5 sa sc kv ev (grown_trans HGT4.out HG5.out) (HAT.out.kept HG5.out)) ?_
      rintro e w6 ⟨rfl, hg6⟩
      have HG6 : Hid (P.grownBy w6 none) := grown_trans HG.out hg6
      clear hg6 y0 y1 y2
      go_wp2_with fail
      go_roundg (2 - (t + 1))
      case measure => have := HGT.out; omega
      case rel => exact ⟨t + 1, by omega, rfl, by go_num, HG6.out⟩
    · have ht2 : t = 2 := by omega
      subst ht2
      obtain ⟨j0, j1, j2, j3, j4⟩ := HGC.out wr (grown_trans HGP.out HG.out)
      go_wp2_with fail
      refine Calls.mono (HSM.out wr ta' na' la' pa' tc' nc' lc' pc' ra' rc' HXR.out.grown (HGW.out.kept (grown_trans HGP.out HG.out))) ?_
      rintro e w6 ⟨rfl, hg6⟩
      have HG6 : Hid (w.grownBy w6 none) := grown_trans HXR.out.grown hg6
      clear hg6 j0 j1 j2 j3 j4 k0 k1 k2 k3 k4
      go_wp2_with fail
      go_ret
      exact ⟨rfl, HG6.out⟩

theorem builds_core (hts : ∀ t ∈ ts, t.1.size ≤ 140737488355328) (hns : ∀ s ∈ ns, s.size ≤ 140737488355328) (hnt : ta = none → tn = 0 ∧ tc = 0) (hnl : la = none → ln = 0 ∧ lc = 0) (h1 : tn * 24 ≤ 140737488355328) (h2 : nn * 16 ≤ 140737488355328) (h4 : n * 40 ≤ 140737488355328) : Calls Try.prog 3 #[.agg #[.slice ta tn tc, .slice na nn nc, .slice la ln lc, .int .i64 st, .slice pa n pc]] w fun e w' => e = .returned (.bool true) ∧ w.grownBy w' none := by
  by_cases hc : closedOK ts ns lv st n L R V
  · have hM : MayOK tn nn n st L R true := by obtain ⟨rfl, rfl, rfl⟩ := hlen; exact mayOK_closed hc
    cases hau : autoF (GG tn n L R) (tn + nn) 256 with
    | none =>
      refine builds_any ta na la pa tc nc lc pc ts ns lv n L R ra rc V st w tn nn ln hlen hG hnt hnl h1 h2 h4 [] (fun _ => []) 0 0 11 (by simp) (fun i hi => absurd hi (Nat.not_lt_zero _)) (fun i hi => absurd hi (Nat.not_lt_zero _)) (fun X hX => ?_) (fun X ta' na' la' pa' tc' nc' lc' pc' ra' rc' hG' => ?_)
      · refine (build_none ta na la pa tc nc lc pc ts ns lv n L R ra rc V st w tn nn ln hlen hG hc hau X hX).mono ?_
        rintro e y ⟨rfl, hg⟩
        exact autOut_none hg
      · refine (rbuildOk ta' na' la' pa' tc' nc' lc' pc' ts ns lv n L R ra' rc' V st X tn nn ln hlen hG' hts hns hc).mono ?_
        rintro e y (⟨ks', es', _, _, _, _, hau', _⟩ | ⟨_, rfl, hg⟩)
        · have h9 := hau.symm.trans hau'
          cases h9
        · exact autOut_none hg
    | some p =>
      obtain ⟨ks, es⟩ := p
      have hA := autF hM.p0 hau
      have hlb : ∀ i, i < ks.length → (ks.getD i []).length ≤ 10000000 := fun i hi => by
        have := (hA.kok.each i hi).len (by have := hA.kok.le; omega)
        omega
      have heb : ∀ i, i < ks.length → (elF es i).length ≤ 1000 := fun i hi => by
        rw [elF_len, hA.elen hi]
        have h1 := symsT_len (GG tn n L R (ks.getD i [])) (tn + nn)
        have h2 := hM.tmax
        have h3 := hM.nmax
        omega
      refine builds_any ta na la pa tc nc lc pc ts ns lv n L R ra rc V st w tn nn ln hlen hG hnt hnl h1 h2 h4 ks (elF es) (askN es : Int) (ks.length : Int) 0 hA.kok.le hlb heb (fun X hX => build_some ta na la pa tc nc lc pc ts ns lv n L R ra rc V st w tn nn ln hlen hG hc hau X hX) (fun X ta' na' la' pa' tc' nc' lc' pc' ra' rc' hG' => ?_)
      refine (rbuildOk ta' na' la' pa' tc' nc' lc' pc' ts ns lv n L R ra' rc' V st X tn nn ln hlen hG' hts hns hc).mono ?_
      rintro e y (⟨ks', es', sa, sc, kv, ev, hau', rfl, hAP, hg⟩ | ⟨hau', _⟩)
      · have h9 := hau.symm.trans hau'
        simp only [Option.some.injEq, Prod.mk.injEq] at h9
        obtain ⟨rfl, rfl⟩ := h9
        exact ⟨sa, sc, kv, ev, rfl, hAP, hg⟩
      · have h9 := hau.symm.trans hau'
        cases h9
  · refine builds_any ta na la pa tc nc lc pc ts ns lv n L R ra rc V st w tn nn ln hlen hG hnt hnl h1 h2 h4 [] (fun _ => []) 0 0 1 (by simp) (fun i hi => absurd hi (Nat.not_lt_zero _)) (fun i hi => absurd hi (Nat.not_lt_zero _)) (fun X hX => ?_) (fun X ta' na' la' pa' tc' nc' lc' pc' ra' rc' hG' => ?_)
    · refine (buildBad ta na la pa tc nc lc pc ts ns lv n L R ra rc V st X tn nn ln hlen (hG.kept hX) hc).mono ?_
      rintro e y ⟨rfl, hg⟩
      exact autOut_none hg
    · refine (rbuildBad ta' na' la' pa' tc' nc' lc' pc' ts ns lv n L R ra' rc' V st X tn nn ln hlen hG' hts hns hc).mono ?_
      rintro e y ⟨rfl, hg⟩
      exact autOut_none hg
end

end Go.Proofs.Ytdijjlhodlghbaa.J
