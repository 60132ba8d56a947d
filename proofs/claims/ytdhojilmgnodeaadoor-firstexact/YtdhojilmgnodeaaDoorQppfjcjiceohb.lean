import Derived.Test.YtdhojilmgnodeaaDoorQebiikaoagfcf
import Derived.Test.YtdhojilmgnodeaaDoorQfpppnncfiiga
import Derived.Test.YtdhojilmgnodeaaDoorQolfdolefocof
import Derived.Test.YtdhojilmgnodeaaDoorQpjgifeoodnko
import Derived.Test.YtdhojilmgnodeaaDoorQpkcgoeojlcgm

/-
  FirstExact, walked.
-/
namespace Go.Proofs.YtdhojilmgnodeaaDoor
open Go.RowKit Go.Maps Go.Shelf

attribute [local go_sem] Oper.semAt_some

theorem LentAt.keep {X Y : World} {g : Nat} {l : List Int} (h : LentAt X g l 8) (hg : X.grownBy Y none) : LentAt Y g l 8 := (hg.block g (Array.getElem?_eq_some_iff.1 h).1 (by simp)).trans h

set_option maxRecDepth 100000 in
set_option maxHeartbeats 4000000 in
theorem exact_core (ta na la pa : Option Addr) (tc nc lc pc : Nat) (ts : List (ByteArray × Int)) (ns : List ByteArray) (lv : List Int) (n : Nat) (L : Nat → Int) (R : Nat → List Int) (ra : Nat → Option Addr) (rc : Nat → Nat) (V : Nat → Int) (st : Int) (w : World) (tn nn ln : Nat) (hlen : ts.length = tn ∧ ns.length = nn ∧ lv.length = ln) (hG : GAt w ta na la pa tc nc lc pc ts ns lv n L R ra rc V) (hnt : ta = none → tn = 0 ∧ tc = 0) (hnl : la = none → ln = 0 ∧ lc = 0) (h1 : tn * 24 ≤ 140737488355328) (h2 : nn * 16 ≤ 140737488355328) (h4 : n * 40 ≤ 140737488355328) (hts : ∀ t ∈ ts, t.1.size ≤ 140737488355328) (hns : ∀ s ∈ ns, s.size ≤ 140737488355328) (hT : B.Tab w) (h0 : 0 < w.heap.size) (rw0 : Option Addr) (rcap : Nat) (l : List Int) (hl : IntsAt w rw0 l) (hll : l.length ≤ 17592186044416) :
    Calls Tryd.prog 3 #[.agg #[.slice ta tn tc, .slice na nn nc, .slice la ln lc, .int .i64 st, .slice pa n pc], .slice rw0 l.length rcap] w fun e y => e = .returned (.bool true) ∧ w.grownBy y none := by
  obtain ⟨N, F, Q, ec, hN, hQ, hS⟩ := told_sets ts ns lv n L R V st tn nn ln hlen hts hns
  obtain ⟨q, bq, eq, hq, hR⟩ := told_row ts ns lv n L R V st tn nn ln hlen hts hns l hll
  have HAW : Hid (∀ X, w.grownBy X none → Calls Tryd.prog 8 #[] X fun e w' => e = .returned (.bool true) ∧ X.grownBy w' none) := fun X hX => kawake_any X (Tab_kept hT hX h0) (Nat.lt_of_lt_of_le h0 hX.size)
  have HCP : Hid (∀ X, w.grownBy X none → Calls Tryd.prog 9 #[.agg #[.slice ta tn tc, .slice na nn nc, .slice la ln lc, .int .i64 st, .slice pa n pc]] X fun e w' => ∃ ta' na' la' pa' tc' nc' lc' pc', e = .returned (.agg #[.slice ta' tn tc', .slice na' nn nc', .slice la' ln lc', .int .i64 st, .slice pa' n pc']) ∧ GHere ts ns lv n L R V w' ta' na' la' pa' tc' nc' lc' pc' ∧ X.grownBy w' none) := fun X hX => by
    refine (rcopy_any ta na la pa tn nn ln n tc nc lc pc st ts ns lv L R ra rc V X hlen (hG.kept hX) hnt hnl h1 h2 h4).mono ?_
    rintro e w' ⟨ta', na', la', pa', tc', nc', lc', pc', ra', rc', rfl, hG', _, _, _, hg⟩
    exact ⟨ta', na', la', pa', tc', nc', lc', pc', rfl, ⟨ra', rc', hG'⟩, hg⟩
  have HSA : Hid (∀ (X : World) (ta' na' la' pa' : Option Addr) (tc' nc' lc' pc' : Nat), w.grownBy X none → GHere ts ns lv n L R V X ta' na' la' pa' tc' nc' lc' pc' → Calls Tryd.prog 21 #[.agg #[.slice ta tn tc, .slice na nn nc, .slice la ln lc, .int .i64 st, .slice pa n pc], .agg #[.slice ta' tn tc', .slice na' nn nc', .slice la' ln lc', .int .i64 st, .slice pa' n pc']] X fun e w' => e = .returned (.bool true) ∧ X.grownBy w' none) := fun X ta' na' la' pa' tc' nc' lc' pc' hX hg' => by
    obtain ⟨ra', rc', hg'⟩ := hg'
    have := rsame_any (st := st) (st' := st) (hG.kept hX) hg' true ⟨fun _ => ⟨rfl, rfl, rfl, rfl, rfl, fun i hi => ⟨rfl, rfl, rfl⟩⟩, fun _ => rfl⟩
    rwa [hlen.1, hlen.2.1, hlen.2.2] at this
  have HGI : Hid (GHere ts ns lv n L R V w ta na la pa tc nc lc pc ∧ B.Tab w ∧ 0 < w.heap.size ∧ IntsAt w rw0 l) := ⟨⟨ra, rc, hG⟩, hT, h0, hl⟩
  have HTS := show Hid _ from hS
  have HTR := show Hid _ from hR
  have HQ : Hid (∀ i, (Q i).length ≤ 1024) := hQ
  obtain ⟨ll, hle⟩ : ∃ m, m = l.length := ⟨_, rfl⟩
  have HLE : Hid (ll = l.length) := hle
  have HLL : Hid (l.length ≤ 17592186044416) := hll
  rw [← hle]
  have hl3 : ll ≤ 17592186044416 := by rw [hle]; exact hll
  have HX0 : Hid (PhAt w (w.alloc (.cells #[.slice ta tn tc, .slice na nn nc, .slice la ln lc, .int .i64 st, .slice pa n pc] 27)) w.heap.size #[.slice ta tn tc, .slice na nn nc, .slice la ln lc, .int .i64 st, .slice pa n pc]) := ⟨World.grownBy_alloc _ _ none, heap_alloc_last w _⟩
  have HLN : Hid (∀ X, w.grownBy X none → Calls Tryd.prog 16 #[.slice rw0 ll rcap] X fun e w' => e = .returned (.tuple #[.slice (some ⟨X.heap.size, 0, none⟩) ll (ll + 8), .slice (some ⟨X.heap.size, 0, none⟩) (ll + 8) (ll + 8)]) ∧ LentAt w' X.heap.size l 8 ∧ X.grownBy w' none) := fun X hX => by
    rw [HLE.out]
    refine (lent_any rw0 rcap l X (HGI.out.2.2.2.kept hX) HLL.out).mono ?_
    rintro e w' ⟨rfl, h1, h2⟩
    exact ⟨rfl, h1, below_grown h2⟩
  have HWH : Hid (∀ X g, w.grownBy X none → LentAt X g l 8 → Calls Tryd.prog 20 #[.slice (some ⟨g, 0, none⟩) (ll + 8) (ll + 8), .slice rw0 ll rcap] X fun e w' => e = .returned (.bool true) ∧ X.grownBy w' none) := fun X g hX hL => by
    rw [HLE.out]
    refine (whole_any g _ rw0 rcap l X hL (HGI.out.2.2.2.kept hX) HLL.out).mono ?_
    rintro e w' ⟨rfl, k, rfl⟩
    exact ⟨rfl, grown_drewN _ _⟩
  have HRG : Hid (∀ X a cap, w.grownBy X none → IntsAt X a l → Calls Tryd.prog 17 #[.agg #[.slice ta tn tc, .slice na nn nc, .slice la ln lc, .int .i64 st, .slice pa n pc], .slice a ll cap] X (RowT q bq eq X)) := fun X a cap hX ha => by
    rw [HLE.out]
    exact (HTR.out X ta na la pa tc nc lc pc a cap (HGI.out.1.kept _ _ _ _ _ _ _ hX) (Tab_kept HGI.out.2.1 hX HGI.out.2.2.1) (Nat.lt_of_lt_of_le HGI.out.2.2.1 hX.size) ha).1
  have HRW : Hid (∀ X ta' na' la' pa' tc' nc' lc' pc', w.grownBy X none → GHere ts ns lv n L R V X ta' na' la' pa' tc' nc' lc' pc' → Calls Tryd.prog 18 #[.agg #[.slice ta' tn tc', .slice na' nn nc', .slice la' ln lc', .int .i64 st, .slice pa' n pc'], .slice rw0 ll rcap] X (RowT q bq eq X)) := fun X ta' na' la' pa' tc' nc' lc' pc' hX hg => by
    rw [HLE.out]
    exact (HTR.out X ta' na' la' pa' tc' nc' lc' pc' rw0 rcap hg (Tab_kept HGI.out.2.1 hX HGI.out.2.2.1) (Nat.lt_of_lt_of_le HGI.out.2.2.1 hX.size) (HGI.out.2.2.2.kept hX)).2
  have HNG : Hid (∀ X, w.grownBy X none → Calls Tryd.prog 10 #[.agg #[.slice ta tn tc, .slice na nn nc, .slice la ln lc, .int .i64 st, .slice pa n pc]] X (NulT N F ec X)) := fun X hX => (HTS.out X ta na la pa tc nc lc pc (HGI.out.1.kept _ _ _ _ _ _ _ hX) (Tab_kept HGI.out.2.1 hX HGI.out.2.2.1) (Nat.lt_of_lt_of_le HGI.out.2.2.1 hX.size)).1
  have HSG : Hid (∀ X, w.grownBy X none → Calls Tryd.prog 13 #[.agg #[.slice ta tn tc, .slice na nn nc, .slice la ln lc, .int .i64 st, .slice pa n pc]] X (SetT N Q ec X)) := fun X hX => (HTS.out X ta na la pa tc nc lc pc (HGI.out.1.kept _ _ _ _ _ _ _ hX) (Tab_kept HGI.out.2.1 hX HGI.out.2.2.1) (Nat.lt_of_lt_of_le HGI.out.2.2.1 hX.size)).2.2.1
  have HNW : Hid (∀ X ta' na' la' pa' tc' nc' lc' pc', w.grownBy X none → GHere ts ns lv n L R V X ta' na' la' pa' tc' nc' lc' pc' → Calls Tryd.prog 11 #[.agg #[.slice ta' tn tc', .slice na' nn nc', .slice la' ln lc', .int .i64 st, .slice pa' n pc']] X (NulT N F ec X)) := fun X ta' na' la' pa' tc' nc' lc' pc' hX hg => (HTS.out X ta' na' la' pa' tc' nc' lc' pc' hg (Tab_kept HGI.out.2.1 hX HGI.out.2.2.1) (Nat.lt_of_lt_of_le HGI.out.2.2.1 hX.size)).2.1
  have HSW : Hid (∀ X ta' na' la' pa' tc' nc' lc' pc', w.grownBy X none → GHere ts ns lv n L R V X ta' na' la' pa' tc' nc' lc' pc' → Calls Tryd.prog 14 #[.agg #[.slice ta' tn tc', .slice na' nn nc', .slice la' ln lc', .int .i64 st, .slice pa' n pc']] X (RSetT N Q ec X)) := fun X ta' na' la' pa' tc' nc' lc' pc' hX hg => (HTS.out X ta' na' la' pa' tc' nc' lc' pc' hg (Tab_kept HGI.out.2.1 hX HGI.out.2.2.1) (Nat.lt_of_lt_of_le HGI.out.2.2.1 hX.size)).2.2.2
  have HQL : Hid (∀ i, (Q i).length ≤ 17592186044416) := fun i => Nat.le_trans (hQ i) (by decide)
  obtain ⟨i0, hi0, hz0, hz1, hz2⟩ := info_parts infoInt
  obtain ⟨xl, hxl⟩ : ∃ m, m = q.length := ⟨_, rfl⟩
  have HXL : Hid (xl = q.length) := hxl
  have hxl2 : xl ≤ 1024 := by rw [hxl]; exact hq
  have hee : (ec != ec) = false := bne_self_eq_false _
  have hqq : (eq != eq) = false := bne_self_eq_false _
  have hbb : (!(bq == bq)) = false := by cases bq <;> rfl
  clear hlen hG hnt hnl h1 h2 h4 hts hns hT h0 hl hll hS hR hQ hle HTS HTR HLL hq hxl
  go_enter Tryd.func3, Tryd.ntmps3
  go_wp2_with fail
  refine Calls.mono (HAW.out _ HX0.out.grown) ?_
  rintro e w1 ⟨rfl, hg1⟩
  have HX1 : Hid (PhAt w w1 w.heap.size #[.slice ta tn tc, .slice na nn nc, .slice la ln lc, .int .i64 st, .slice pa n pc]) := HX0.out.kept hg1
  clear hg1 HX0 HAW
  obtain ⟨k0, k1, k2, k3, k4⟩ := HX1.out.cells
  go_wp2_with fail
  refine Calls.mono (HCP.out _ HX1.out.grown) ?_
  rintro e w2 ⟨ta', na', la', pa', tc', nc', lc', pc', rfl, hI2, hg2⟩
  obtain ⟨ib, hib⟩ : ∃ ib, ib = w2.heap.size := ⟨_, rfl⟩
  obtain ⟨U, hU⟩ : ∃ U, U = w2.alloc (.cells #[.slice ta' tn tc', .slice na' nn nc', .slice la' ln lc', .int .i64 st, .slice pa' n pc'] 27) := ⟨_, rfl⟩
  have hga : w2.grownBy U none := by rw [hU]; exact World.grownBy_alloc _ _ none
  have HPU : Hid (PhAt w U w.heap.size #[.slice ta tn tc, .slice na nn nc, .slice la ln lc, .int .i64 st, .slice pa n pc]) := (HX1.out.kept hg2).kept hga
  have HPI : Hid (PhAt w U ib #[.slice ta' tn tc', .slice na' nn nc', .slice la' ln lc', .int .i64 st, .slice pa' n pc']) := ⟨HPU.out.grown, by rw [hU, hib]; exact heap_alloc_last w2 _⟩
  have HGU : Hid (GHere ts ns lv n L R V U ta' na' la' pa' tc' nc' lc' pc') := hI2.kept _ _ _ _ _ _ _ hga
  have HXE := show Hid _ from hU
  have HIB : Hid (ib = w2.heap.size) := hib
  clear hI2 hg2 HX1 HCP hga hU hib k0 k1 k2 k3 k4
  go_wp2_with fail
  rw [← HXE.out, ← HIB.out]
  clear HXE HIB
  go_loopg [7] 2 (fun gk v7 wr => ∃ k : Nat, k ≤ 2 ∧ gk = 2 - k ∧ v7 = .int .i64 k ∧ U.grownBy wr none)
  case atStart => exact ⟨0, by decide, rfl, rfl, grown_refl _ _⟩
  case round =>
    obtain ⟨k, hk, hgk, rfl, hu⟩ := hrel
    have HGK : Hid (gk = 2 - k) := hgk
    have HU : Hid (U.grownBy wr none) := hu
    clear hgk hu
    have HWU : Hid (w.grownBy U none) := HPU.out.grown
    by_cases hlt : k < 2
    · have hkd : decide (k < 2) = true := decide_eq_true hlt
      have hkd2 : decide ((k : Int) < 2) = true := decide_eq_true (by omega)

      have HU0 : Hid (U.grownBy wr none) := HU.out
      obtain ⟨k0, k1, k2, k3, k4⟩ := (HPU.out.kept HU0.out).cells
      go_wp2_with fail
      refine Calls.mono (HNG.out _ (grown_trans HWU.out HU0.out)) ?_
      rintro e w3 ⟨aa, ac, rfl, hA3, hg3⟩
      have HA3 : Hid (BlAt w3 aa N F wr.heap.size) := hA3
      have HU3 : Hid (U.grownBy w3 none) := grown_trans HU0.out hg3
      clear hA3 hg3 k0 k1 k2 k3 k4
      obtain ⟨k0, k1, k2, k3, k4⟩ := (HPI.out.kept HU3.out).cells
      go_wp2_with fail
      refine Calls.mono (HNW.out _ _ _ _ _ _ _ _ _ (grown_trans HWU.out HU3.out) (HGU.out.kept _ _ _ _ _ _ _ HU3.out)) ?_
      rintro e w4 ⟨ba, bc, rfl, hB4, hg4⟩
      have HB4 : Hid (BlAt w4 ba N F w3.heap.size) := hB4
      have HU4 : Hid (U.grownBy w4 none) := grown_trans HU3.out hg4
      have HG34 : Hid (w3.grownBy w4 none) := hg4
      clear hB4 hg4 k0 k1 k2 k3 k4
      go_wp2_with fail
      refine Calls.mono (sameBools_any aa ba ac bc N F _ _ w4 (HA3.out.kept HG34.out) HB4.out (by omega)) ?_
      rintro e w5 ⟨rfl, hg5⟩
      have HU5 : Hid (U.grownBy w5 none) := grown_trans HU4.out hg5
      have HG35 : Hid (w3.grownBy w5 none) := grown_trans HG34.out hg5
      clear hg5 HG34 HB4 HU3 HU4
      obtain ⟨k0, k1, k2, k3, k4⟩ := (HPU.out.kept HU5.out).cells
      go_wp2_with fail
      refine Calls.mono (HSG.out _ (grown_trans HWU.out HU5.out)) ?_
      rintro e w6 ⟨ca, cc, ua, uc, rfl, hC6, hg6⟩
      have HC6 : Hid (LoAt w6 w5.heap.size ca N Q ua uc) := hC6
      have HU6 : Hid (U.grownBy w6 none) := grown_trans HU5.out hg6
      have HG36 : Hid (w3.grownBy w6 none) := grown_trans HG35.out hg6
      clear hC6 hg6 k0 k1 k2 k3 k4
      obtain ⟨k0, k1, k2, k3, k4⟩ := (HPI.out.kept HU6.out).cells
      go_wp2_with fail
      refine Calls.mono (HSW.out _ _ _ _ _ _ _ _ _ (grown_trans HWU.out HU6.out) (HGU.out.kept _ _ _ _ _ _ _ HU6.out)) ?_
      rintro e w7 ⟨da, dc, va, vc, rfl, hD7, hg7⟩
      have HD7 : Hid (LsAt w7 da N Q va vc) := hD7
      have HG67 : Hid (w6.grownBy w7 none) := hg7
      clear hD7 hg7 k0 k1 k2 k3 k4
      go_wp2_with fail
      refine Calls.mono (lists_same ca da cc dc N Q ua va uc vc w7 (HC6.out.ls.kept HG67.out) HD7.out (by omega) HQ.out) ?_
      rintro e w8 ⟨rfl, hg8⟩
      have HG68 : Hid (w6.grownBy w8 none) := grown_trans HG67.out hg8
      have HU8 : Hid (U.grownBy w8 none) := grown_trans HU6.out HG68.out
      clear hg8 HG67 HD7
      go_wp2_with fail
      refine Calls.mono (HLN.out _ (grown_trans HWU.out HU8.out)) ?_
      rintro e w9 ⟨rfl, hL9, hg9⟩
      have HL9 : Hid (LentAt w9 w8.heap.size l 8) := hL9
      have HG69 : Hid (w6.grownBy w9 none) := grown_trans HG68.out hg9
      have HU9 : Hid (U.grownBy w9 none) := grown_trans HU8.out hg9
      clear hL9 hg9 HG68
      obtain ⟨k0, k1, k2, k3, k4⟩ := (HPU.out.kept HU9.out).cells
      go_wp2_with fail
      refine Calls.mono (HRG.out _ _ _ (grown_trans HWU.out HU9.out) HL9.out.ints) ?_
      rintro e w10 ⟨xa, xc, rfl, hX10, hg10⟩
      have HX10 : Hid (w10.ownsRow w9.heap.size 3 1 (.slice xa q.length xc) q.length (q.map (Value.int .i64))) := hX10
      have HG9A : Hid (w9.grownBy w10 none) := hg10
      have HUA : Hid (U.grownBy w10 none) := grown_trans HU9.out hg10
      rw [← HXL.out]
      clear hX10 hg10 k0 k1 k2 k3 k4
      obtain ⟨k0, k1, k2, k3, k4⟩ := (HPI.out.kept HUA.out).cells
      go_wp2_with fail
      refine Calls.mono (HRW.out _ _ _ _ _ _ _ _ _ (grown_trans HWU.out HUA.out) (HGU.out.kept _ _ _ _ _ _ _ HUA.out)) ?_
      rintro e w11 ⟨ya, yc, rfl, hY11, hg11⟩
      have HIY : Hid (IntsAt w11 ya q) := (RowIn.of hY11 (Nat.zero_le _)).ints
      have HGAB : Hid (w10.grownBy w11 none) := hg11
      rw [← HXL.out]
      clear hY11 hg11 k0 k1 k2 k3 k4
      have HIS : Hid (Calls Tryd.prog 19 #[.slice xa xl xc, .slice ya xl yc] w11 fun e y => e = .returned (.bool true) ∧ w11.grownBy y none) := by
        rw [HXL.out]
        exact ints_same xa ya xc yc q w11 ((RowIn.of HX10.out (Nat.zero_le _)).ints.kept HGAB.out) HIY.out (by rw [← HXL.out]; omega)
      go_wp2_with fail
      refine Calls.mono HIS.out ?_
      rintro e w12 ⟨rfl, hg12⟩
      have HGAC : Hid (w10.grownBy w12 none) := grown_trans HGAB.out hg12
      clear hg12 HIS HIY HGAB
      go_wp2_with fail
      refine Calls.mono (HWH.out w12 _ (grown_trans HWU.out (grown_trans HUA.out HGAC.out)) (HL9.out.keep (grown_trans HG9A.out HGAC.out))) ?_
      rintro e Z ⟨rfl, hg13⟩
      have HE0 : Hid (ExAt U Z N ca ua Q uc 0 aa xa xl xc) := by
        have gAZ : w10.grownBy Z none := grown_trans HGAC.out hg13
        have g9Z : w9.grownBy Z none := grown_trans HG9A.out gAZ
        have g6Z : w6.grownBy Z none := grown_trans HG69.out g9Z
        show ExAt U Z N ca ua Q uc 0 aa xa xl xc
        rw [HXL.out]
        exact ExAt.of (grown_trans HUA.out gAZ) HA3.out (grown_trans HG36.out g6Z) HU0.out.size HC6.out g6Z HU5.out.size HX10.out gAZ HU9.out.size HG69.out.size
      clear hg13 HGAC HUA HG9A HX10 HL9 HG69 HU9 HG36 HC6 HU6 HU8 HA3 HG35 HU5 HU0 HU
      go_wp2_with fail
      go_loopg [28] N (fun gm v28 wr => ∃ m : Nat, m ≤ N ∧ gm = N - m ∧ v28 = .int .i64 m ∧ ExAt U wr N ca ua Q uc m aa xa xl xc)
      case atStart => exact ⟨0, Nat.zero_le _, rfl, rfl, HE0.out⟩
      case round =>
        obtain ⟨m, hm, hgm, rfl, hE⟩ := hrel
        have HGM : Hid (gk = N - m) := hgm
        have HE : Hid (ExAt U wr N ca ua Q uc m aa xa xl xc) := hE
        clear hgm hE HE0
        by_cases hmN : m < N
        · obtain ⟨kc, rfl, hc⟩ := HE.out.cell hmN
          obtain ⟨um, hum⟩ : ∃ u, u = ua m := ⟨_, rfl⟩
          obtain ⟨qm, hqm⟩ : ∃ u, u = (Q m).length := ⟨_, rfl⟩
          obtain ⟨cm, hcm⟩ : ∃ u, u = uc m := ⟨_, rfl⟩
          have HUM : Hid (um = ua m ∧ qm = (Q m).length ∧ cm = uc m) := ⟨hum, hqm, hcm⟩
          have hqb : qm ≤ 1024 := by rw [hqm]; exact HQ.out m
          have HCC : Hid (∀ X, ExAt U X N (some ⟨kc, 0, none⟩) ua Q uc m aa xa xl xc → X.cell? ⟨kc, m, none⟩ = some (.slice um qm cm)) := fun X hX => by
            obtain ⟨k', e, h⟩ := hX.cell hmN
            have : kc = k' := by simpa using e
            subst this
            rw [hum, hqm, hcm]; exact h
          have HRO : Hid (∀ X, ExAt U X N (some ⟨kc, 0, none⟩) ua Q uc m aa xa xl xc → OwnA X U.heap.size qm (.slice um qm cm)) := fun X hX => by
            rw [hum, hqm, hcm]; exact hX.rows m (Nat.le_refl _) hmN
          have hm0 : (0 : Int) ≤ (m : Int) := by omega
          have hm1 : (m : Int) < (N : Int) := by omega
          have hmd : decide (m < N) = true := decide_eq_true hmN
          clear hc hum hqm hcm
          generalize wr = W1 at *
          go_wp2_with fail
          go_loopg [29] qm (fun gj v29 wr => ∃ j : Nat, j ≤ qm ∧ gj = qm - j ∧ v29 = .int .i64 j ∧ ExAt U wr N (some ⟨kc, 0, none⟩) ua Q uc m aa xa xl xc)
          case atStart => exact ⟨0, Nat.zero_le _, rfl, rfl, HE.out⟩
          case round =>
            obtain ⟨j, hj, hgj, rfl, hE⟩ := hrel
            have HGJ : Hid (gk = qm - j) := hgj
            have HE2 : Hid (ExAt U wr N (some ⟨kc, 0, none⟩) ua Q uc m aa xa xl xc) := hE
            clear hgj hE HE
            have hc := HCC.out wr HE2.out
            by_cases hjq : j < qm
            · obtain ⟨g, u, rfl, hgB, hcl, hfr⟩ := (HRO.out wr HE2.out).cell hjq
              have HN2 : Hid (ExAt U (wr.setCell ⟨g, j, none⟩ (.int .i64 99)) N (some ⟨kc, 0, none⟩) ua Q uc m aa xa xl xc) := HE2.out.setI hgB (ExAt.ints (HRO.out wr HE2.out) rfl (by omega))
              have hj0 : (0 : Int) ≤ (j : Int) := by omega
              have hj1 : (j : Int) < (qm : Int) := by omega
              have hjd : decide (j < qm) = true := decide_eq_true hjq
              clear hgB
              go_wp2_with fail
              go_roundg (qm - (j + 1))
              case measure => have := HGJ.out; omega
              case rel => exact ⟨j + 1, by omega, rfl, by go_num, HN2.out⟩
            · have hjn : qm = j := by omega
              subst hjn
              have hjd : decide (qm < qm) = false := decide_eq_false (by omega)
              obtain ⟨xs, hxs⟩ := HRO.out wr HE2.out
              have HOW : Hid ((wr.alloc (.cells #[.int .i64 98] 3)).ownsRow U.heap.size 3 1 (.slice um qm cm) qm xs) := hxs.alloc _
              have HNX : Hid (∀ j z, [Value.int .i64 98][j]? = some z → (wr.alloc (.cells #[.int .i64 98] 3)).cell? ((⟨wr.heap.size, 0, none⟩ : Addr).add j) = some z) := news_new wr _ _
              have HBB : Hid (U.heap.size ≤ (wr.alloc (.cells #[.int .i64 98] 3)).heap.size) := by have := HE2.out.grown.size; show _ ≤ _; simp; omega
              have HAP : Hid (∀ Y v, (wr.alloc (.cells #[.int .i64 98] 3)).grownBy Y (Value.slice um qm cm).ownBlock → ExAt U (Y.setCell ⟨kc, m, none⟩ v) N (some ⟨kc, 0, none⟩) ua Q uc (m + 1) aa xa xl xc ∧ (∃ u, Y.cell? ⟨kc, m, none⟩ = some u) ∧ Y.frozen? ⟨kc, m, none⟩ = false) := fun Y v hY => by
                rw [HUM.out.1, HUM.out.2.1, HUM.out.2.2] at hY
                exact HE2.out.app hmN (World.grownBy_alloc _ _ none) hY
              have hc2 : (wr.alloc (.cells #[.int .i64 98] 3)).cell? ⟨kc, m, none⟩ = some (.slice um qm cm) := (World.grownBy_alloc wr _ none).cell hc (by simp)
              clear hxs
              go_wp2_with (at_builtin; refine wpList_append_src rfl (.tmp 151) (.tmp 152) 24 rfl U.heap.size 3 i0 (.int .i64 0) 1 8 Tryd.underlying24 hi0 hz0 hz1 hz2 rfl (by decide) (.slice um qm cm) qm xs rfl HOW.out (some ⟨wr.heap.size, 0, none⟩) 1 1 [.int .i64 98] rfl (fun h => by cases h) rfl (fun ad e => by cases e; exact HNX.out) (by simp [Value.oneCell']) (by unfold maxLen; omega) (by omega) HBB.out ?_; intro v6 wB hoB hgB; obtain ⟨a6, c6, rfl⟩ := owns_slice hoB; obtain ⟨y1, ⟨y2, y3⟩, y4⟩ := HAP.out wB (.slice a6 (qm + 1) c6) hgB; have HY1 := show Hid _ from y1; clear y1 hoB hgB)
              go_roundg (N - (m + 1))
              case measure => have := HGM.out; omega
              case rel => exact ⟨m + 1, by omega, rfl, by go_num, HY1.out⟩
        · have hmn : N = m := by omega
          subst hmn
          have hmd : decide (N < N) = false := decide_eq_false (by omega)
          clear HGM
          generalize wr = W1 at *
          go_wp2_with fail
          go_loopg [30] N (fun gj v30 wr => ∃ j : Nat, j ≤ N ∧ gj = N - j ∧ v30 = .int .i64 j ∧ ExAt U wr N ca ua Q uc N aa xa xl xc)
          case atStart => exact ⟨0, Nat.zero_le _, rfl, rfl, HE.out⟩
          case round =>
            obtain ⟨j, hj, hgj, rfl, hE⟩ := hrel
            have HGJ : Hid (gk = N - j) := hgj
            have HE2 : Hid (ExAt U wr N ca ua Q uc N aa xa xl xc) := hE
            clear hgj hE HE
            by_cases hjq : j < N
            · obtain ⟨kk, b, rfl, hcl, hfr⟩ := HE2.out.mark hjq
              have HN2 : Hid (∀ b, ExAt U (wr.setCell ⟨kk, j, none⟩ (.bool b)) N ca ua Q uc N (some ⟨kk, 0, none⟩) xa xl xc) := fun b => HE2.out.setA hjq
              have hj0 : (0 : Int) ≤ (j : Int) := by omega
              have hj1 : (j : Int) < (N : Int) := by omega
              have hjd : decide (j < N) = true := decide_eq_true hjq
              go_wp2_with fail
              go_roundg (N - (j + 1))
              case measure => have := HGJ.out; omega
              case rel => exact ⟨j + 1, by omega, rfl, by go_num, HN2.out _⟩
            · have hjn : N = j := by omega
              subst hjn
              clear HGJ
              generalize wr = W2 at *
              go_wp2_with fail
              go_loopg [31] xl (fun gj v31 wr => ∃ j : Nat, j ≤ xl ∧ gj = xl - j ∧ v31 = .int .i64 j ∧ ExAt U wr N ca ua Q uc N aa xa xl xc)
              case atStart => exact ⟨0, Nat.zero_le _, rfl, rfl, HE2.out⟩
              case round =>
                obtain ⟨j, hj, hgj, rfl, hE⟩ := hrel
                have HGJ : Hid (gk = xl - j) := hgj
                have HE3 : Hid (ExAt U wr N ca ua Q uc N aa xa xl xc) := hE
                clear hgj hE HE2
                by_cases hjq : j < xl
                · obtain ⟨g, u, rfl, hgB, hcl, hfr⟩ := HE3.out.x.cell hjq
                  have HN3 : Hid (ExAt U (wr.setCell ⟨g, j, none⟩ (.int .i64 99)) N ca ua Q uc N aa (some ⟨g, 0, none⟩) xl xc) := HE3.out.setI hgB (ExAt.ints HE3.out.x rfl (by omega))
                  have hj0 : (0 : Int) ≤ (j : Int) := by omega
                  have hj1 : (j : Int) < (xl : Int) := by omega
                  have hjd : decide (j < xl) = true := decide_eq_true hjq
                  clear hgB
                  go_wp2_with fail
                  go_roundg (xl - (j + 1))
                  case measure => have := HGJ.out; omega
                  case rel => exact ⟨j + 1, by omega, rfl, by go_num, HN3.out⟩
                · have hjn : xl = j := by omega
                  subst hjn
                  have hjd : decide (xl < xl) = false := decide_eq_false (by omega)
                  go_wp2_with fail
                  go_roundg (2 - (k + 1))
                  case measure => have := HGK.out; omega
                  case rel => exact ⟨k + 1, by omega, rfl, by go_num, HE3.out.grown⟩
    · have hkn : k = 2 := by omega
      subst hkn
      obtain ⟨k0, k1, k2, k3, k4⟩ := (HPU.out.kept HU.out).cells
      obtain ⟨j0, j1, j2, j3, j4⟩ := (HPI.out.kept HU.out).cells
      go_wp2_with fail
      refine Calls.mono (HSA.out _ _ _ _ _ _ _ _ _ (grown_trans HWU.out HU.out) (HGU.out.kept _ _ _ _ _ _ _ HU.out)) ?_
      rintro e w3 ⟨rfl, hg3⟩
      have HG3 : Hid (w.grownBy w3 none) := grown_trans HWU.out (grown_trans HU.out hg3)
      clear hg3 k0 k1 k2 k3 k4 j0 j1 j2 j3 j4
      go_wp2_with fail
      go_ret
      exact ⟨rfl, HG3.out⟩

end Go.Proofs.YtdhojilmgnodeaaDoor

/-
  FirstExact holds: it answers true for every grammar and every row, which read afterwards as they did before; the library's table of trailing zeros starts as the program's text lays it.
-/
namespace Go.Proofs.YtdhojilmgnodeaaDoor
open Go.ChangeShapes Go.WideShapes Go.ChangeAt Go.RowKit

theorem cellsIntK : Tryd.prog.cellsOf 3 = 1 := by kernel_rfl

theorem ints_of_openK {W : World} {x : Addr} {len cap : Nat} {zs : List Int} (hl : len ≤ cap) (hz : zs.length = cap) (hc : ∀ i, i < zs.length → W.cell? (x.add i) = some (.int .i64 (zs.getD i 0))) :
    IntsAt W (some x) (zs.take len) := by
  by_cases h0 : len = 0
  · subst h0; exact .inl (by simp)
  · obtain ⟨b, off, spot⟩ := x
    have h1 := hc 0 (by omega)
    have hs : spot = none := by simpa [Addr.add] using World.cell?_spot h1
    subst hs
    refine .inr ⟨b, off, rfl, fun i hi => ?_⟩
    have hi' : i < len := by simp at hi; omega
    have h2 := hc i (by omega)
    rw [Addr.add_mid] at h2
    rw [h2]
    congr 2
    simp [List.getD, hi']

theorem bytesIntK : Tryd.prog.bytesOf 3 = 8 := by kernel_rfl
/-- A list of numbers among the arguments, opened. -/
theorem open_listS {H : Type} {enc : TypeId × Value → H} {W : World} {ts : List TypeId} {ds : List (DataW H)} {j : Nat} {a : Option Addr} {len cap : Nat} {d : DataW H} {p : List MemPlace}
    (hsz : (DataW.weightsEach Tryd.prog ts ds).all (· ≤ reachBytes) = true) (ht : ts[j]? = some 24) (hd : ds[j]? = some d) (h : DataW.Trod enc Tryd.prog W 0 (fun _ => true) true 24 (.slice a len cap) d p) :
    ∃ l : List Int, len = l.length ∧ IntsAt W a l ∧ (a = none → l.length = 0 ∧ cap = 0) ∧ l.length ≤ 17592186044416 := by
  obtain ⟨fuel, hf⟩ := h
  rcases open_ints Tryd.underlying24 Tryd.underlying3 cellsIntK hf with ⟨hcs, _⟩ | ⟨x, l, c, zs, hcs, _, hl, hm, hz, hx, hcell, hwz⟩
  · simp [Value.cells] at hcs
    obtain ⟨rfl, rfl, rfl⟩ := hcs
    exact ⟨[], rfl, .inl rfl, fun _ => ⟨rfl, rfl⟩, by decide⟩
  · simp [Value.cells] at hcs
    obtain ⟨rfl, rfl, rfl⟩ := hcs
    have hz' : zs.length = cap := by simpa using hz
    have hlt : (zs.take len).length = len := by simp; omega
    refine ⟨zs.take len, hlt.symm, ints_of_openK hl hz' hcell, fun h => (by cases h), ?_⟩
    simp only [Prod.mk.injEq] at hx
    obtain ⟨rfl, _⟩ := hx
    have := sized_slice hsz ht hd Tryd.underlying24
    rw [bytesIntK] at this
    simp only [lits, List.length_map, List.length_take, List.length_drop, reachBytes] at this
    rw [hlt]
    omega

set_option maxRecDepth 100000 in
theorem exact_lifted (os : Os) (started : os.Started) (H : Type) (enc : TypeId × Value → H) :
    ReturnsInHanded {} Tryd.checked os 3 .any (fun w args => (Rows.firstExactSpec.pre enc Tryd.prog Tryd.f3 [] false w args ∧ laidMetH Tryd.prog laid1 w) ∧ sizedMet enc Tryd.prog Tryd.f3 (OpenSpec.ofChange Rows.firstExactSpec) false w args)
      (Rows.firstExactSpec.post enc Tryd.prog Tryd.f3 false true false false) := by
  refine returnsInHanded_of_change_and (C := Tryd.checked) (X := fun w _ => laidMetH Tryd.prog laid1 w) (fun _ _ _ hh h => h.of_heap hh) own started (by kernel_rfl) Tryd.func3
    (ChangeSpec.witness_shaped (enc := enc) (C := Tryd.checked) (os := os) (X := fun w _ => laidMetH Tryd.prog laid1 w) false (World.doorLaid Tryd.prog 14 os) #[.agg #[.slice none 0 0, .slice none 0 0, .slice none 0 0, .int .i64 0, .slice none 0 0], .slice none 0 0] 8 rfl (World.shaped_of_RefB (by kernel_rfl) (by kernel_rfl)) (by kernel_rfl) (by kernel_rfl) (by kernel_rfl) (door_met os _)) ?_
  intro W base args ds gs before hval0 hW _ hsz0 hL _
  have hval : ∀ (j : Nat) t v, Tryd.f3.params[j]? = some t → args[j]? = some v → Value.okWide Tryd.prog W .any base t v := hval0
  have hsz : (DataW.weightsEach Tryd.prog (Tryd.f3.params.toList ++ Rows.firstExactSpec.plain.varTypes Tryd.prog) (ds ++ gs)).all (· ≤ reachBytes) = true := hsz0
  have hW' := hW
  obtain ⟨p, q, hA0, hV, rfl, hfz, hnd⟩ := hW
  have hA : DataW.TrodAll enc Tryd.prog W 0 (fun _ => true) true Tryd.f3.params.toList args.toList ds p := hA0
  rw [Tryd.params3] at hA hval hsz
  obtain ⟨v0, vs0, d0, ds0, p0, q0, hargs, rfl, rfl, h0, r0⟩ := trodAll_cons hA
  obtain ⟨v1, vs1, d1, ds1, p1, q1, rfl, rfl, rfl, h2, r1⟩ := trodAll_cons r0
  obtain ⟨rfl, rfl, rfl⟩ := trodAll_nil r1
  obtain rfl : args = #[v0, v1] := by cases args; simp_all
  obtain ⟨rfl, rfl⟩ := trodVars_none hV
  have lt0 : ∀ x ∈ p0, x.block < W.heap.size := by obtain ⟨m, hm⟩ := h0; exact DataW.trod_lt m _ _ _ hm
  have hw0 : ∀ n ∈ d0.weights Tryd.prog 27, n ≤ reachBytes := fun n hn => by
    have := List.all_eq_true.1 hsz n (DataW.weights_mem_each (j := 0) (t := 27) (d := d0) rfl rfl n hn)
    simpa using this
  obtain ⟨ta, na, la, pa, tc, nc, lc, pc, ts, ns, lv, n, L, R, ra, rc, V, st, rfl, hG, hIn⟩ := open_gram (hval 0 27 v0 rfl rfl) h0 hw0
  obtain ⟨av, len2, cap2, rfl⟩ := okWide_slice Tryd.underlying24 (hval 1 24 v1 rfl rfl)
  have lt2 : ∀ x ∈ p1, x.block < W.heap.size := by obtain ⟨m, hm⟩ := h2; exact DataW.trod_lt m _ _ _ hm
  obtain ⟨l, rfl, hl, hnv, hll⟩ := open_listS hsz (j := 1) rfl rfl h2
  have hT := tab_of_laid hL
  clear hA0 hval0
  refine (exact_core ta na la pa tc nc lc pc ts ns lv n L R ra rc V st W ts.length ns.length lv.length ⟨rfl, rfl, rfl⟩ hG hIn.tnil hIn.lnil (by have := hIn.tn; omega) (by have := hIn.nn; omega) (by have := hIn.pn; omega) (fun t ht => (hIn.lvl t ht).2) hIn.nsz hT (heap_pos hT) av cap2 l hl hll).mono fun e W' ⟨he, hg⟩ => ?_
  subst he
  have bel := grown_below0 hg
  exact ⟨_, rfl, _, _, _, [], _, [], hW', trodAll_mk1 (shut_bool Tryd.underlying4 _), trodAll_cons_mk (Below.trod laidOut (by kernel_rfl) (of_decide_eq_true (by kernel_rfl)) h0 bel lt0) (trodAll_cons_mk (Below.trod laidOut (by kernel_rfl) (of_decide_eq_true (by kernel_rfl)) h2 bel lt2) trodAll_mk0), rfl, bel.frame _, fun h => by cases h⟩

theorem firstExact_holds : Rows.FirstExactSaid :=
  OpenClaim.holds_of_wide 3 Tryd.f3 rfl rfl rfl rfl rfl rfl rfl ⟨rfl, rfl, rfl, rfl, rfl⟩ rfl rfl rfl rfl rfl (by kernel_rfl) Tryd.func3 (by kernel_rfl)
    (of_decide_eq_true (by kernel_rfl)) (by unfold Func.isWrapper; first | (rw [if_pos (by decide +kernel)]; kernel_rfl) | (rw [if_neg (by decide +kernel)]; exact ⟨rfl, rfl⟩))
    (fun os started H enc _ => exact_lifted os started H enc)

end Go.Proofs.YtdhojilmgnodeaaDoor
