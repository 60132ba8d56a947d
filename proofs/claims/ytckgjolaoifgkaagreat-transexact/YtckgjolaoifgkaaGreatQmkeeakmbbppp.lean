import Derived.Test.YtckgjolaoifgkaaGreatRows
import Derived.Test.YtckgjolaoifgkaaGreatQgfbpfnkpgocg
import Derived.Test.YtckgjolaoifgkaaGreatQfolhaghjjaap
import Derived.Test.YtckgjolaoifgkaaGreatQiaacfpdgecen
import Derived.Test.YtckgjolaoifgkaaGreatQakjkggbohpoc
import Derived.Test.YtckgjolaoifgkaaGreatQbldfmkfimjpl

/-
  trans: what the laws' theorems share.
-/
namespace Go.Proofs.YtckgjolaoifgkaaGreat.J
open Go.ChangeShapes Go.WideShapes Go.ChangeAt Go.RowKit Go.Deep

theorem own : ownKnob Tryz.prog.godebug = none := by kernel_rfl
theorem laidOut : laidOutB Tryz.prog = true := by kernel_rfl

end Go.Proofs.YtckgjolaoifgkaaGreat.J

/-
  trans: the law TransExact, walked.
-/
namespace Go.Proofs.YtckgjolaoifgkaaGreat.J
open Go.RowKit Go.Maps Go.Shelf

attribute [local go_sem] Oper.semAt_some

/-- The transitions that were told, or none. -/
def ListOut (l : List It) (ec : Int) (X : World) (e : Ending) (y : World) : Prop := ∃ (a : Option Addr) (c : Nat), e = .returned (.tuple #[.slice a l.length c, .int .i64 ec]) ∧ y.ownsRow X.heap.size 39 2 (.slice a l.length c) l.length (itsV l) ∧ X.grownBy y none
/-- The lists that were told, or none. -/
def DirOut (K : Nat) (Q : Nat → List Int) (ec : Int) (X : World) (e : Ending) (y : World) : Prop := ∃ (a : Option Addr) (c : Nat) (ua : Nat → Option Addr) (uc : Nat → Nat), e = .returned (.tuple #[.slice a K c, .int .i64 ec]) ∧ (K = 0 ∨ ∃ rb, a = some ⟨rb, 0, none⟩ ∧ X.heap.size ≤ rb ∧ ValAt y rb K 24 (fun k => .slice (ua k) (Q k).length (uc k))) ∧ (∀ k, k < K → y.ownsRow X.heap.size 3 1 (.slice (ua k) (Q k).length (uc k)) (Q k).length (intV (Q k))) ∧ X.grownBy y none
/-- The document's lists. -/
def LsOut (K : Nat) (Q : Nat → List Int) (ec : Int) (X : World) (e : Ending) (y : World) : Prop := ∃ (a : Option Addr) (c : Nat) (ua : Nat → Option Addr) (uc : Nat → Nat), e = .returned (.tuple #[.slice a K c, .int .i64 ec]) ∧ LsAt y a K Q ua uc ∧ X.grownBy y none

section
variable (ta na la pa : Option Addr) (tc nc lc pc : Nat) (ts : List (ByteArray × Int)) (ns : List ByteArray) (lv : List Int) (n : Nat) (L : Nat → Int) (R : Nat → List Int) (ra : Nat → Option Addr) (rc : Nat → Nat) (V : Nat → Int) (st : Int) (w : World) (tn nn ln : Nat) (hlen : ts.length = tn ∧ ns.length = nn ∧ lv.length = ln) (hG : GAt w ta na la pa tc nc lc pc ts ns lv n L R ra rc V)
include hlen hG
set_option maxRecDepth 100000 in
set_option maxHeartbeats 8000000 in
theorem texact_any (hnt : ta = none → tn = 0 ∧ tc = 0) (hnl : la = none → ln = 0 ∧ lc = 0) (h1 : tn * 24 ≤ 140737488355328) (h2 : nn * 16 ≤ 140737488355328) (h4 : n * 40 ≤ 140737488355328)
    (l : List It) (Q : Nat → List Int) (ec : Int) (hlb : l.length ≤ 33280) (hQ : ∀ k, (Q k).length ≤ 131)
    (hLI : ∀ X, w.grownBy X none → Calls Tryz.prog 8 #[.agg #[.slice ta tn tc, .slice na nn nc, .slice la ln lc, .int .i64 st, .slice pa n pc]] X fun e y => ListOut l ec X e y)
    (hDI : ∀ X, w.grownBy X none → Calls Tryz.prog 9 #[.agg #[.slice ta tn tc, .slice na nn nc, .slice la ln lc, .int .i64 st, .slice pa n pc]] X fun e y => DirOut l.length Q ec X e y)
    (hRL : ∀ X ta' na' la' pa' tc' nc' lc' pc' ra' rc', GAt X ta' na' la' pa' tc' nc' lc' pc' ts ns lv n L R ra' rc' V → Calls Tryz.prog 6 #[.agg #[.slice ta' tn tc', .slice na' nn nc', .slice la' ln lc', .int .i64 st, .slice pa' n pc']] X fun e y => ListOut l ec X e y)
    (hRD : ∀ X ta' na' la' pa' tc' nc' lc' pc' ra' rc', GAt X ta' na' la' pa' tc' nc' lc' pc' ts ns lv n L R ra' rc' V → Calls Tryz.prog 7 #[.agg #[.slice ta' tn tc', .slice na' nn nc', .slice la' ln lc', .int .i64 st, .slice pa' n pc']] X fun e y => LsOut l.length Q ec X e y) :
    Calls Tryz.prog 3 #[.agg #[.slice ta tn tc, .slice na nn nc, .slice la ln lc, .int .i64 st, .slice pa n pc]] w fun e w' => e = .returned (.bool true) ∧ w.grownBy w' none := by
  have HLI := show Hid _ from hLI
  have HDI := show Hid _ from hDI
  have HRL := show Hid _ from hRL
  have HRD := show Hid _ from hRD
  have HQB : Hid (∀ k, (Q k).length ≤ 131) := hQ
  have HCP : Hid (∀ X, w.grownBy X none → Calls Tryz.prog 5 #[.agg #[.slice ta tn tc, .slice na nn nc, .slice la ln lc, .int .i64 st, .slice pa n pc]] X fun e w' => ∃ ta' na' la' pa' tc' nc' lc' pc' ra' rc', e = .returned (.agg #[.slice ta' tn tc', .slice na' nn nc', .slice la' ln lc', .int .i64 st, .slice pa' n pc']) ∧ GAt w' ta' na' la' pa' tc' nc' lc' pc' ts ns lv n L R ra' rc' V ∧ X.grownBy w' none) := fun X hX => by
    refine (rcopy_any ta na la pa tn nn ln n tc nc lc pc st ts ns lv L R ra rc V X hlen (hG.kept hX) hnt hnl h1 h2 h4).mono ?_
    rintro e y ⟨ta', na', la', pa', tc', nc', lc', pc', ra', rc', rfl, hg', _, _, _, hg⟩
    exact ⟨ta', na', la', pa', tc', nc', lc', pc', ra', rc', rfl, hg', hg⟩
  have HSM : Hid (∀ X ta' na' la' pa' tc' nc' lc' pc' ra' rc', w.grownBy X none → GAt X ta' na' la' pa' tc' nc' lc' pc' ts ns lv n L R ra' rc' V → Calls Tryz.prog 11 #[.agg #[.slice ta tn tc, .slice na nn nc, .slice la ln lc, .int .i64 st, .slice pa n pc], .agg #[.slice ta' tn tc', .slice na' nn nc', .slice la' ln lc', .int .i64 st, .slice pa' n pc']] X fun e w' => e = .returned (.bool true) ∧ X.grownBy w' none) := fun X ta' na' la' pa' tc' nc' lc' pc' ra' rc' hX hg' => by
    have := rsame_any (st := st) (st' := st) (hG.kept hX) hg' true ⟨fun _ => ⟨rfl, rfl, rfl, rfl, rfl, fun i hi => ⟨rfl, rfl, rfl⟩⟩, fun _ => rfl⟩
    rwa [hlen.1, hlen.2.1, hlen.2.2] at this
  obtain ⟨K, hK⟩ : ∃ k, k = l.length := ⟨_, rfl⟩
  have HK : Hid (K = l.length) := hK
  rw [← hK] at hlb
  have HLS : Hid (∀ X a1 a2 c1 c2 u1 u2 k1 k2, LsAt X a1 K Q u1 k1 → LsAt X a2 K Q u2 k2 → Calls Tryz.prog 10 #[.slice a1 K c1, .slice a2 K c2] X fun e y => e = .returned (.bool true) ∧ X.grownBy y none) := fun X a1 a2 c1 c2 u1 u2 k1 k2 g1 g2 => lists_same a1 a2 c1 c2 K Q u1 u2 k1 k2 X g1 g2 (by omega) (fun i => by have := hQ i; omega)
  have HX0 : Hid (PhAt w (w.alloc (.cells #[.slice ta tn tc, .slice na nn nc, .slice la ln lc, .int .i64 st, .slice pa n pc] 27)) w.heap.size #[.slice ta tn tc, .slice na nn nc, .slice la ln lc, .int .i64 st, .slice pa n pc]) := ⟨World.grownBy_alloc _ _ none, heap_alloc_last w _⟩
  have hee : (ec != ec) = false := bne_self_eq_false _
  have hkk : ((K : Int) != (K : Int)) = false := bne_self_eq_false _
  have hkk2 : (K != K) = false := bne_self_eq_false _
  have hnq := neq_trans
  obtain ⟨i5, hi5, hw0, hw1, hw2⟩ := info_parts infoInt
  clear hLI hDI hRL hRD hlen hG hnt hnl h1 h2 h4 hQ hK
  go_enter Tryz.func3, Tryz.ntmps3
  go_wp2_with fail
  refine Calls.mono (awake_any _) ?_
  rintro e w1 ⟨rfl, hg1⟩
  have HX1 : Hid (PhAt w w1 w.heap.size #[.slice ta tn tc, .slice na nn nc, .slice la ln lc, .int .i64 st, .slice pa n pc]) := HX0.out.kept hg1
  clear hg1 HX0
  obtain ⟨k0, k1, k2, k3, k4⟩ := HX1.out.cells
  go_wp2_with fail
  refine Calls.mono (HCP.out _ HX1.out.grown) ?_
  rintro e w2 ⟨ta', na', la', pa', tc', nc', lc', pc', ra', rc', rfl, hg', hg2⟩
  obtain ⟨gb, hgb⟩ : ∃ b, b = w2.heap.size := ⟨_, rfl⟩
  obtain ⟨W, hW⟩ : ∃ W, W = w2.alloc (.cells #[.slice ta' tn tc', .slice na' nn nc', .slice la' ln lc', .int .i64 st, .slice pa' n pc'] 27) := ⟨_, rfl⟩
  have HWE := show Hid _ from hW
  have HGE := show Hid _ from hgb
  have hgW : w2.grownBy W none := by rw [hW]; exact World.grownBy_alloc _ _ none
  have HXW : Hid (PhAt w W w.heap.size #[.slice ta tn tc, .slice na nn nc, .slice la ln lc, .int .i64 st, .slice pa n pc]) := HX1.out.kept (grown_trans hg2 hgW)
  have HBW : Hid (W.heap[gb]? = some (.cells #[.slice ta' tn tc', .slice na' nn nc', .slice la' ln lc', .int .i64 st, .slice pa' n pc'] 27 (0, 0))) := by rw [hW, hgb]; exact heap_alloc_last w2 _
  have HGW : Hid (GAt W ta' na' la' pa' tc' nc' lc' pc' ts ns lv n L R ra' rc' V) := hg'.kept hgW
  have HGC : Hid (∀ Y, W.grownBy Y none → Y.cell? ⟨gb, 0, none⟩ = some (.slice ta' tn tc') ∧ Y.cell? ⟨gb, 1, none⟩ = some (.slice na' nn nc') ∧ Y.cell? ⟨gb, 2, none⟩ = some (.slice la' ln lc') ∧ Y.cell? ⟨gb, 3, none⟩ = some (.int .i64 st) ∧ Y.cell? ⟨gb, 4, none⟩ = some (.slice pa' n pc')) := fun Y hY => by
    have h := box_kept HBW.out hY
    exact ⟨by rw [cell_of_row _ _ _ _ _ _ h]; rfl, by rw [cell_of_row _ _ _ _ _ _ h]; rfl, by rw [cell_of_row _ _ _ _ _ _ h]; rfl, by rw [cell_of_row _ _ _ _ _ _ h]; rfl, by rw [cell_of_row _ _ _ _ _ _ h]; rfl⟩
  obtain ⟨j0, j1, j2, j3, j4⟩ := HGC.out W (grown_refl _ _)
  rw [HWE.out, HGE.out] at j0 j1 j2 j3 j4
  clear hg' hg2 hgW hW hgb HX1 HCP k0 k1 k2 k3 k4
  go_wp2_with fail
  rw [← HWE.out, ← HGE.out]
  clear j0 j1 j2 j3 j4
  refine Calls.mono (HRL.out W ta' na' la' pa' tc' nc' lc' pc' ra' rc' HGW.out) ?_
  rintro e w3 ⟨wa, wc, rfl, ho3, hg3⟩
  rw [← HK.out]
  have HG3 : Hid (W.grownBy w3 none) := hg3
  have HI3 : Hid (∀ Y, w3.grownBy Y none → ItsAt Y wa l) := fun Y hY => (ItsAt.ofT ho3).kept hY
  clear ho3 hg3 HWE HGE HRL
  obtain ⟨j0, j1, j2, j3, j4⟩ := HGC.out w3 HG3.out
  go_wp2_with fail
  refine Calls.mono (HRD.out w3 ta' na' la' pa' tc' nc' lc' pc' ra' rc' (HGW.out.kept HG3.out)) ?_
  rintro e P ⟨da, dc, du, dv, rfl, hLs, hg4⟩
  rw [← HK.out] at hLs ⊢
  have HGP : Hid (W.grownBy P none) := grown_trans HG3.out hg4
  have HIP : Hid (∀ Y, P.grownBy Y none → ItsAt Y wa l) := fun Y hY => HI3.out Y (grown_trans hg4 hY)
  have HLP : Hid (∀ Y, P.grownBy Y none → LsAt Y da K Q du dv) := fun Y hY => hLs.kept hY
  have HXP : Hid (PhAt w P w.heap.size #[.slice ta tn tc, .slice na nn nc, .slice la ln lc, .int .i64 st, .slice pa n pc]) := HXW.out.kept HGP.out
  clear hLs hg4 HI3 HG3 HRD j0 j1 j2 j3 j4 HXW
  go_wp2_with fail
  go_loopg [9] 2 (fun gk v9 wr => ∃ t : Nat, t ≤ 2 ∧ gk = 2 - t ∧ v9 = .int .i64 t ∧ P.grownBy wr none)
  case atStart => exact ⟨0, by omega, rfl, rfl, grown_refl _ _⟩
  case round =>
    obtain ⟨t, ht, hgt, rfl, hg⟩ := hrel
    have HGT : Hid (gk = 2 - t) := hgt
    have HG : Hid (P.grownBy wr none) := hg
    have HXR : Hid (PhAt w wr w.heap.size #[.slice ta tn tc, .slice na nn nc, .slice la ln lc, .int .i64 st, .slice pa n pc]) := HXP.out.kept hg
    clear hgt hg
    obtain ⟨k0, k1, k2, k3, k4⟩ := HXR.out.cells
    by_cases hlt : t < 2
    · have hid : decide (t < 2) = true := decide_eq_true hlt
      have hid2 : decide ((t : Int) < 2) = true := decide_eq_true (by omega)
      generalize wr = W0 at *
      go_wp2_with fail
      refine Calls.mono (HLI.out _ HXR.out.grown) ?_
      rintro e w4 ⟨la4, lc4, rfl, ho4, hg4⟩
      rw [← HK.out] at ho4 ⊢
      have HO4 : Hid (w4.ownsRow W0.heap.size 39 2 (.slice la4 K lc4) K (itsV l)) := ho4
      have HG4 : Hid (W0.grownBy w4 none) := hg4
      clear ho4 hg4 k0 k1 k2 k3 k4
      obtain ⟨k0, k1, k2, k3, k4⟩ := (HXR.out.kept HG4.out).cells
      go_wp2_with fail
      refine Calls.mono (HDI.out _ (grown_trans HXR.out.grown HG4.out)) ?_
      rintro e w5 ⟨a5, c5, ua, uc, rfl, hv5, hr5, hg5⟩
      rw [← HK.out] at hv5 hr5 ⊢
      have HG5 : Hid (W0.grownBy w5 none) := grown_trans HG4.out hg5
      have HO5 : Hid (w5.ownsRow W0.heap.size 39 2 (.slice la4 K lc4) K (itsV l)) := keep0 HO4.out hg5
      have HV5 : Hid (K = 0 ∨ ∃ rb, a5 = some ⟨rb, 0, none⟩ ∧ W0.heap.size ≤ rb ∧ ValAt w5 rb K 24 (fun k => .slice (ua k) (Q k).length (uc k))) := by
        rcases hv5 with h | ⟨rb, h1, h2, h3⟩
        · exact .inl h
        · exact .inr ⟨rb, h1, Nat.le_trans HG4.out.size h2, h3⟩
      have HR5 : Hid (∀ k, k < K → w5.ownsRow W0.heap.size 3 1 (.slice (ua k) (Q k).length (uc k)) (Q k).length (intV (Q k))) := fun k hk => owns_base (hr5 k hk) HG4.out.size
      have HL5 : Hid (LsAt w5 a5 K Q ua uc) := by
        refine ⟨?_, fun i hi => ints_ofT (HR5.out i hi)⟩
        rcases HV5.out with h | ⟨rb, h1, _, h3⟩
        · exact .inl h
        · exact .inr ⟨rb, h1, fun i hi => h3.cell i hi⟩
      clear hv5 hr5 hg5 k0 k1 k2 k3 k4 HG4 HO4
      go_wp2_with fail
      refine Calls.mono (HLS.out w5 a5 da c5 dc ua du uc dv HL5.out (HLP.out w5 (grown_trans HG.out HG5.out))) ?_
      rintro e w6 ⟨rfl, hg6⟩
      have HG6 : Hid (W0.grownBy w6 none) := grown_trans HG5.out hg6
      have HO6 : Hid (w6.ownsRow W0.heap.size 39 2 (.slice la4 K lc4) K (itsV l)) := keep0 HO5.out hg6
      have HV6 : Hid (K = 0 ∨ ∃ rb, a5 = some ⟨rb, 0, none⟩ ∧ W0.heap.size ≤ rb ∧ ValAt w6 rb K 24 (fun k => .slice (ua k) (Q k).length (uc k))) := by
        rcases HV5.out with h | ⟨rb, h1, h2, h3⟩
        · exact .inl h
        · exact .inr ⟨rb, h1, h2, h3.kept hg6⟩
      have HR6 : Hid (∀ k, k < K → w6.ownsRow W0.heap.size 3 1 (.slice (ua k) (Q k).length (uc k)) (Q k).length (intV (Q k))) := fun k hk => keep0 (HR5.out k hk) hg6
      clear hg6 HO5 HV5 HR5 HL5 HG5
      by_cases hK0 : K = 0
      · subst hK0
        clear HV6 HO6 HR6
        go_wp2_with fail
        go_loopg [15] 1 (fun gk v15 wr => v15 = .int .i64 0 ∧ gk = 1 ∧ wr = w6)
        case atStart => exact ⟨rfl, rfl, rfl⟩
        case round =>
          obtain ⟨rfl, _, rfl⟩ := hrel
          go_wp2_with fail
          go_roundg (2 - (t + 1))
          case measure => have := HGT.out; omega
          case rel => exact ⟨t + 1, by omega, rfl, by go_num, grown_trans HG.out HG6.out⟩
      · have HK0 : Hid (¬ K = 0) := hK0
        obtain ⟨rb, rfl, hrb, hv⟩ : ∃ rb, a5 = some ⟨rb, 0, none⟩ ∧ W0.heap.size ≤ rb ∧ ValAt w6 rb K 24 (fun k => .slice (ua k) (Q k).length (uc k)) := by
          rcases HV6.out with h | h
          · exact absurd h hK0
          · exact h
        obtain ⟨gl, lcur, rfl, hgl, hgB, hlc⟩ : ∃ gl lcur, la4 = some ⟨gl, 0, none⟩ ∧ w6.heap[gl]? = some (.cells lcur 39 (0, 0)) ∧ W0.heap.size ≤ gl ∧ ∀ j u, (itsV l)[j]? = some u → lcur[j]? = some u := by
          rcases HO6.out.2 with ⟨_, h⟩ | ⟨g, cap, cur, h1, hB, hh, _, _, hs, ht⟩
          · exact absurd h hK0
          · simp only [Value.slice.injEq] at h1
            refine ⟨g, cur, h1.1, hh, hB, fun j u hu => ?_⟩
            rw [← ht, List.getElem?_take] at hu
            split at hu
            · simpa using hu
            · cases hu
        have HE6 : Hid (ExT W0 w6 gl rb K 0 0 l Q ua uc lcur ((List.range K).map fun k => Value.slice (ua k) (Q k).length (uc k)).toArray) :=
          ⟨HG6.out, hgl, hv, fun j _ hj => ⟨hlc _ _ (itsV_at l j (by rw [← HK.out]; exact hj)).1, hlc _ _ (itsV_at l j (by rw [← HK.out]; exact hj)).2⟩, fun j _ hj => by simp [hj], fun j _ hj => ⟨_, HR6.out j hj⟩, hgB, hrb⟩
        clear hgl hgB hlc hrb hv HV6 HO6 HR6 hK0 HG6
        go_wp2_with fail
        go_loopg [15] K (fun gk v15 wr => ∃ (k : Nat) (lcur dcur : Array Value), k ≤ K ∧ gk = K - k ∧ v15 = .int .i64 k ∧ ExT W0 wr gl rb K k k l Q ua uc lcur dcur)
        case atStart => exact ⟨0, _, _, Nat.zero_le _, rfl, rfl, HE6.out⟩
        case round =>
          obtain ⟨k, lcur, dcur, hk, hgk, rfl, hEx⟩ := hrel
          have HGK : Hid (gk = K - k) := hgk
          have HEX : Hid (ExT W0 wr gl rb K k k l Q ua uc lcur dcur) := hEx
          clear hgk hEx HE6
          by_cases hkt : k < K
          · have hkd : decide (k < K) = true := decide_eq_true hkt
            have hk0 : (0 : Int) ≤ (k : Int) := by omega
            have hk1 : (k : Int) < (K : Int) := by omega
            have hkl : k < l.length := by rw [← HK.out]; exact hkt
            obtain ⟨c0, c1⟩ := HEX.out.cellL (Nat.le_refl _) hkt
            obtain ⟨tb, to_, hta, c2, c3⟩ := (HIP.out wr (grown_trans HG.out HEX.out.grown)).cellAt hkl
            subst hta
            obtain ⟨x, hx⟩ : ∃ x, x = l.getD k (0, 0) := ⟨_, rfl⟩
            rw [← hx] at c0 c1 c2 c3
            obtain ⟨p, d⟩ := x
            simp only at c0 c1 c2 c3
            have hpp : (p == p) = true := beq_self_eq_true _
            have hdd : (d == d) = true := beq_self_eq_true _
            clear hx hkl
            have HNX : Hid (∀ q, ExT W0 (((wr.drewN q).setCell ⟨gl, k * 2, none⟩ (.int .i64 (-9))).setCell ⟨gl, k * 2 + 1, none⟩ (.int .i64 0)) gl rb K (k + 1) k l Q ua uc ((lcur.setIfInBounds (k * 2) (.int .i64 (-9))).setIfInBounds (k * 2 + 1) (.int .i64 0)) dcur) := fun q => (HEX.out.kept (grown_drewN wr q)).setL
            have ff := HEX.out.freeL
            obtain ⟨D, hD⟩ : ∃ d, d = (Q k).length := ⟨_, rfl⟩
            have hDb : D ≤ 131 := by rw [hD]; exact HQB.out k
            obtain ⟨uk, huk⟩ : ∃ u, u = ua k := ⟨_, rfl⟩
            obtain ⟨ck, hck⟩ : ∃ u, u = uc k := ⟨_, rfl⟩
            have HDC : Hid (∀ X k1 lcur dcur, ExT W0 X gl rb K k1 k l Q ua uc lcur dcur → X.cell? ⟨rb, k, none⟩ = some (.slice uk D ck) ∧ Like1 X W0.heap.size (.slice uk D ck) D) := fun X k1 lcur dcur h => by
              rw [hD, huk, hck]
              exact ⟨h.cellD (Nat.le_refl _) hkt, h.rows k (Nat.le_refl _) hkt⟩
            clear hD huk hck
            go_wp2_with fail
            go_quiet (fail)
            go_wp2_with fail
            go_loopg [16] D (fun gk v16 wr => ∃ (j : Nat) (lcur dcur : Array Value), j ≤ D ∧ gk = D - j ∧ v16 = .int .i64 j ∧ ExT W0 wr gl rb K (k + 1) k l Q ua uc lcur dcur)
            case atStart => exact ⟨0, _, _, Nat.zero_le _, rfl, rfl, HNX.out _⟩
            case round =>
              obtain ⟨j, lcur2, dcur2, hj, hgj, rfl, hE2⟩ := hrel
              have HGJ : Hid (gk = D - j) := hgj
              have HE2 : Hid (ExT W0 wr gl rb K (k + 1) k l Q ua uc lcur2 dcur2) := hE2
              obtain ⟨d0, hlk⟩ := HDC.out _ _ _ _ hE2
              clear hgj hE2
              by_cases hjt : j < D
              · have hjd : decide (j < D) = true := decide_eq_true hjt
                have hj0 : (0 : Int) ≤ (j : Int) := by omega
                have hj1 : (j : Int) < (D : Int) := by omega
                obtain ⟨g, c, u0, gcur, he, hBg, e0, ef, hblk⟩ := hlk.at hjt
                simp only [Value.slice.injEq] at he
                obtain ⟨rfl, _, rfl⟩ := he
                have HN2 : Hid (ExT W0 (wr.setCell ⟨g, j, none⟩ (.int .i64 (-9))) gl rb K (k + 1) k l Q ua uc lcur2 dcur2) := HE2.out.turn (grown_setCell _ _ _) (.set _ _ _ _) hblk hBg
                clear hlk hBg hblk
                go_wp2_with fail
                go_roundg (D - (j + 1))
                case measure => have := HGJ.out; omega
                case rel => exact ⟨j + 1, lcur2, dcur2, by omega, rfl, by go_num, HN2.out⟩
              · have hjD : D = j := by omega
                subst hjD
                have hjd : decide (D < D) = false := decide_eq_false (by omega)
                obtain ⟨xs, hxs⟩ := hlk
                have HXS : Hid (wr.ownsRow W0.heap.size 3 1 (.slice uk D ck) D xs) := hxs
                have HSZ : Hid (W0.heap.size ≤ (wr.alloc (.cells #[.int .i64 (-8)] 3)).heap.size) := (HE2.out.kept (World.grownBy_alloc wr (.cells #[.int .i64 (-8)] 3) none)).grown.size
                clear hxs
                go_wp2_with (at_builtin; refine wpList_append_like _ rfl (.tmp 106) (.tmp 107) 24 rfl W0.heap.size 3 i5 (.int .i64 0) 1 8 Tryz.underlying24 hi5 hw0 hw1 hw2 rfl (by decide) (.slice uk D ck) D xs rfl (keep0 HXS.out (World.grownBy_alloc wr (.cells #[.int .i64 (-8)] 3) none)) ⟨wr.heap.size, 0, none⟩ 1 1 [.int .i64 (-8)] rfl rfl (World.news_of_block (heap_alloc_last wr _)) (by simp [Value.oneCell']) (by unfold maxLen; omega) (by omega) HSZ.out ?_)
                intro a9 c9 wC hgC hsC
                have hV := (HE2.out.kept (World.grownBy_alloc wr (.cells #[.int .i64 (-8)] 3) none)).more (keep0 HXS.out (World.grownBy_alloc wr (.cells #[.int .i64 (-8)] 3) none)) hgC hsC
                have f0 := (HDC.out _ _ _ _ hV).1
                have f1 := hV.freeD k
                have HN3 := show Hid _ from hV.setD (u := .slice a9 (D + 1) c9)
                clear hV hgC hsC d0
                go_wp2_with fail
                go_roundg (K - (k + 1))
                case measure => have := HGK.out; omega
                case rel => exact ⟨k + 1, _, _, by omega, rfl, by go_num, HN3.out⟩
          · have hkK : K = k := by omega
            subst hkK
            have hkd : decide (K < K) = false := decide_eq_false (by omega)
            go_wp2_with fail
            go_roundg (2 - (t + 1))
            case measure => have := HGT.out; omega
            case rel => exact ⟨t + 1, by omega, rfl, by go_num, grown_trans HG.out HEX.out.grown⟩
    · have ht2 : t = 2 := by omega
      subst ht2
      obtain ⟨j0, j1, j2, j3, j4⟩ := HGC.out wr (grown_trans HGP.out HG.out)
      go_wp2_with fail
      refine Calls.mono (HSM.out wr ta' na' la' pa' tc' nc' lc' pc' ra' rc' HXR.out.grown (HGW.out.kept (grown_trans HGP.out HG.out))) ?_
      rintro e w6 ⟨rfl, hg6⟩
      have HG6 : Hid (w.grownBy w6 none) := grown_trans HXR.out.grown hg6
      clear hg6 j0 j1 j2 j3 j4 k0 k1 k2 k3 k4
      go_wp2_with fail
      go_ret
      exact ⟨rfl, HG6.out⟩

theorem texact_core (hts : ∀ t ∈ ts, t.1.size ≤ 140737488355328) (hns : ∀ s ∈ ns, s.size ≤ 140737488355328) (hnt : ta = none → tn = 0 ∧ tc = 0) (hnl : la = none → ln = 0 ∧ lc = 0) (h1 : tn * 24 ≤ 140737488355328) (h2 : nn * 16 ≤ 140737488355328) (h4 : n * 40 ≤ 140737488355328) : Calls Tryz.prog 3 #[.agg #[.slice ta tn tc, .slice na nn nc, .slice la ln lc, .int .i64 st, .slice pa n pc]] w fun e w' => e = .returned (.bool true) ∧ w.grownBy w' none := by
  have bad : ∀ ec : Int, (ec = 1 ∨ ec = 11) → OfBad ta na la pa tc nc lc pc n st w tn nn ln ec → (∀ X ta' na' la' pa' tc' nc' lc' pc' ra' rc', GAt X ta' na' la' pa' tc' nc' lc' pc' ts ns lv n L R ra' rc' V → Calls Tryz.prog 14 #[.agg #[.slice ta' tn tc', .slice na' nn nc', .slice la' ln lc', .int .i64 st, .slice pa' n pc']] X fun e y => e = .returned (.tuple #[.agg #[.slice none 0 0, .int .i64 0, .int .i64 0], .int .i64 ec]) ∧ X.grownBy y none) → Calls Tryz.prog 3 #[.agg #[.slice ta tn tc, .slice na nn nc, .slice la ln lc, .int .i64 st, .slice pa n pc]] w fun e w' => e = .returned (.bool true) ∧ w.grownBy w' none := fun ec hec hO hR => by
    refine texact_any ta na la pa tc nc lc pc ts ns lv n L R ra rc V st w tn nn ln hlen hG hnt hnl h1 h2 h4 [] (fun _ => []) ec (by simp) (fun _ => by simp) (fun X hX => ?_) (fun X hX => ?_) (fun X ta' na' la' pa' tc' nc' lc' pc' ra' rc' hG' => ?_) (fun X ta' na' la' pa' tc' nc' lc' pc' ra' rc' hG' => ?_)
    · refine (listX_bad ta na la pa tc nc lc pc n st X tn nn ln ec hec (fun Y hY => hO Y (grown_trans hX hY))).mono ?_
      rintro e y ⟨rfl, hg⟩
      exact ⟨none, 0, rfl, World.ownsRow_nil _ _ _ _, hg⟩
    · refine (directX_bad ta na la pa tc nc lc pc n st X tn nn ln ec hec (fun Y hY => hO Y (grown_trans hX hY))).mono ?_
      rintro e y ⟨rfl, hg⟩
      exact ⟨none, 0, fun _ => none, fun _ => 0, rfl, .inl rfl, fun k hk => absurd hk (Nat.not_lt_zero _), hg⟩
    · refine (rlistD_bad ta' na' la' pa' tc' nc' lc' pc' n st X tn nn ln ec hec (fun Y hY => hR Y ta' na' la' pa' tc' nc' lc' pc' ra' rc' (hG'.kept hY))).mono ?_
      rintro e y ⟨rfl, hg⟩
      exact ⟨none, 0, rfl, World.ownsRow_nil _ _ _ _, hg⟩
    · refine (rdirectD_bad ta' na' la' pa' tc' nc' lc' pc' n st X tn nn ln ec hec (fun Y hY => hR Y ta' na' la' pa' tc' nc' lc' pc' ra' rc' (hG'.kept hY))).mono ?_
      rintro e y ⟨rfl, hg⟩
      exact ⟨none, 0, fun _ => none, fun _ => 0, rfl, ⟨.inl rfl, fun i hi => absurd hi (Nat.not_lt_zero _)⟩, hg⟩
  by_cases hc : closedOK ts ns lv st n L R V
  · have hM : MayOK tn nn n st L R true := by obtain ⟨rfl, rfl, rfl⟩ := hlen; exact mayOK_closed hc
    cases hau : autoF (GG tn n L R) (tn + nn) 256 with
    | none =>
      refine bad 11 (.inr rfl) (ofBad11 ta na la pa tc nc lc pc ts ns lv n L R ra rc V st w tn nn ln hlen hG hc hau) fun X ta' na' la' pa' tc' nc' lc' pc' ra' rc' hG' => ?_
      refine (rbuildOk ta' na' la' pa' tc' nc' lc' pc' ts ns lv n L R ra' rc' V st X tn nn ln hlen hG' hts hns hc).mono ?_
      rintro e y (⟨ks', es', _, _, _, _, hau', _⟩ | ⟨_, rfl, hg⟩)
      · have h9 := hau.symm.trans hau'
        cases h9
      · exact ⟨rfl, hg⟩
    | some p =>
      obtain ⟨ks, es⟩ := p
      have hA := autF hM.p0 hau
      obtain ⟨hO, hE⟩ := ofOk ta na la pa tc nc lc pc ts ns lv n L R ra rc V st w tn nn ln hlen hG hc hau
      have hlb : (trT tn es ks.length).length ≤ 33280 := by
        have h1 := trT_len (tn := tn) (c := 130) ks.length (fun q hq => (hE.each q hq).1)
        have h2 : ks.length * 130 ≤ 256 * 130 := Nat.mul_le_mul_right _ hE.le
        omega
      have hB : ∀ X ta' na' la' pa' tc' nc' lc' pc' ra' rc', GAt X ta' na' la' pa' tc' nc' lc' pc' ts ns lv n L R ra' rc' V → Calls Tryz.prog 14 #[.agg #[.slice ta' tn tc', .slice na' nn nc', .slice la' ln lc', .int .i64 st, .slice pa' n pc']] X fun e y => ∃ sa sc kv ev, e = .returned (.tuple #[.agg #[.slice sa ks.length sc, .int .i64 (askN es : Int), .int .i64 (ks.length : Int)], .int .i64 0]) ∧ AutP X.heap.size y (.slice sa ks.length sc) ks (elF es) kv ev ∧ X.grownBy y none := fun X ta' na' la' pa' tc' nc' lc' pc' ra' rc' hG' => by
        refine (rbuildOk ta' na' la' pa' tc' nc' lc' pc' ts ns lv n L R ra' rc' V st X tn nn ln hlen hG' hts hns hc).mono ?_
        rintro e y (⟨ks', es', sa, sc, kv, ev, hau', rfl, hAP, hg⟩ | ⟨hau', _⟩)
        · have h9 := hau.symm.trans hau'
          simp only [Option.some.injEq, Prod.mk.injEq] at h9
          obtain ⟨rfl, rfl⟩ := h9
          exact ⟨sa, sc, kv, ev, rfl, hAP, hg⟩
        · have h9 := hau.symm.trans hau'
          cases h9
      have hsy : ∀ q, q < ks.length → ∀ x ∈ es.getD q [], x.1 < tn + nn := fun q hq x hx => (hA.snd q hq x hx).1
      refine texact_any ta na la pa tc nc lc pc ts ns lv n L R ra rc V st w tn nn ln hlen hG hnt hnl h1 h2 h4 (trT tn es ks.length) (fun k => dirOf tn st es ((trT tn es ks.length).getD k (0, 0))) 0 hlb (fun k => dirOf_len hE.short) (fun X hX => ?_) (fun X hX => ?_) (fun X ta' na' la' pa' tc' nc' lc' pc' ra' rc' hG' => ?_) (fun X ta' na' la' pa' tc' nc' lc' pc' ra' rc' hG' => ?_)
      · exact listX_ok ta na la pa tc nc lc pc n st X tn nn ln ks es hE.le (fun q hq => (hE.each q hq).1) (fun Y hY => hO Y (grown_trans hX hY))
      · refine (directX_lo ta na la pa tc nc lc pc n st X tn nn ln ks es hE (fun Y hY => hO Y (grown_trans hX hY))).mono ?_
        rintro e y ⟨⟨rb, ua, uc, rfl, hv, hr, hg⟩, hlo⟩
        exact ⟨some ⟨rb, 0, none⟩, _, ua, uc, rfl, .inr ⟨rb, rfl, hlo _ _ _ _ rfl rb rfl, hv⟩, hr, hg⟩
      · exact rlistD_ok ta' na' la' pa' tc' nc' lc' pc' n st X tn nn ln ks.length (askN es : Int) hM.tmax hM.nmax ks es rfl hE hsy (fun Y hY => hB Y ta' na' la' pa' tc' nc' lc' pc' ra' rc' (hG'.kept hY))
      · exact rdirectD_ok ta' na' la' pa' tc' nc' lc' pc' n st X tn nn ln ks.length (askN es : Int) hM.tmax hM.nmax ks es rfl hE hsy (trT tn es ks.length) rfl hlb (fun Y hY => hB Y ta' na' la' pa' tc' nc' lc' pc' ra' rc' (hG'.kept hY))
  · exact bad 1 (.inl rfl) (ofBad1 ta na la pa tc nc lc pc ts ns lv n L R ra rc V st w tn nn ln hlen hG hc) fun X ta' na' la' pa' tc' nc' lc' pc' ra' rc' hG' => rbuildBad ta' na' la' pa' tc' nc' lc' pc' ts ns lv n L R ra' rc' V st X tn nn ln hlen hG' hts hns hc
end

end Go.Proofs.YtckgjolaoifgkaaGreat.J
