/-
  digraph: DigraphTurned.
-/
import Derived.Test.YtggonakdlloloaaDoorQhmkiddcnnnph
import Derived.Deep.RegionHeld3
import Derived.Deep.RegionLaw
import Derived.BigQuiet
namespace Go.Proofs.YtggonakdlloloaaDoor.J
open Go.RowKit Go.Maps Go.Shelf D

attribute [local go_sem] Oper.semAt_some

/-- Lists stay where another row of rows turns. -/
theorem CqP.beside {X Y : World} {B kb kc K b m : Nat} {Q : Nat → List Nat} {ua : Nat → Option Addr} {uc : Nat → Nat} {c : Nat → Value} (h : CqP X B (some ⟨kb, 0, none⟩) kc K Q ua uc) (hb : ValAt X b m 28 c) (hne : kb ≠ b) (hg : X.grownBy Y (some b)) : CqP Y B (some ⟨kb, 0, none⟩) kc K Q ua uc :=
  ⟨h.out.kept hg (.inr (by simpa [Value.ownBlock] using hne)), fun j hj => (h.inn j hj).kept hg (own_ne_val (h.inn j hj) hb (by decide)), h.sep⟩

set_option maxRecDepth 100000 in
set_option maxHeartbeats 8000000 in
theorem turned_core (w : World) (z by_ : Int) (hz : -9223372036854775808 ≤ z ∧ z ≤ 9223372036854775807) (hby : -9223372036854775808 ≤ by_ ∧ by_ ≤ 9223372036854775807) (pa : Option Addr) (pc pn : Nat) (P : List It) (hpn : pn = P.length) (hP : ItsAt w pa P) (hR : InR P) (qa : Option Addr) (qc qn : Nat) (P2 : List It) (hqn : qn = P2.length) (hP2 : ItsAt w qa P2) (hR2 : InR P2) (hT : B.Tab w) (h0 : 0 < w.heap.size) :
    Calls Tryd.prog 7 #[.int .i64 z, .slice pa pn pc, .slice qa qn qc, .int .i64 by_] w fun e w' => e = .returned (.bool true) ∧ w.grownBy w' none := by
  have HTB : Hid (∀ X, w.grownBy X none → Calls Tryd.prog 12 #[] X fun e w' => e = .returned (.bool true) ∧ X.grownBy w' none) := fun X hX => dawake_any X (tab_kept hT hX) (Nat.lt_of_lt_of_le h0 hX.size)
  have HT0 : Hid (∀ X, w.grownBy X none → B.Tab X ∧ 0 < X.heap.size) := fun X hX => ⟨tab_kept hT hX, Nat.lt_of_lt_of_le h0 hX.size⟩
  obtain ⟨n, hn⟩ : ∃ n, n = pickN z 40 + 1 := ⟨_, rfl⟩
  have HMD := show Hid _ from dmade_any w z hz.1 hz.2 n hn pa pc pn P hpn hP hR
  have hnb : n ≤ 40 := by
    have := pickN_lt z (show 0 < 40 by decide)
    omega
  have hn0 : 0 < n := by omega
  have HEL : Hid (∀ x, (mkL n n P (min pn 400) x).length ≤ 400) := fun x => Nat.le_trans (mkL_len _ _ _ _ _) (by omega)
  have HEN : Hid (∀ x, ∀ y ∈ mkL n n P (min pn 400) x, y < n) := fun x y hy => mkL_lt _ _ hn0 _ _ _ _ hy
  have HOL : Hid (∀ x, (mkL n 1024 P2 (min qn 400) x).length ≤ 400) := fun x => Nat.le_trans (mkL_len _ _ _ _ _) (by omega)
  have HON : Hid (∀ x, ∀ y ∈ mkL n 1024 P2 (min qn 400) x, y < 1024) := fun x y hy => mkL_lt _ _ (by decide) _ _ _ _ hy
  have HOW : Hid (∀ X, w.grownBy X none → Calls Tryd.prog 19 #[.int .i64 (n : Int), .slice qa qn qc] X fun e y => MadeTold X n (mkL n 1024 P2 (min qn 400)) e y) := fun X hX => down_any X n hn0 hnb qa qc qn P2 hqn (hP2.kept hX) hR2
  obtain ⟨E, hE⟩ : ∃ E, E = mkL n n P (min pn 400) := ⟨_, rfl⟩
  obtain ⟨O, hO⟩ : ∃ E, E = mkL n 1024 P2 (min qn 400) := ⟨_, rfl⟩
  rw [← hE] at HMD HEL HEN
  rw [← hO] at HOW HOL HON
  have HPK : Hid (∀ X, Calls Tryd.prog 15 #[.int .i64 by_, .int .i64 (n : Int)] X fun e w' => e = .returned (.int .i64 ((pickN by_ n : Nat) : Int)) ∧ w' = X) := fun X => dpick_any by_ hby.1 hby.2 n hn0 (by omega) X
  have hkn := pickN_lt by_ hn0
  obtain ⟨k, hke⟩ : ∃ v, v = pickN by_ n := ⟨_, rfl⟩
  rw [← hke] at HPK hkn
  obtain ⟨i0, hi0, hz0, hz1, hz2⟩ := info_parts infoInt
  obtain ⟨i1, hi1, hy0, hy1, hy2⟩ := info_parts infoRowsS
  clear hpn hP hR hT h0 hn hE hO hz hby hqn hP2 hR2 hke
  go_enter Tryd.func7, Tryd.ntmps7
  go_wp2_with fail
  refine Calls.mono HMD.out ?_
  rintro e w1 ⟨kb, ua, uc, rfl, hC, hg⟩
  have HLE : Hid (∀ X, w1.grownBy X none → LsAt X (some ⟨kb, 0, none⟩) n (fun i => intL (E i)) ua uc) := fun X hX => (hC.kept hX).ls
  have HNE : Hid (∀ i, i < n → ua i = none → (E i).length = 0 ∧ uc i = 0) := fun i hi e => (owns_bounds (hC.inn i hi)).2 e
  have HG1 := hidM hg
  have HOB := show Hid _ from HOW.out w1 hg
  clear hC hg HMD HOW
  go_wp2_with fail
  refine Calls.mono HOB.out ?_
  rintro e w2 ⟨ob, uo, co, rfl, hCo, hg2⟩
  have HLO : Hid (∀ X, w2.grownBy X none → LsAt X (some ⟨ob, 0, none⟩) n (fun i => intL (O i)) uo co) := fun X hX => (hCo.kept hX).ls
  have HNO : Hid (∀ i, i < n → uo i = none → (O i).length = 0 ∧ co i = 0) := fun i hi e => (owns_bounds (hCo.inn i hi)).2 e
  have HG2 := hidM hg2
  clear hCo hg2 HOB
  go_wp2_with fail
  refine Calls.mono (HPK.out _) ?_
  rintro e w2' ⟨rfl, hw2⟩
  have hw3 := hw2.symm
  subst hw3
  clear hw2 HPK
  go_wp2_with (at_make; first
    | (refine wpList_make_full _ rfl _ _ 22 rfl w2.heap.size 28 i1 (.slice none 0 0) 1 Tryd.underlying22 hi1 hy0 hy1 .i64 .i64 _ _ n rfl rfl (by simp) (by simp) (by rw [hy2]; omega) (by unfold maxLen; omega) (by simp) ?_; intro w3 hown3 hgrow3)
    | (refine wpList_make_full _ rfl _ _ 22 rfl w3.heap.size 28 i1 (.slice none 0 0) 1 Tryd.underlying22 hi1 hy0 hy1 .i64 .i64 _ _ n rfl rfl (by simp) (by simp) (by rw [hy2]; omega) (by unfold maxLen; omega) (by simp) ?_; intro w4 hown4 hgrow4)
    | fail)
  have hval3 : ValAt w3 w2.heap.size n 28 (fun _ => .slice none 0 0) := made_rowK (B := w2.heap.size) rfl (by simpa [Value.cells] using hown3)
  have hval4 : ValAt w4 w3.heap.size n 28 (fun _ => .slice none 0 0) := made_rowK (B := w3.heap.size) rfl (by simpa [Value.cells] using hown4)
  obtain ⟨fb, hfb⟩ : ∃ b, b = w2.heap.size := ⟨_, rfl⟩
  obtain ⟨pb, hpb⟩ : ∃ b, b = w3.heap.size := ⟨_, rfl⟩
  have hfp : fb ≠ pb := by have := hval3.lt; omega
  rw [← hfb] at hval3
  rw [← hpb] at hval4
  rw [← hfb, ← hpb]
  have HC0 : Hid (CqP w4 w2.heap.size (some ⟨fb, 0, none⟩) n n (fun _ => []) (fun _ => none) (fun _ => 0)) := (CqP.made hval3 (by omega) (by unfold maxLen; omega)).kept hgrow4
  have HV0 := hidM hval4
  have HG0 : Hid (w2.grownBy w4 none) := grown_trans hgrow3 hgrow4
  have HFP : Hid (fb ≠ pb) := hfp
  have HFB : Hid (w2.heap.size ≤ fb ∧ w2.heap.size ≤ pb) := ⟨by omega, by have := hgrow3.size; omega⟩
  clear hown3 hgrow3 hown4 hgrow4 hval3 hval4 hfb hpb hfp
  go_wp2_with fail
  go_loopg [15] n (fun gk v15 wr => ∃ (i : Nat) (Q : Nat → List Nat) (uf : Nat → Option Addr) (cf : Nat → Nat) (pv : Nat → Value), i ≤ n ∧ gk = n - i ∧ v15 = .int .i64 i ∧ CqP wr w2.heap.size (some ⟨fb, 0, none⟩) n n Q uf cf ∧ ValAt wr pb n 28 pv ∧ w2.grownBy wr none ∧ (∀ x, x < n → Q (tau n k x) = if x < i then flD n k E x 0 else []) ∧ (∀ x, x < n → pv (tau n k x) = if x < i then .slice (uo x) (O x).length (co x) else .slice none 0 0))
  case atStart => exact ⟨0, _, _, _, _, Nat.zero_le _, rfl, rfl, HC0.out, HV0.out, HG0.out, fun x _ => by simp, fun x _ => by simp⟩
  case round =>
    clear HC0 HV0 HG0
    obtain ⟨i, Q, uf, cf, pv, hi, hgk, rfl, hC, hV, hG, hQ, hPv⟩ := hrel
    have HGK : Hid (gk = n - i) := hgk
    have HC := hidM hC
    have HV := hidM hV
    have HG := hidM hG
    have HQ := hidM hQ
    have HPV := hidM hPv
    clear hgk hC hV hG hQ hPv
    by_cases hlt : i < n
    · have hid : decide (i < n) = true := decide_eq_true hlt
      have hi0' : (0 : Int) ≤ (i : Int) := by omega
      have hi1' : (i : Int) < (n : Int) := by omega
      have hjn := tau_lt (k := k) hn0 i
      have hjm : (((i : Int) + (k : Int)) % (n : Int)) = ((tau n k i : Nat) : Int) := by unfold tau; simp
      have hjt : (((i : Int) + (k : Int)).tmod (n : Int)) = ((tau n k i : Nat) : Int) := by rw [Int.tmod_eq_emod_of_nonneg (by omega)]; exact hjm
      obtain ⟨j, hj⟩ : ∃ v, v = tau n k i := ⟨_, rfl⟩
      rw [← hj] at hjn hjm hjt
      have HJ : Hid (j = tau n k i) := hj
      have hj0 : (0 : Int) ≤ (j : Int) := by omega
      have hj1 : (j : Int) < (n : Int) := by omega
      have hls := HLE.out wr (grown_trans HG2.out HG.out)
      obtain ⟨kb', hkb', c0⟩ : ∃ lk, (some ⟨kb, 0, none⟩ : Option Addr) = some ⟨lk, 0, none⟩ ∧ wr.cell? ⟨lk, i, none⟩ = some (.slice (ua i) (intL (E i)).length (uc i)) := by
        rcases hls.1 with h | ⟨lk, e, h⟩
        · omega
        · exact ⟨lk, e, h i hlt⟩
      have hkbe : kb = kb' := by simpa using hkb'
      subst hkbe
      rw [intL_length] at c0
      have HEI : Hid (∀ X, w2.grownBy X none → X.cell? ⟨kb, i, none⟩ = some (.slice (ua i) (E i).length (uc i)) ∧ ∀ m, m < (E i).length → ∃ rb ro, ua i = some ⟨rb, ro, none⟩ ∧ X.cell? ⟨rb, ro + m, none⟩ = some (.int .i64 (((E i).getD m 0 : Nat) : Int))) := fun X hX => by
        have hlsX := HLE.out X (grown_trans HG2.out hX)
        obtain ⟨kb2, hkb2, c2⟩ : ∃ lk, (some ⟨kb, 0, none⟩ : Option Addr) = some ⟨lk, 0, none⟩ ∧ X.cell? ⟨lk, i, none⟩ = some (.slice (ua i) (intL (E i)).length (uc i)) := by
          rcases hlsX.1 with h | ⟨lk, e, h⟩
          · omega
          · exact ⟨lk, e, h i hlt⟩
        have hkbe2 : kb = kb2 := by simpa using hkb2
        subst hkbe2
        rw [intL_length] at c2
        refine ⟨c2, fun m hm => ?_⟩
        rcases hlsX.2 i hlt with h2 | ⟨rb, ro, e2, h2⟩
        · have h3 := intL_length (E i)
          have h2' : intL (E i) = [] := h2
          rw [h2'] at h3
          simp at h3
          omega
        · refine ⟨rb, ro, e2, ?_⟩
          have h4 := h2 m (by rw [intL_length]; exact hm)
          rwa [intL_at] at h4
      obtain ⟨el, hel⟩ : ∃ v, v = (E i).length := ⟨_, rfl⟩
      have hell : el ≤ 400 := by rw [hel]; exact HEL.out i
      obtain ⟨ea, hea⟩ : ∃ v, v = ua i := ⟨_, rfl⟩
      obtain ⟨ec, hec⟩ : ∃ v, v = uc i := ⟨_, rfl⟩
      rw [← hel, ← hea, ← hec] at HEI
      rw [← hel, ← hea, ← hec] at c0
      have HELE : Hid (el = (E i).length) := hel
      have HQ0 : Hid (∀ x, x < n → Q (tau n k x) = if x < i then flD n k E x 0 else if x = i then flD n k E i el else []) := fun x hx => by
        rw [HQ.out x hx, flD_start E i el (by omega)]
        by_cases h1 : x < i
        · rw [if_pos h1, if_pos h1]
        · rw [if_neg h1, if_neg h1]; split <;> rfl
      clear hls hkb' hel hea hec hj HQ
      go_wp2_with fail
      go_loopg [17] el (fun gk v17 wr => ∃ (m : Nat) (zv : Int) (Q : Nat → List Nat) (uf : Nat → Option Addr) (cf : Nat → Nat), m ≤ el ∧ zv = (m : Int) - 1 ∧ gk = m ∧ v17 = .int .i64 zv ∧ CqP wr w2.heap.size (some ⟨fb, 0, none⟩) n n Q uf cf ∧ ValAt wr pb n 28 pv ∧ w2.grownBy wr none ∧ (∀ x, x < n → Q (tau n k x) = if x < i then flD n k E x 0 else if x = i then flD n k E i m else []))
      case atStart => exact ⟨el, (el : Int) - 1, Q, uf, cf, Nat.le_refl _, rfl, rfl, by go_num, HC.out, HV.out, HG.out, HQ0.out⟩
      case round =>
        clear HC HV HG HQ0 c0
        obtain ⟨m, zv, Q, uf, cf, hm, hzv, hgm, rfl, hC, hV, hG, hQ⟩ := hrel
        have HGM : Hid (gk = m) := hgm
        have HZV : Hid (zv = (m : Int) - 1) := hzv
        have HC := hidM hC
        have HV := hidM hV
        have HG := hidM hG
        have HQ := hidM hQ
        clear hgm hzv hC hV hG hQ
        by_cases hz0' : 0 ≤ zv
        · obtain ⟨m', rfl⟩ := Int.eq_ofNat_of_zero_le hz0'
          have hmm : m = m' + 1 := by have := HZV.out; omega
          subst hmm
          have hzd : decide ((0 : Int) ≤ (m' : Int)) = true := decide_eq_true (by omega)
          have hm0 : (0 : Int) ≤ (m' : Int) := by omega
          have hm1 : (m' : Int) < (el : Int) := by omega
          have hmE : m' < (E i).length := by rw [← HELE.out]; omega
          obtain ⟨c0, cE⟩ := HEI.out wr HG.out
          obtain ⟨rb, ro, hea, c1⟩ := cE m' (by omega)
          subst hea
          have htE : (E i).getD m' 0 ∈ E i := by rw [List.getD_eq_getElem?_getD, List.getElem?_eq_getElem hmE]; exact List.getElem_mem hmE
          have htn := HEN.out i _ htE
          have HFS : Hid (flD n k E i m' = flD n k E i (m' + 1) ++ [tau n k ((E i).getD m' 0), tau n k ((E i).getD m' 0)]) := flD_step E i m' hmE
          have hsn := tau_lt (k := k) hn0 ((E i).getD m' 0)
          obtain ⟨t, ht⟩ : ∃ v, v = (E i).getD m' 0 := ⟨_, rfl⟩
          rw [← ht] at c1 htn HFS hsn
          have hsm : (((t : Int) + (k : Int)) % (n : Int)) = ((tau n k t : Nat) : Int) := by unfold tau; simp
          have hst : (((t : Int) + (k : Int)).tmod (n : Int)) = ((tau n k t : Nat) : Int) := by rw [Int.tmod_eq_emod_of_nonneg (by omega)]; exact hsm
          have hswt : (IntKind.i64.wrap ((t : Int) + (k : Int))).tmod (n : Int) = ((tau n k t : Nat) : Int) := by
            have e : IntKind.i64.wrap ((t : Int) + (k : Int)) = (t : Int) + (k : Int) := by rw [IntKind.wrap_i64]; omega
            rw [e]; exact hst
          have hnz : ((n : Int) == 0) = false := beq_eq_false_iff_ne.2 (by omega)
          have hnz2 : (n == 0) = false := beq_eq_false_iff_ne.2 (by omega)
          have hnz3 : ¬ ((n : Int) = 0) := by omega
          have hnz4 : ¬ (n = 0) := by omega
          obtain ⟨u, hu⟩ : ∃ v, v = tau n k t := ⟨_, rfl⟩
          rw [← hu] at hsm hst hsn HFS hswt
          have hQJ : Q j = flD n k E i (m' + 1) := by
            rw [HJ.out, HQ.out i hlt, if_neg (by omega), if_pos rfl]
          obtain ⟨kb', kcap, hkb, hkcell⟩ := owns_at HC.out.out (by omega)
          simp only [Value.slice.injEq, Option.some.injEq, Addr.mk.injEq, and_true, true_and] at hkb
          obtain ⟨rfl, -⟩ := hkb
          have cj := hkcell j _ (rowsC_at _ _ _ hjn)
          obtain ⟨fa, hfa⟩ : ∃ a, a = uf j := ⟨_, rfl⟩
          obtain ⟨fc, hfc⟩ : ∃ a, a = cf j := ⟨_, rfl⟩
          obtain ⟨l, hl⟩ : ∃ m, m = (Q j).length := ⟨_, rfl⟩
          rw [← hfa, ← hfc, ← hl] at cj
          have hlb : l ≤ 800 := by
            rw [hl, hQJ]
            have h1 := flD_len (n := n) (k := k) E i (m' + 1)
            have h2 := HEL.out i
            omega
          generalize wr = V at *
          have HOWR : Hid (∀ Y, V.grownBy Y none → Y.ownsRow w2.heap.size 3 1 (.slice fa l fc) l (natV (Q j))) := fun Y hY => by
            have h1 := (HC.out.kept hY).inn j hjn
            rw [← hfa, ← hfc, ← hl] at h1
            exact h1
          have HPS : Hid (∀ Y, V.grownBy Y none → w2.heap.size ≤ Y.heap.size) := fun Y hY => Nat.le_trans HG.out.size hY.size
          have HFIN : Hid (∀ (Y W : World) (gg c : Nat), V.grownBy Y none → Y.grownBy W (Value.slice fa l fc).ownBlock → W.ownsRow w2.heap.size 3 1 (.slice (some ⟨gg, 0, none⟩) (l + 2) c) (l + 2) (natV (Q j) ++ natV [u, u]) → ((Value.slice fa l fc).ownBlock = some gg ∨ gg = Y.heap.size) → (W.cell? ⟨fb, j, none⟩ = some (.slice fa l fc) ∧ W.frozen? ⟨fb, j, none⟩ = false) ∧ CqP (W.setCell ⟨fb, j, none⟩ (.slice (some ⟨gg, 0, none⟩) (l + 2) c)) w2.heap.size (some ⟨fb, 0, none⟩) n n (updC Q j (Q j ++ [u, u])) (updC uf j (some ⟨gg, 0, none⟩)) (updC cf j c) ∧ ValAt (W.setCell ⟨fb, j, none⟩ (.slice (some ⟨gg, 0, none⟩) (l + 2) c)) pb n 28 pv ∧ w2.grownBy (W.setCell ⟨fb, j, none⟩ (.slice (some ⟨gg, 0, none⟩) (l + 2) c)) none) := fun Y W gg c hY hg ho hat => by
            have hq := HC.out.kept hY
            have hin := hq.inn j hjn
            rw [hfa, hfc, hl] at hg hat
            rw [hl] at ho
            obtain ⟨q1, q2⟩ := hq.addL (L := [u, u]) (ln := 2) rfl hjn hg ho hat
            rw [hfa, hfc, hl]
            have hs : W.grownBy (W.setCell ⟨fb, j, none⟩ (.slice (some ⟨gg, 0, none⟩) ((Q j).length + 2) c)) (some fb) := grown_setCell _ _ _
            have hpW : ValAt W pb n 28 pv := box_row (HV.out.kept hY) hin (by decide) hg
            exact ⟨q1, q2, hpW.at hs (fun e => HFP.out e.symm), grown_new (grown_row (grown_trans HG.out hY) hin (Nat.le_refl _) hg) hs HFB.out.1⟩
          have HQN : Hid (∀ x, x < n → updC Q j (Q j ++ [u, u]) (tau n k x) = if x < i then flD n k E x 0 else if x = i then flD n k E i m' else []) := fun x hx => by
            by_cases e : x = i
            · subst e
              rw [← HJ.out, updC_same, if_neg (by omega), if_pos rfl, hQJ, HFS.out]
            · have hne : tau n k x ≠ j := fun h => e (tau_inj hkn hx hlt (h.trans HJ.out))
              rw [updC_other _ _ hne, HQ.out x hx, if_neg e, if_neg e]
          obtain ⟨xs, hxs⟩ : ∃ xs, xs = natV (Q j) := ⟨_, rfl⟩
          rw [← hxs] at HOWR HFIN
          have p3 : ∀ o, (V.alloc o).cell? ⟨fb, j, none⟩ = some (.slice fa l fc) := fun o => (World.grownBy_alloc _ o none).cell cj (by simp)
          have p4 : ∀ o, (V.alloc o).cell? ⟨kb, i, none⟩ = some (.slice (some ⟨rb, ro, none⟩) el ec) := fun o => (World.grownBy_alloc _ o none).cell c0 (by simp)
          have p5 : ∀ o, (V.alloc o).cell? ⟨rb, ro + m', none⟩ = some (.int .i64 (t : Int)) := fun o => (World.grownBy_alloc _ o none).cell c1 (by simp)
          have HRGN : Hid (natV [u, u] = [.int .i64 (u : Int), .int .i64 (u : Int)]) := rfl
          rw [HRGN.out] at HFIN
          clear hfa hfc hl hxs hkcell cE htE ht hu hQJ hmE HRGN
          go_wp2_with fail
          go_region_law (first
            | (refine step_append_liesW _ rfl (.tmp 66) (.tmp 89) 28 rfl w2.heap.size 3 i0 (.int .i64 0) 1 8 Tryd.underlying28 hi0 hz0 hz1 hz2 rfl (by decide) (.slice fa l fc) l xs (by simp [Act.eval]) (HOWR.out _ (grown_trans (World.grownBy_alloc _ _ none) (grown_drewN _ _))) ⟨V.heap.size, 0, none⟩ 2 2 [.int .i64 (u : Int), .int .i64 (u : Int)] (by simp [Act.eval]) rfl (World.news_of_block (heap_alloc_last V _)) (by simp [Value.oneCell']) (by decide) (by unfold maxLen; omega) (by omega) (HPS.out _ (grown_trans (World.grownBy_alloc _ _ none) (grown_drewN _ _))) ?_; intro g9 c9 wB hoB hgB hat; obtain ⟨⟨q1, q2⟩, q3, q4, q5⟩ := HFIN.out _ wB g9 c9 (grown_trans (World.grownBy_alloc _ _ none) (grown_drewN _ _)) hgB hoB hat; have HQ3 := hidM q3; have HQ4 := hidM q4; have HQ5 := hidM q5; clear q3 q4 q5 hoB hgB hat)
            | fail)
          all_goals go_wp2_with fail
          all_goals go_roundg m'
          all_goals first
            | exact (show ∃ (m2 : Nat), _ from ⟨m', (m' : Int) - 1, _, _, _, by omega, rfl, rfl, by go_num, HQ3.out, HQ4.out, HQ5.out, HQN.out⟩)
            | (have := HGM.out; omega)
        · have hm0 : m = 0 := by have := HZV.out; omega
          subst hm0
          have hz1' : zv = -1 := by have := HZV.out; omega
          subst hz1'
          have hls := HLO.out wr HG.out
          obtain ⟨ob', hob', c2⟩ : ∃ lk, (some ⟨ob, 0, none⟩ : Option Addr) = some ⟨lk, 0, none⟩ ∧ wr.cell? ⟨lk, i, none⟩ = some (.slice (uo i) (intL (O i)).length (co i)) := by
            rcases hls.1 with h | ⟨lk, e, h⟩
            · omega
            · exact ⟨lk, e, h i hlt⟩
          have hobe : ob = ob' := by simpa using hob'
          subst hobe
          rw [intL_length] at c2
          have y0 := HV.out.cell j hjn
          have y1 := HV.out.free j
          obtain ⟨v1, hv1⟩ : ∃ v, v = Value.slice (uo i) (O i).length (co i) := ⟨_, rfl⟩
          have hs : wr.grownBy (wr.setCell ⟨pb, j, none⟩ v1) (some pb) := grown_setCell _ _ _
          have HCN := hidM (HC.out.beside HV.out HFP.out hs)
          have HVN := hidM (HV.out.set j v1)
          have HGN : Hid (w2.grownBy (wr.setCell ⟨pb, j, none⟩ v1) none) := grown_new HG.out hs HFB.out.2
          have HQN : Hid (∀ x, x < n → Q (tau n k x) = if x < i + 1 then flD n k E x 0 else []) := fun x hx => by
            rw [HQ.out x hx]
            by_cases h1 : x < i
            · rw [if_pos h1, if_pos (by omega)]
            · rw [if_neg h1]
              by_cases h2 : x = i
              · rw [if_pos h2, if_pos (by omega), h2]
              · rw [if_neg h2, if_neg (by omega)]
          have HPN : Hid (∀ x, x < n → J.put pv j v1 (tau n k x) = if x < i + 1 then .slice (uo x) (O x).length (co x) else .slice none 0 0) := fun x hx => by
            unfold J.put
            by_cases h2 : x = i
            · subst h2
              rw [if_pos HJ.out.symm, if_pos (by omega), hv1]
            · have hne : tau n k x ≠ j := fun h => h2 (tau_inj hkn hx hlt (h.trans HJ.out))
              rw [if_neg hne, HPV.out x hx]
              by_cases h1 : x < i
              · rw [if_pos h1, if_pos (by omega)]
              · rw [if_neg h1, if_neg (by omega)]
          rw [hv1] at HCN HVN HGN HPN
          obtain ⟨a1, ha1⟩ : ∃ v, v = uo i := ⟨_, rfl⟩
          obtain ⟨n1, hn1⟩ : ∃ v, v = (O i).length := ⟨_, rfl⟩
          obtain ⟨c1, hc1⟩ : ∃ v, v = co i := ⟨_, rfl⟩
          rw [← ha1, ← hn1, ← hc1] at c2 HCN HVN HGN HPN
          obtain ⟨pj, hpj⟩ : ∃ v, v = pv j := ⟨_, rfl⟩
          rw [← hpj] at y0
          clear hls hob' hv1 hs ha1 hn1 hc1 hpj hz0'
          go_wp2_with fail
          go_roundg (n - (i + 1))
          all_goals first
            | exact (show ∃ (i' : Nat), _ from ⟨i + 1, Q, uf, cf, _, by omega, rfl, by go_num, HCN.out, HVN.out, HGN.out, HQN.out, HPN.out⟩)
            | (have := HGK.out; omega)
    · have hin : n = i := by omega
      subst hin
      have hid : decide (n < n) = false := decide_eq_false (by omega)
      have HTP : Hid (TurnP n k E Q) := ⟨hkn, fun x _ y hy => HEN.out x y hy, fun x hx t => by rw [HQ.out x hx, if_pos hx]; exact flD_mem E x t⟩
      have HQL : Hid (∀ y, y < n → (Q y).length ≤ 800) := fun y hy => by
        rw [← tau_sig hkn hy, HQ.out _ (sig_lt hn0 y), if_pos (sig_lt hn0 y)]
        have h1 := flD_len (n := n) (k := k) E (sig n k y) 0
        have h2 := HEL.out (sig n k y)
        omega
      have HLP : Hid (∀ X, wr.grownBy X none → LsAt X (some ⟨pb, 0, none⟩) n (fun y => intL (O (sig n k y))) (fun y => uo (sig n k y)) (fun y => co (sig n k y))) := fun X hX => by
        refine ⟨.inr ⟨pb, rfl, fun y hy => ?_⟩, fun y hy => (HLO.out X (grown_trans HG.out hX)).2 _ (sig_lt hn0 y)⟩
        have h1 := (HV.out.kept hX).cell y hy
        have h2 := HPV.out (sig n k y) (sig_lt hn0 y)
        rw [tau_sig hkn hy, if_pos (sig_lt hn0 y)] at h2
        rw [h2] at h1
        rw [intL_length]
        exact h1
      have HLF : Hid (∀ X, wr.grownBy X none → LsAt X (some ⟨fb, 0, none⟩) n (fun y => intL (Q y)) uf cf) := fun X hX => (HC.out.kept hX).ls
      have HLN1 := show Hid _ from dlent_any wr n (some ⟨kb, 0, none⟩) n (fun i => intL (E i)) ua uc (HLE.out wr (grown_trans HG2.out HG.out)) (fun i hi e => by rw [intL_length]; exact HNE.out i hi e) (by omega) (fun i _ => by rw [intL_length]; have := HEL.out i; omega)
      clear HGK hlt HQ HPV HV HC
      go_wp2_with fail
      refine Calls.mono HLN1.out ?_
      rintro e x3 ⟨ka, kc, va2, vc2, rfl, hLe, hg3⟩
      have HLT1 := hidM hLe
      have HG3 := hidM hg3
      have HLN2 := show Hid _ from dlent_any x3 n (some ⟨ob, 0, none⟩) n (fun i => intL (O i)) uo co (HLO.out x3 (grown_trans HG.out hg3)) (fun i hi e => by rw [intL_length]; exact HNO.out i hi e) (by omega) (fun i _ => by rw [intL_length]; have := HOL.out i; omega)
      clear hLe hg3 HLN1
      go_wp2_with fail
      refine Calls.mono HLN2.out ?_
      rintro e x4 ⟨kd, kf, va3, vc3, rfl, hLo, hg4⟩
      have HG4 : Hid (wr.grownBy x4 none) := grown_trans HG3.out hg4
      have HGW : Hid (w.grownBy wr none) := grown_trans HG1.out (grown_trans HG2.out HG.out)
      have hg04 : w.grownBy x4 none := grown_trans HGW.out HG4.out
      have HSO := show Hid _ from sol_ok x4 n ka kd kc kf E (fun i => intL (O i)) va2 va3 vc2 vc3 ((HLT1.out.kept hg4).ls) hLo.ls (by omega) (fun i _ => by have := HEL.out i; omega) (fun i _ => by rw [intL_length]; have := HOL.out i; omega) (fun x _ y hy => HEN.out x y hy) (fun x _ v hv => by
        unfold intL at hv
        obtain ⟨y, hy, rfl⟩ := List.mem_map.1 hv
        have := HON.out x y hy
        omega) (HT0.out x4 hg04).1 (HT0.out x4 hg04).2
      clear hLo hg4 hg04 HLN2 HLT1 HG3
      go_wp2_with fail
      refine Calls.mono HSO.out ?_
      rintro e x5 ⟨ra, mk, ul, cl, rfl, hm, hCl, hg5⟩
      have HMK : Hid (∀ x, x < n → mk x < 2 ^ 1024 ∧ ∀ b, (mk x).testBit b = true ↔ Gets E (fun i => intL (O i)) x b) := hm
      have HCL := hidM hCl
      have HG5 : Hid (wr.grownBy x5 none) := grown_trans HG4.out hg5
      have HLN3 := show Hid _ from dlent_any x5 n (some ⟨pb, 0, none⟩) n (fun y => intL (O (sig n k y))) (fun y => uo (sig n k y)) (fun y => co (sig n k y)) (HLP.out x5 HG5.out) (fun i hi e => by rw [intL_length]; exact HNO.out _ (sig_lt hn0 i) e) (by omega) (fun i _ => by rw [intL_length]; have := HOL.out (sig n k i); omega)
      clear hm hCl hg5 HSO HG4 HLP
      go_wp2_with fail
      refine Calls.mono HLN3.out ?_
      rintro e x6 ⟨kd2, kf2, va4, vc4, rfl, hLo, hg6⟩
      have HG6 : Hid (wr.grownBy x6 none) := grown_trans HG5.out hg6
      have hg06 : w.grownBy x6 none := grown_trans HGW.out HG6.out
      have HSO := show Hid _ from sol_ok x6 n (some ⟨fb, 0, none⟩) kd2 n kf2 Q (fun y => intL (O (sig n k y))) uf va4 cf vc4 (HLF.out x6 HG6.out) hLo.ls (by omega) (fun i hi => by have := HQL.out i hi; omega) (fun i _ => by rw [intL_length]; have := HOL.out (sig n k i); omega) HTP.out.lt (fun x _ v hv => by
        unfold intL at hv
        obtain ⟨y, hy, rfl⟩ := List.mem_map.1 hv
        have := HON.out (sig n k x) y hy
        omega) (HT0.out x6 hg06).1 (HT0.out x6 hg06).2
      have HCL6 := hidM (HCL.out.kept hg6)
      clear hLo hg6 hg06 HLN3 HCL HG5
      go_wp2_with fail
      refine Calls.mono HSO.out ?_
      rintro e w9 ⟨rl2, mk2, ul2, cl2, rfl, hm, hCl, hg7⟩
      have HMQ : Hid (∀ x, x < n → mk2 (tau n k x) = mk x) := fun x hx => by
        obtain ⟨h1, h2⟩ := hm (tau n k x) (tau_lt hn0 x)
        obtain ⟨h3, h4⟩ := HMK.out x hx
        refine mask_ext h1 h3 fun b _ => ?_
        rw [h2 b, h4 b]
        exact HTP.out.gets (fun y hy => by rw [sig_tau hkn hy]) hx b
      have HC9 := hidM hCl
      have HL9 := hidM (HCL6.out.kept hg7)
      have HG9 : Hid (wr.grownBy w9 none) := grown_trans HG6.out hg7
      have hnn : ((n : Int) != (n : Int)) = false := bne_self_eq_false _
      have hnz4 : ¬ (n = 0) := by omega
      clear hm hCl hg7 HSO HCL6 HG6
      go_wp2_with fail
      go_loopg [22] n (fun gk v22 wx => ∃ (i : Nat), i ≤ n ∧ gk = n - i ∧ v22 = .int .i64 i ∧ w9.grownBy wx none)
      case atStart => exact ⟨0, Nat.zero_le _, rfl, rfl, grown_refl _ _⟩
      case round =>
        obtain ⟨i, hi, hgk, rfl, hGx⟩ := hrel
        have HGK : Hid (gk = n - i) := hgk
        have HGX := hidM hGx
        clear hgk hGx
        by_cases hlt : i < n
        · have hid : decide (i < n) = true := decide_eq_true hlt
          have hi0' : (0 : Int) ≤ (i : Int) := by omega
          have hi1' : (i : Int) < (n : Int) := by omega
          have hjn := tau_lt (k := k) hn0 i
          have hjm : (((i : Int) + (k : Int)) % (n : Int)) = ((tau n k i : Nat) : Int) := by unfold tau; simp
          have hjt : (((i : Int) + (k : Int)).tmod (n : Int)) = ((tau n k i : Nat) : Int) := by rw [Int.tmod_eq_emod_of_nonneg (by omega)]; exact hjm
          have hjw : (IntKind.i64.wrap ((i : Int) + (k : Int))).tmod (n : Int) = ((tau n k i : Nat) : Int) := by
            have e : IntKind.i64.wrap ((i : Int) + (k : Int)) = (i : Int) + (k : Int) := by rw [IntKind.wrap_i64]; omega
            rw [e]; exact hjt
          have hmq := HMQ.out i hlt
          obtain ⟨j, hj⟩ : ∃ v, v = tau n k i := ⟨_, rfl⟩
          rw [← hj] at hjn hjm hjt hjw hmq
          have hj0 : (0 : Int) ≤ (j : Int) := by omega
          have hj1 : (j : Int) < (n : Int) := by omega
          have hla := (HL9.out.kept HGX.out).ls
          have hlb := (HC9.out.kept HGX.out).ls
          obtain ⟨ra', hra', c0⟩ : ∃ lk, (some ⟨ra, 0, none⟩ : Option Addr) = some ⟨lk, 0, none⟩ ∧ wr.cell? ⟨lk, i, none⟩ = some (.slice (ul i) (intL (memN (mk i))).length (cl i)) := by
            rcases hla.1 with h | ⟨lk, e, h⟩
            · omega
            · exact ⟨lk, e, h i hlt⟩
          have hrae : ra = ra' := by simpa using hra'
          subst hrae
          obtain ⟨rl', hrl', d0⟩ : ∃ lk, (some ⟨rl2, 0, none⟩ : Option Addr) = some ⟨lk, 0, none⟩ ∧ wr.cell? ⟨lk, j, none⟩ = some (.slice (ul2 j) (intL (memN (mk2 j))).length (cl2 j)) := by
            rcases hlb.1 with h | ⟨lk, e, h⟩
            · omega
            · exact ⟨lk, e, h j hjn⟩
          have hrle : rl2 = rl' := by simpa using hrl'
          subst hrle
          have hi1 := hla.2 i hlt
          have hi2 := hlb.2 j hjn
          simp only [hmq] at hi2 d0
          have HIN : Hid (∀ X, wr.grownBy X none → Calls Tryd.prog 16 #[.slice (ul i) (memN (mk i)).length (cl i), .slice (ul2 j) (memN (mk i)).length (cl2 j)] X fun e y => e = .returned (.bool true) ∧ X.grownBy y none) := fun X hX => by
            have h1 := ints_same (ul i) (ul2 j) (cl i) (cl2 j) (intL (memN (mk i))) X (hi1.kept hX) (hi2.kept hX) (by rw [intL_length]; have := memN_len (mk i); omega)
            rw [intL_length] at h1
            exact h1
          rw [intL_length] at c0 d0
          obtain ⟨a1, ha1⟩ : ∃ v, v = ul i := ⟨_, rfl⟩
          obtain ⟨n1, hn1⟩ : ∃ v, v = (memN (mk i)).length := ⟨_, rfl⟩
          obtain ⟨c1, hc1⟩ : ∃ v, v = cl i := ⟨_, rfl⟩
          obtain ⟨a2, ha2⟩ : ∃ v, v = ul2 j := ⟨_, rfl⟩
          obtain ⟨c3, hc3⟩ : ∃ v, v = cl2 j := ⟨_, rfl⟩
          rw [← hn1, ← ha1, ← hc1] at c0
          rw [← hn1, ← ha2, ← hc3] at d0
          rw [← hn1, ← ha1, ← hc1, ← ha2, ← hc3] at HIN
          have HUP : Hid (wr.grownBy wr.drew none) := grown_drewN wr 1
          have HKS : Hid (∀ X, wr.grownBy X none → X.cell? ⟨ra, i, none⟩ = some (.slice a1 n1 c1) ∧ X.cell? ⟨rl2, j, none⟩ = some (.slice a2 n1 c3)) := fun X hX => ⟨hX.cell c0 (by simp), hX.cell d0 (by simp)⟩
          clear hla hlb hra' hrl' hi1 hi2 hmq ha1 hn1 hc1 ha2 hc3 hj
          go_wp2_with fail
          go_region_held3 (fun X => X.cell? ⟨ra, i, none⟩ = some (.slice a1 n1 c1) ∧ X.cell? ⟨rl2, j, none⟩ = some (.slice a2 n1 c3)) (first | exact HKS.out _ HUP.out | exact HKS.out _ HGI.out | go_keep)
            ((first
              | (go_at_call 16; refine Calls.mono (HIN.out _ HUP.out) ?_; rintro e W3 ⟨rfl, hg3⟩; have HGI : Hid (wr.grownBy W3 none) := grown_trans HUP.out hg3; clear hg3)
              | fail))
          have HGF : Hid (w9.grownBy W3 none) := grown_trans HGX.out HGI.out
          clear c0 d0 HIN HKS HUP
          go_wp2_with fail
          go_roundg (n - (i + 1))
          all_goals first
            | exact (show ∃ (i' : Nat), _ from ⟨i + 1, by omega, rfl, by go_num, HGF.out⟩)
            | (have := HGK.out; omega)
        · have hin : n = i := by omega
          subst hin
          have hid : decide (n < n) = false := decide_eq_false (by omega)
          have HGY := hidM (grown_trans HG9.out HGX.out)
          have HCE := show Hid _ from comp_ok wr n (some ⟨kb, 0, none⟩) n E ua uc (HLE.out wr (grown_trans HG2.out (grown_trans HG.out HGY.out))) (by omega) (fun i _ => by have := HEL.out i; omega) (fun x _ y hy => HEN.out x y hy)
          clear HGK hlt
          go_wp2_with fail
          refine Calls.mono HCE.out ?_
          rintro e y1 ⟨ls, xa, xc, K, Q1, xu, xv, rfl, hK, _, hls, _, hgy⟩
          have HLS : Hid (∀ x, x < n → IsLeast n E x (ls x)) := hls
          have HKE : Hid (K = (cmpL ls n).length) := hK
          have HGY1 := hidM (grown_trans HGY.out hgy)
          have HCF := show Hid _ from comp_ok y1 n (some ⟨fb, 0, none⟩) n Q uf cf (HLF.out y1 HGY1.out) (by omega) (fun i hi => by have := HQL.out i hi; omega) HTP.out.lt
          clear hK hls hgy HCE
          go_wp2_with fail
          refine Calls.mono HCF.out ?_
          rintro e y2 ⟨ls2, xa2, xc2, K2, Q2, xu2, xv2, rfl, hK2, _, hls2, _, hgy2⟩
          have hKK : K2 = K := by rw [hK2, HKE.out]; exact (HTP.out.count HLS.out hls2).symm
          subst hKK
          have hkk : ((K2 : Int) == (K2 : Int)) = true := beq_self_eq_true _
          have HGZ : Hid (w.grownBy y2 none) := grown_trans HGW.out (grown_trans HGY1.out hgy2)
          have HAW := show Hid _ from HTB.out y2 HGZ.out
          clear hK2 hls2 hgy2 HCF
          go_wp2_with fail
          refine Calls.mono HAW.out ?_
          rintro e wz ⟨rfl, hgz⟩
          have HGF : Hid (w.grownBy wz none) := grown_trans HGZ.out hgz
          clear hgz
          go_wp2_with fail
          go_ret
          exact ⟨rfl, HGF.out⟩

end Go.Proofs.YtggonakdlloloaaDoor.J
