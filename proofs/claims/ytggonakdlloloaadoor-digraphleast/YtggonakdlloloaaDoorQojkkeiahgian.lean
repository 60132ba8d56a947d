/-
  digraph: DigraphLeast.
-/
import Derived.Test.YtggonakdlloloaaDoorQhkkcbchgffbn
import Derived.Deep.RegionHeld3
import Derived.BigQuiet
namespace Go.Proofs.YtggonakdlloloaaDoor.J
open Go.RowKit Go.Maps Go.Shelf D

attribute [local go_sem] Oper.semAt_some

set_option maxRecDepth 100000 in
set_option maxHeartbeats 8000000 in
theorem least_core (w : World) (z at_ more : Int) (hz : -9223372036854775808 ≤ z ∧ z ≤ 9223372036854775807) (hat : -9223372036854775808 ≤ at_ ∧ at_ ≤ 9223372036854775807) (hmo : -9223372036854775808 ≤ more ∧ more ≤ 9223372036854775807) (pa : Option Addr) (pc pn : Nat) (P : List It) (hpn : pn = P.length) (hP : ItsAt w pa P) (hR : InR P) (qa : Option Addr) (qc qn : Nat) (P2 : List It) (hqn : qn = P2.length) (hP2 : ItsAt w qa P2) (hR2 : InR P2) (hT : B.Tab w) (h0 : 0 < w.heap.size) :
    Calls Tryd.prog 6 #[.int .i64 z, .slice pa pn pc, .slice qa qn qc, .int .i64 at_, .int .i64 more] w fun e w' => e = .returned (.bool true) ∧ w.grownBy w' none := by
  have HTB : Hid (∀ X, w.grownBy X none → Calls Tryd.prog 12 #[] X fun e w' => e = .returned (.bool true) ∧ X.grownBy w' none) := fun X hX => dawake_any X (tab_kept hT hX) (Nat.lt_of_lt_of_le h0 hX.size)
  have HT0 : Hid (∀ X, w.grownBy X none → B.Tab X ∧ 0 < X.heap.size) := fun X hX => ⟨tab_kept hT hX, Nat.lt_of_lt_of_le h0 hX.size⟩
  obtain ⟨n, hn⟩ : ∃ n, n = pickN z 40 + 1 := ⟨_, rfl⟩
  have HMD := show Hid _ from dmade_any w z hz.1 hz.2 n hn pa pc pn P hpn hP hR
  have hnb : n ≤ 40 := by
    have := pickN_lt z (show 0 < 40 by decide)
    omega
  have hn0 : 0 < n := by omega
  have HEL : Hid (∀ x, (mkL n n P (min pn 400) x).length ≤ 400) := fun x => Nat.le_trans (mkL_len _ _ _ _ _) (by omega)
  have HEN : Hid (∀ x, ∀ y ∈ mkL n n P (min pn 400) x, y < n) := fun x y hy => mkL_lt _ _ hn0 _ _ _ _ hy
  have HOL : Hid (∀ x, (mkL n 1024 P2 (min qn 400) x).length ≤ 400) := fun x => Nat.le_trans (mkL_len _ _ _ _ _) (by omega)
  have HON : Hid (∀ x, ∀ y ∈ mkL n 1024 P2 (min qn 400) x, y < 1024) := fun x y hy => mkL_lt _ _ (by decide) _ _ _ _ hy
  have HOW : Hid (∀ X, w.grownBy X none → Calls Tryd.prog 19 #[.int .i64 (n : Int), .slice qa qn qc] X fun e y => MadeTold X n (mkL n 1024 P2 (min qn 400)) e y) := fun X hX => down_any X n hn0 hnb qa qc qn P2 hqn (hP2.kept hX) hR2
  obtain ⟨E, hE⟩ : ∃ E, E = mkL n n P (min pn 400) := ⟨_, rfl⟩
  obtain ⟨O, hO⟩ : ∃ E, E = mkL n 1024 P2 (min qn 400) := ⟨_, rfl⟩
  rw [← hE] at HMD HEL HEN
  rw [← hO] at HOW HOL HON
  have HPA : Hid (∀ X, Calls Tryd.prog 15 #[.int .i64 at_, .int .i64 (n : Int)] X fun e w' => e = .returned (.int .i64 ((pickN at_ n : Nat) : Int)) ∧ w' = X) := fun X => dpick_any at_ hat.1 hat.2 n hn0 (by omega) X
  have HPM : Hid (∀ X, Calls Tryd.prog 15 #[.int .i64 more, .int .i64 1024] X fun e w' => e = .returned (.int .i64 ((pickN more 1024 : Nat) : Int)) ∧ w' = X) := fun X => dpick_any more hmo.1 hmo.2 1024 (by decide) (by decide) X
  have hxa := pickN_lt at_ hn0
  have hxb := pickN_lt more (show 0 < 1024 by decide)
  obtain ⟨xa, hxae⟩ : ∃ v, v = pickN at_ n := ⟨_, rfl⟩
  obtain ⟨xb, hxbe⟩ : ∃ v, v = pickN more 1024 := ⟨_, rfl⟩
  rw [← hxae] at HPA hxa
  rw [← hxbe] at HPM hxb
  obtain ⟨i0, hi0, hz0, hz1, hz2⟩ := info_parts infoInt
  clear hpn hP hR hT h0 hn hE hO hz hat hmo hqn hP2 hR2 hxae hxbe
  go_enter Tryd.func6, Tryd.ntmps6
  go_wp2_with fail
  refine Calls.mono HMD.out ?_
  rintro e w1 ⟨kb, ua, uc, rfl, hC, hg⟩
  have HLE : Hid (∀ X, w1.grownBy X none → LsAt X (some ⟨kb, 0, none⟩) n (fun i => intL (E i)) ua uc) := fun X hX => (hC.kept hX).ls
  have HNE : Hid (∀ i, i < n → ua i = none → (E i).length = 0 ∧ uc i = 0) := fun i hi e => (owns_bounds (hC.inn i hi)).2 e
  have HG1 := hidM hg
  have HOB := show Hid _ from HOW.out w1 hg
  clear hC hg HMD HOW
  go_wp2_with fail
  refine Calls.mono HOB.out ?_
  rintro e w2 ⟨ob, uo, co, rfl, hCo, hg2⟩
  have HCO := hidM hCo
  have HCO2 := hidM hCo
  have HG2 := hidM hg2
  have HLN : Hid (∀ X, w1.grownBy X none → Calls Tryd.prog 8 #[.slice (some ⟨kb, 0, none⟩) n n] X fun e y => LentTold X n (fun i => intL (E i)) e y) := fun X hX => dlent_any X n _ n _ ua uc (HLE.out X hX) (fun i hi e => by rw [intL_length]; exact HNE.out i hi e) (by omega) (fun i _ => by rw [intL_length]; have := HEL.out i; omega)
  have HLO : Hid (∀ X (O' : Nat → List Nat) (uo' : Nat → Option Addr) (co' : Nat → Nat), CqP X w1.heap.size (some ⟨ob, 0, none⟩) n n O' uo' co' → (∀ i, i < n → (O' i).length ≤ 401) → Calls Tryd.prog 8 #[.slice (some ⟨ob, 0, none⟩) n n] X fun e y => LentTold X n (fun i => intL (O' i)) e y) := fun X O' uo' co' hc hl => dlent_any X n _ n _ uo' co' hc.ls (fun i hi e => by rw [intL_length]; exact (owns_bounds (hc.inn i hi)).2 e) (by omega) (fun i hi => by rw [intL_length]; have := hl i hi; omega)
  have HC1 := show Hid _ from HLN.out w2 hg2
  clear hCo hg2 HOB
  go_wp2_with fail
  refine Calls.mono HC1.out ?_
  rintro e w3 ⟨ka, kc, ua2, uc2, rfl, hLe, hg3⟩
  have HLT1 := hidM hLe
  have HG3 := hidM hg3
  have HC2 := show Hid _ from HLO.out w3 O uo co (HCO.out.kept hg3) (fun i _ => by have := HOL.out i; omega)
  clear hLe hg3 HC1
  go_wp2_with fail
  refine Calls.mono HC2.out ?_
  rintro e w4 ⟨kd, kf, ua3, uc3, rfl, hLo, hg4⟩
  have HG4 : Hid (w2.grownBy w4 none) := grown_trans HG3.out hg4
  have hg04 : w.grownBy w4 none := grown_trans HG1.out (grown_trans HG2.out HG4.out)
  have HSO := show Hid _ from sol_ok w4 n ka kd kc kf E (fun i => intL (O i)) ua2 ua3 uc2 uc3 ((HLT1.out.kept hg4).ls) hLo.ls (by omega) (fun i _ => by have := HEL.out i; omega) (fun i _ => by rw [intL_length]; have := HOL.out i; omega) (fun x _ y hy => HEN.out x y hy) (fun x _ v hv => by
    unfold intL at hv
    obtain ⟨y, hy, rfl⟩ := List.mem_map.1 hv
    have := HON.out x y hy
    omega) (HT0.out w4 hg04).1 (HT0.out w4 hg04).2
  clear hLo hg4 hg04 HC2 HLT1
  go_wp2_with fail
  refine Calls.mono HSO.out ?_
  rintro e w5 ⟨rl, mk, ul, cl, rfl, hm, hCl, hg5⟩
  have HMK : Hid (∀ x, x < n → mk x < 2 ^ 1024 ∧ ∀ b, (mk x).testBit b = true ↔ Gets E (fun i => intL (O i)) x b) := hm
  have HCL := hidM hCl
  have HG5 : Hid (w2.grownBy w5 none) := grown_trans HG4.out hg5
  have HB25 : Hid (w2.heap.size ≤ w4.heap.size) := HG4.out.size
  have HB45 : Hid (w4.heap.size ≤ w5.heap.size) := hg5.size
  have hnn : ((n : Int) != (n : Int)) = false := bne_self_eq_false _
  have HRC := show Hid _ from dreach_any w5 n (some ⟨kb, 0, none⟩) n E ua uc (HLE.out w5 (grown_trans HG2.out HG5.out)) hnb (fun i _ => HEL.out i) (fun x _ y hy => HEN.out x y hy)
  clear hm hCl hg5 HSO HG4 HG3
  go_wp2_with fail
  refine Calls.mono HRC.out ?_
  rintro e w6 ⟨rr, g, R, rfl, hRh, hRR, hg6⟩
  have HRH := hidM hRh
  have HRR : Hid (∀ i, i < n → ∀ j, R i j = true ↔ Rch E i j) := hRR
  have HG6 : Hid (w2.grownBy w6 none) := grown_trans HG5.out hg6
  have HCL6 := hidM (HCL.out.kept hg6)
  have HCO6 := hidM (HCO.out.kept HG6.out)
  clear hRh hRR hg6 HRC HCL HCO
  go_wp2_with fail
  go_loopg [16] n (fun gk v16 wr => ∃ (i : Nat), i ≤ n ∧ gk = n - i ∧ v16 = .int .i64 i ∧ w6.grownBy wr none)
  case atStart => exact ⟨0, Nat.zero_le _, rfl, rfl, grown_refl _ _⟩
  case round =>
    obtain ⟨i, hi, hgk, rfl, hG⟩ := hrel
    have HGK : Hid (gk = n - i) := hgk
    have HG := hidM hG
    clear hgk hG
    by_cases hlt : i < n
    · have hid : decide (i < n) = true := decide_eq_true hlt
      have hi0' : (0 : Int) ≤ (i : Int) := by omega
      have hi1' : (i : Int) < (n : Int) := by omega
      have HOF := show Hid _ from rof_all none 0 [] wr (.inl rfl) (by decide)
      go_wp2_with fail
      refine Calls.mono HOF.out ?_
      rintro e W0 ⟨br, rfl, hbr, hRf, hgW⟩
      obtain ⟨bi, hbi⟩ : ∃ v, v = wr.heap.size := ⟨_, rfl⟩
      rw [← hbi] at hbr hRf
      have HBI : Hid (w6.heap.size ≤ bi) := by have := HG.out.size; show _ ≤ _; omega
      have HRF0 : Hid (B.RefAt W0 br bi 1024 (accM O (R i) 0)) := hRf
      have HGW : Hid (w6.grownBy W0 none) := grown_trans HG.out hgW
      clear hbi hRf hgW HOF hbr HG
      go_wp2_with fail
      go_loopg [18] n (fun gk v18 wx => ∃ (k : Nat), k ≤ n ∧ gk = n - k ∧ v18 = .int .i64 k ∧ B.RefAt wx br bi 1024 (accM O (R i) k) ∧ w6.grownBy wx none)
      case atStart => exact ⟨0, Nat.zero_le _, rfl, rfl, HRF0.out, HGW.out⟩
      case round =>
        clear HRF0 HGW
        obtain ⟨k, hk, hgk, rfl, hRf, hgW⟩ := hrel
        have HGJ : Hid (gk = n - k) := hgk
        have HRF := hidM hRf
        have HGW := hidM hgW
        clear hgk hRf hgW
        by_cases hltk : k < n
        · have hkd : decide (k < n) = true := decide_eq_true hltk
          have hk0 : (0 : Int) ≤ (k : Int) := by omega
          have hk1 : (k : Int) < (n : Int) := by omega
          have hRk := HRH.out.kept HGW.out
          have b0 := hRk.row.cell i hlt
          rw [if_pos hlt] at b0
          have b2 := (hRk.inn i hlt).cell k hltk
          obtain ⟨gi, hgi⟩ : ∃ v, v = g i := ⟨_, rfl⟩
          rw [← hgi] at b0 b2
          clear hRk hgi
          cases hr : R i k with
          | false =>
            have HRN : Hid (B.RefAt wr br bi 1024 (accM O (R i) (k + 1))) := by
              have e : accM O (R i) (k + 1) = accM O (R i) k := by rw [accM, hr]; simp
              rw [e]; exact HRF.out
            rw [hr] at b2
            clear hr
            go_wp2_with fail
            go_roundg (n - (k + 1))
            all_goals first
              | exact (show ∃ (k' : Nat), _ from ⟨k + 1, by omega, rfl, by go_num, HRN.out, HGW.out⟩)
              | (have := HGJ.out; omega)
          | true =>
            have hls := (HCO6.out.kept HGW.out).ls
            obtain ⟨ob', hob', c0⟩ : ∃ lk, (some ⟨ob, 0, none⟩ : Option Addr) = some ⟨lk, 0, none⟩ ∧ wr.cell? ⟨lk, k, none⟩ = some (.slice (uo k) (intL (O k)).length (co k)) := by
              rcases hls.1 with h | ⟨lk, e, h⟩
              · omega
              · exact ⟨lk, e, h k hltk⟩
            have hobe : ob = ob' := by simpa using hob'
            subst hobe
            have hik := hls.2 k hltk
            have HAD : Hid (Calls Tryd.prog 21 #[.pointer (some ⟨br, 0, none⟩), .slice (uo k) (O k).length (co k)] wr fun e w' => (∃ z, e = .returned (.int .i64 z)) ∧ B.RefAt w' br bi 1024 (accM O (R i) (k + 1)) ∧ wr.grownBy w' (some bi)) := by
              have h1 := radd_all br bi (accM O (R i) k) (co k) (uo k) (intL (O k)) wr HRF.out hik (fun hne rb ro e => by
                obtain ⟨rb2, ro2, e2, h2⟩ := (HCO6.out.ls.2 k hltk).resolve_left hne
                rw [e] at e2
                have e3 : rb = rb2 := by simp at e2; exact e2.1
                have h3 := World.block_lt_of_cell? w6 _ (h2 0 (List.length_pos_iff.2 hne))
                simp only at h3
                have h4 := HBI.out
                omega) (by rw [intL_length]; have := HOL.out k; omega)
              have e : accM O (R i) (k + 1) = (B.addS 1024 (accM O (R i) k) (intL (O k))).1 := by rw [accM, if_pos hr]
              rw [e]
              rw [intL_length] at h1
              exact h1
            rw [intL_length] at c0
            obtain ⟨a1, ha1⟩ : ∃ v, v = uo k := ⟨_, rfl⟩
            obtain ⟨n1, hn1⟩ : ∃ v, v = (O k).length := ⟨_, rfl⟩
            obtain ⟨c1, hc1⟩ : ∃ v, v = co k := ⟨_, rfl⟩
            rw [← ha1, ← hn1, ← hc1] at c0 HAD
            rw [hr] at b2
            clear hr hls hob' hik ha1 hn1 hc1
            go_wp2_with fail
            refine Calls.mono HAD.out ?_
            rintro e W1 ⟨⟨z1, rfl⟩, hRf, hgW⟩
            have HRN := hidM hRf
            have HGN : Hid (w6.grownBy W1 none) := grown_new HGW.out hgW HBI.out
            clear hRf hgW HAD b0 b2 c0
            go_wp2_with fail
            go_roundg (n - (k + 1))
            all_goals first
              | exact (show ∃ (k' : Nat), _ from ⟨k + 1, by omega, rfl, by go_num, HRN.out, HGN.out⟩)
              | (have := HGJ.out; omega)
        · have hkn : n = k := by omega
          subst hkn
          have hkd : decide (n < n) = false := decide_eq_false (by omega)
          have hacc := least_first (fun x _ y hy => HEN.out x y hy) HMK.out hlt (HRR.out i hlt)
          have HMB : Hid (∀ X, wr.grownBy X none → Calls Tryd.prog 22 #[.pointer (some ⟨br, 0, none⟩)] X fun e y => ∃ a c, e = .returned (.slice a (memN (mk i)).length c) ∧ IntsAt y a (intL (memN (mk i))) ∧ X.grownBy y none) := fun X hX => by
            have h1 := RefAt_kept HRF.out hX
            rw [hacc] at h1
            exact rmem_all br bi (mk i) X h1
          have hls := (HCL6.out.kept HGW.out).ls
          obtain ⟨rl', hrl', c0⟩ : ∃ lk, (some ⟨rl, 0, none⟩ : Option Addr) = some ⟨lk, 0, none⟩ ∧ wr.cell? ⟨lk, i, none⟩ = some (.slice (ul i) (intL (memN (mk i))).length (cl i)) := by
            rcases hls.1 with h | ⟨lk, e, h⟩
            · omega
            · exact ⟨lk, e, h i hlt⟩
          have hrle : rl = rl' := by simpa using hrl'
          subst hrle
          have hik := hls.2 i hlt
          have HIN : Hid (∀ X a c, wr.grownBy X none → IntsAt X a (intL (memN (mk i))) → Calls Tryd.prog 16 #[.slice (ul i) (memN (mk i)).length (cl i), .slice a (memN (mk i)).length c] X fun e y => e = .returned (.bool true) ∧ X.grownBy y none) := fun X a c hX hI => by
            have h1 := ints_same (ul i) a (cl i) c (intL (memN (mk i))) X (hik.kept hX) hI (by rw [intL_length]; have := memN_len (mk i); omega)
            rw [intL_length] at h1
            exact h1
          rw [intL_length] at c0
          obtain ⟨a1, ha1⟩ : ∃ v, v = ul i := ⟨_, rfl⟩
          obtain ⟨n1, hn1⟩ : ∃ v, v = (memN (mk i)).length := ⟨_, rfl⟩
          obtain ⟨c1, hc1⟩ : ∃ v, v = cl i := ⟨_, rfl⟩
          obtain ⟨L1, hL1⟩ : ∃ v, v = intL (memN (mk i)) := ⟨_, rfl⟩
          rw [← hL1] at HMB HIN
          rw [← hn1] at HMB HIN c0
          rw [← ha1, ← hc1] at HIN c0
          have HUP : Hid (wr.grownBy wr.drew none) := grown_drewN wr 1
          have HKS : Hid (∀ X, wr.grownBy X none → X.cell? ⟨rl, i, none⟩ = some (.slice a1 n1 c1)) := fun X hX => hX.cell c0 (by simp)
          clear hls hrl' hik ha1 hn1 hc1 hL1 hacc
          go_wp2_with fail
          go_region_held3 (fun X => X.cell? ⟨rl, i, none⟩ = some (.slice a1 n1 c1)) (first | exact HKS.out _ HUP.out | exact HKS.out _ HGM.out | exact HKS.out _ HGI.out | go_keep)
            ((first
              | (go_at_call 22; refine Calls.mono (HMB.out _ HUP.out) ?_; rintro e W2 ⟨a2, c2, rfl, hI2, hg2⟩; have HGM : Hid (wr.grownBy W2 none) := grown_trans HUP.out hg2; have HI2 := hidM hI2; clear hI2 hg2)
              | (go_at_call 16; refine Calls.mono (HIN.out _ _ _ HGM.out HI2.out) ?_; rintro e W3 ⟨rfl, hg3⟩; have HGI : Hid (wr.grownBy W3 none) := grown_trans HGM.out hg3; clear hg3)
              | fail))
          have HGF : Hid (w6.grownBy W3 none) := grown_trans HGW.out HGI.out
          clear c0 HMB HIN HKS HUP
          go_wp2_with fail
          go_roundg (n - (i + 1))
          all_goals first
            | exact (show ∃ (i' : Nat), _ from ⟨i + 1, by omega, rfl, by go_num, HGF.out⟩)
            | (have := HGK.out; omega)
    · have hin : n = i := by omega
      subst hin
      have hid : decide (n < n) = false := decide_eq_false (by omega)
      clear HGK hlt
      go_wp2_with fail
      refine Calls.mono (HPA.out _) ?_
      rintro e V1 ⟨rfl, hV1⟩
      subst hV1
      go_wp2_with fail
      refine Calls.mono (HPM.out _) ?_
      rintro e V ⟨rfl, hV⟩
      subst hV
      have HCV := hidM (HCO6.out.kept HG.out)
      obtain ⟨kb', kcap, hkb, hkcell⟩ := owns_at HCV.out.out (by omega)
      simp only [Value.slice.injEq, Option.some.injEq, Addr.mk.injEq, and_true, true_and] at hkb
      obtain ⟨rfl, -⟩ := hkb
      have cj := hkcell xa _ (rowsC_at _ _ _ hxa)
      obtain ⟨fa, hfa⟩ : ∃ a, a = uo xa := ⟨_, rfl⟩
      obtain ⟨fc, hfc⟩ : ∃ a, a = co xa := ⟨_, rfl⟩
      obtain ⟨m, hm⟩ : ∃ m, m = (O xa).length := ⟨_, rfl⟩
      rw [← hfa, ← hfc, ← hm] at cj
      have hmb : m ≤ 400 := by rw [hm]; exact HOL.out xa
      have hja0 : (0 : Int) ≤ (xa : Int) := by omega
      have hja1 : (xa : Int) < (n : Int) := by omega
      have HOWR : Hid (∀ Y, V.grownBy Y none → Y.ownsRow w1.heap.size 3 1 (.slice fa m fc) m (natV (O xa))) := fun Y hY => by
        have h1 := (HCV.out.kept hY).inn xa hxa
        rw [← hfa, ← hfc, ← hm] at h1
        exact h1
      have HG1V : Hid (w1.grownBy V none) := grown_trans HG2.out (grown_trans HG6.out HG.out)
      have HFIN : Hid (∀ (Y W : World) (gg c : Nat), V.grownBy Y none → Y.grownBy W (Value.slice fa m fc).ownBlock → W.ownsRow w1.heap.size 3 1 (.slice (some ⟨gg, 0, none⟩) (m + 1) c) (m + 1) (natV (O xa) ++ [.int .i64 (xb : Int)]) → ((Value.slice fa m fc).ownBlock = some gg ∨ gg = Y.heap.size) → (W.cell? ⟨ob, xa, none⟩ = some (.slice fa m fc) ∧ W.frozen? ⟨ob, xa, none⟩ = false) ∧ CqP (W.setCell ⟨ob, xa, none⟩ (.slice (some ⟨gg, 0, none⟩) (m + 1) c)) w1.heap.size (some ⟨ob, 0, none⟩) n n (updC O xa (O xa ++ [xb])) (updC uo xa (some ⟨gg, 0, none⟩)) (updC co xa c) ∧ w1.grownBy (W.setCell ⟨ob, xa, none⟩ (.slice (some ⟨gg, 0, none⟩) (m + 1) c)) none ∧ RhP (W.setCell ⟨ob, xa, none⟩ (.slice (some ⟨gg, 0, none⟩) (m + 1) c)) w5.heap.size rr n g R n ∧ CqP (W.setCell ⟨ob, xa, none⟩ (.slice (some ⟨gg, 0, none⟩) (m + 1) c)) w4.heap.size (some ⟨rl, 0, none⟩) n n (fun x => memN (mk x)) ul cl) := fun Y W gg c hY hg ho hat => by
        have hq := HCV.out.kept hY
        have hin := hq.inn xa hxa
        rw [hfa, hfc, hm] at hg hat
        rw [hm] at ho
        obtain ⟨q1, q2⟩ := hq.add hxa hg ho hat
        have hs : W.grownBy (W.setCell ⟨ob, xa, none⟩ (.slice (some ⟨gg, 0, none⟩) ((O xa).length + 1) c)) (some ob) := grown_setCell _ _ _
        have hobw : w1.heap.size ≤ ob := (HCO2.out.out.lt ob rfl).1
        have hob2 : ob < w2.heap.size := (HCO2.out.out.lt ob rfl).2
        have hlow : ∀ b, (Value.slice (uo xa) (O xa).length (co xa)).ownBlock = some b → b < w2.heap.size := fun b hb => ((HCO2.out.inn xa hxa).lt b hb).2
        have h25 := HB25.out
        have h45 := HB45.out
        rw [hfa, hfc, hm]
        refine ⟨q1, q2, grown_new (grown_row (grown_trans HG1V.out hY) hin (Nat.le_refl _) hg) hs hobw, ?_, ?_⟩
        · exact (((HRH.out.kept HG.out).kept hY).low hg fun b hb => by have := hlow b hb; omega).below hs (by omega)
        · exact (((HCL6.out.kept HG.out).kept hY).low hg fun b hb => by have := hlow b hb; omega).below hs (by omega)
      obtain ⟨xs, hxs⟩ : ∃ xs, xs = natV (O xa) := ⟨_, rfl⟩
      rw [← hxs] at HOWR HFIN
      have p3 : ∀ o, (V.alloc o).cell? ⟨ob, xa, none⟩ = some (.slice fa m fc) := fun o => (World.grownBy_alloc _ o none).cell cj (by simp)
      have HSZ : Hid (∀ o, w1.heap.size ≤ (V.alloc o).heap.size) := fun o => Nat.le_trans HG1V.out.size (World.grownBy_alloc V o none).size
      clear hfa hfc hm hxs hkcell
      go_wp2_with (at_builtin; refine wpList_append_liesW rfl (.tmp 96) (.tmp 98) 28 rfl w1.heap.size 3 i0 (.int .i64 0) 1 8 Tryd.underlying28 hi0 hz0 hz1 hz2 rfl (by decide) (.slice fa m fc) m xs rfl (HOWR.out _ (World.grownBy_alloc _ _ none)) ⟨V.heap.size, 0, none⟩ 1 1 [.int .i64 (xb : Int)] rfl rfl (World.news_of_block (heap_alloc_last V _)) (by simp [Value.oneCell']) (by decide) (by unfold maxLen; omega) (by omega) (HSZ.out _) ?_)
      intro g9 c9 wB hoB hgB hatB
      obtain ⟨⟨q1, q2⟩, q3, q4, q5, q6⟩ := HFIN.out _ wB g9 c9 (World.grownBy_alloc _ _ none) hgB hoB (by simpa using hatB)
      obtain ⟨O2, hO2⟩ : ∃ f, f = updC O xa (O xa ++ [xb]) := ⟨_, rfl⟩
      obtain ⟨uo2, huo2⟩ : ∃ f, f = updC uo xa (some ⟨g9, 0, none⟩) := ⟨_, rfl⟩
      obtain ⟨co2, hco2⟩ : ∃ f, f = updC co xa c9 := ⟨_, rfl⟩
      rw [← hO2, ← huo2, ← hco2] at q3
      have HO2 : Hid (O2 = updC O xa (O xa ++ [xb])) := hO2
      obtain ⟨w7, hw7⟩ : ∃ v, v = wB.setCell ⟨ob, xa, none⟩ (.slice (some ⟨g9, 0, none⟩) (m + 1) c9) := ⟨_, rfl⟩
      rw [← hw7] at q3 q4 q5 q6
      have HW7 : Hid (w7 = wB.setCell ⟨ob, xa, none⟩ (.slice (some ⟨g9, 0, none⟩) (m + 1) c9)) := hw7
      have HCO7 := hidM q3
      have HG7 := hidM q4
      have HRH7 := hidM q5
      have HCL7 := hidM q6
      have HLN7 := show Hid _ from HLN.out w7 q4
      clear hO2 huo2 hco2 q3 q4 q5 q6 hoB hgB hatB HFIN HOWR HSZ HCV HRH HCL6 HCO6 cj p3 hw7
      go_wp2_with fail
      rw [← HW7.out]
      refine Calls.mono HLN7.out ?_
      rintro e x3 ⟨ka, kc, va2, vc2, rfl, hLe, hg3⟩
      have HLT1 := hidM hLe
      have HG3 := hidM hg3
      have HC2 := show Hid _ from HLO.out x3 O2 uo2 co2 (HCO7.out.kept hg3) (fun i _ => by
        rw [HO2.out]
        have h1 := HOL.out i
        have h2 := HOL.out xa
        by_cases e : i = xa
        · rw [e, updC_same, List.length_append]; simp; omega
        · rw [updC_other _ _ e]; omega)
      clear hLe hg3 HLN7 q1 q2 HW7
      go_wp2_with fail
      refine Calls.mono HC2.out ?_
      rintro e x4 ⟨kd, kf, va3, vc3, rfl, hLo, hg4⟩
      have HG4 : Hid (w7.grownBy x4 none) := grown_trans HG3.out hg4
      have hg04 : w.grownBy x4 none := grown_trans HG1.out (grown_trans HG7.out HG4.out)
      have HSO := show Hid _ from sol_ok x4 n ka kd kc kf E (fun i => intL (O2 i)) va2 va3 vc2 vc3 ((HLT1.out.kept hg4).ls) hLo.ls (by omega) (fun i _ => by have := HEL.out i; omega) (fun i _ => by
        rw [intL_length, HO2.out]
        have h1 := HOL.out i
        have h2 := HOL.out xa
        by_cases e : i = xa
        · rw [e, updC_same, List.length_append]; simp; omega
        · rw [updC_other _ _ e]; omega) (fun x _ y hy => HEN.out x y hy) (fun x _ v hv => by
        unfold intL at hv
        obtain ⟨y, hy, rfl⟩ := List.mem_map.1 hv
        have : y < 1024 := by
          rw [HO2.out] at hy
          by_cases e : x = xa
          · rw [e, updC_same] at hy
            rcases List.mem_append.1 hy with h | h
            · exact HON.out xa y h
            · rw [List.mem_singleton.1 h]; exact hxb
          · rw [updC_other _ _ e] at hy; exact HON.out x y hy
        omega) (HT0.out x4 hg04).1 (HT0.out x4 hg04).2
      clear hLo hg4 hg04 HC2 HLT1 HG3
      go_wp2_with fail
      refine Calls.mono HSO.out ?_
      rintro e w9 ⟨rl2, mk2, ul2, cl2, rfl, hm, hCl, hg5⟩
      have HMK2 : Hid (∀ x, x < n → mk2 x < 2 ^ 1024 ∧ ∀ c, (mk2 x).testBit c = true ↔ Gets E (fun x => intL (updC O xa (O xa ++ [xb]) x)) x c) := by
        rw [← HO2.out]; exact hm
      have HCM := hidM hCl
      have HG79 : Hid (w7.grownBy w9 none) := grown_trans HG4.out hg5
      have HGB : Hid (w.grownBy w9 none) := grown_trans HG1.out (grown_trans HG7.out HG79.out)
      have HRH9 := hidM (HRH7.out.kept HG79.out)
      have HCL9 := hidM (HCL7.out.kept HG79.out)
      clear hm hCl hg5 HSO HG4 HO2 HCO7 HRH7 HCL7 HG7
      go_wp2_with fail
      go_loopg [23] n (fun gk v23 wr => ∃ (i : Nat), i ≤ n ∧ gk = n - i ∧ v23 = .int .i64 i ∧ w9.grownBy wr none)
      case atStart => exact ⟨0, Nat.zero_le _, rfl, rfl, grown_refl _ _⟩
      case round =>
        obtain ⟨i, hi, hgk, rfl, hG⟩ := hrel
        have HGK : Hid (gk = n - i) := hgk
        have HGW := hidM hG
        clear hgk hG
        by_cases hlt : i < n
        · have hid : decide (i < n) = true := decide_eq_true hlt
          have hi0' : (0 : Int) ≤ (i : Int) := by omega
          have hi1' : (i : Int) < (n : Int) := by omega
          have hls := (HCL9.out.kept HGW.out).ls
          obtain ⟨rl', hrl', c0⟩ : ∃ lk, (some ⟨rl, 0, none⟩ : Option Addr) = some ⟨lk, 0, none⟩ ∧ wr.cell? ⟨lk, i, none⟩ = some (.slice (ul i) (intL (memN (mk i))).length (cl i)) := by
            rcases hls.1 with h | ⟨lk, e, h⟩
            · omega
            · exact ⟨lk, e, h i hlt⟩
          have hrle : rl = rl' := by simpa using hrl'
          subst hrle
          have HOF : Hid (Calls Tryd.prog 20 #[.int .i64 1024, .slice (ul i) (memN (mk i)).length (cl i)] wr fun e w' => ∃ br, e = .returned (.pointer (some ⟨br, 0, none⟩)) ∧ wr.heap.size < br ∧ B.RefAt w' br wr.heap.size 1024 (mk i) ∧ wr.grownBy w' none) := by
            have h1 := rof_all (ul i) (cl i) (intL (memN (mk i))) wr (hls.2 i hlt) (by rw [intL_length]; have := memN_len (mk i); omega)
            have e := of_members (HMK.out i hlt).1
            rw [mems_intL] at e
            rw [e, intL_length] at h1
            exact h1
          rw [intL_length] at c0
          obtain ⟨a1, ha1⟩ : ∃ v, v = ul i := ⟨_, rfl⟩
          obtain ⟨n1, hn1⟩ : ∃ v, v = (memN (mk i)).length := ⟨_, rfl⟩
          obtain ⟨c1, hc1⟩ : ∃ v, v = cl i := ⟨_, rfl⟩
          rw [← ha1, ← hn1, ← hc1] at c0 HOF
          clear hls hrl' ha1 hn1 hc1
          go_wp2_with fail
          refine Calls.mono HOF.out ?_
          rintro e W0 ⟨br, rfl, hbr, hRf, hgW⟩
          obtain ⟨bi, hbi⟩ : ∃ v, v = wr.heap.size := ⟨_, rfl⟩
          rw [← hbi] at hbr hRf
          have HBI : Hid (w9.heap.size ≤ bi ∧ bi < W0.heap.size) := ⟨by have := HGW.out.size; omega, by have := hRf.lti; omega⟩
          have HRF := hidM hRf
          have HGN0 : Hid (w9.grownBy W0 none) := grown_trans HGW.out hgW
          have hRk := HRH9.out.kept HGN0.out
          have b0 := hRk.row.cell i hlt
          rw [if_pos hlt] at b0
          have b2 := (hRk.inn i hlt).cell xa hxa
          obtain ⟨gi, hgi⟩ : ∃ v, v = g i := ⟨_, rfl⟩
          rw [← hgi] at b0 b2
          have hlm := least_more (fun x _ y hy => HEN.out x y hy) hxa HMK.out HMK2.out hlt (R i xa) (HRR.out i hlt xa)
          clear hbi hRf hgW HOF hbr HGW hRk hgi c0
          cases hr : R i xa with
          | false =>
            rw [hr] at b2 hlm
            have HRN : Hid (B.RefAt W0 br bi 1024 (mk2 i)) := by
              have e : mk i = mk2 i := by simpa using hlm
              rw [← e]; exact HRF.out
            have HGN := HGN0
            clear hr hlm HRF
            go_wp2_with fail
            have HMB : Hid (∀ X, W0.grownBy X none → Calls Tryd.prog 22 #[.pointer (some ⟨br, 0, none⟩)] X fun e y => ∃ a c, e = .returned (.slice a (memN (mk2 i)).length c) ∧ IntsAt y a (intL (memN (mk2 i))) ∧ X.grownBy y none) := fun X hX => rmem_all br bi (mk2 i) X (RefAt_kept HRN.out hX)
            have hls := (HCM.out.kept HGN.out).ls
            obtain ⟨rl', hrl', c0⟩ : ∃ lk, (some ⟨rl2, 0, none⟩ : Option Addr) = some ⟨lk, 0, none⟩ ∧ W0.cell? ⟨lk, i, none⟩ = some (.slice (ul2 i) (intL (memN (mk2 i))).length (cl2 i)) := by
              rcases hls.1 with h | ⟨lk, e, h⟩
              · omega
              · exact ⟨lk, e, h i hlt⟩
            have hrle : rl2 = rl' := by simpa using hrl'
            subst hrle
            have hik := hls.2 i hlt
            have HIN : Hid (∀ X a c, W0.grownBy X none → IntsAt X a (intL (memN (mk2 i))) → Calls Tryd.prog 16 #[.slice (ul2 i) (memN (mk2 i)).length (cl2 i), .slice a (memN (mk2 i)).length c] X fun e y => e = .returned (.bool true) ∧ X.grownBy y none) := fun X a c hX hI => by
              have h1 := ints_same (ul2 i) a (cl2 i) c (intL (memN (mk2 i))) X (hik.kept hX) hI (by rw [intL_length]; have := memN_len (mk2 i); omega)
              rw [intL_length] at h1
              exact h1
            rw [intL_length] at c0
            obtain ⟨a1, ha1⟩ : ∃ v, v = ul2 i := ⟨_, rfl⟩
            obtain ⟨n1, hn1⟩ : ∃ v, v = (memN (mk2 i)).length := ⟨_, rfl⟩
            obtain ⟨c1, hc1⟩ : ∃ v, v = cl2 i := ⟨_, rfl⟩
            obtain ⟨L1, hL1⟩ : ∃ v, v = intL (memN (mk2 i)) := ⟨_, rfl⟩
            rw [← hL1] at HMB HIN
            rw [← hn1] at HMB HIN c0
            rw [← ha1, ← hc1] at HIN c0
            have HUP : Hid (W0.grownBy W0.drew none) := grown_drewN W0 1
            have HKS : Hid (∀ X, W0.grownBy X none → X.cell? ⟨rl2, i, none⟩ = some (.slice a1 n1 c1)) := fun X hX => hX.cell c0 (by simp)
            clear hls hrl' hik ha1 hn1 hc1 hL1
            go_wp2_with fail
            go_region_held3 (fun X => X.cell? ⟨rl2, i, none⟩ = some (.slice a1 n1 c1)) (first | exact HKS.out _ HUP.out | exact HKS.out _ HGM.out | exact HKS.out _ HGI.out | go_keep)
              ((first
                | (go_at_call 22; refine Calls.mono (HMB.out _ HUP.out) ?_; rintro e W2 ⟨a2, c2, rfl, hI2, hg2⟩; have HGM : Hid (W0.grownBy W2 none) := grown_trans HUP.out hg2; have HI2 := hidM hI2; clear hI2 hg2)
                | (go_at_call 16; refine Calls.mono (HIN.out _ _ _ HGM.out HI2.out) ?_; rintro e W3 ⟨rfl, hg3⟩; have HGI : Hid (W0.grownBy W3 none) := grown_trans HGM.out hg3; clear hg3)
                | fail))
            have HGF : Hid (w9.grownBy W3 none) := grown_trans HGN.out HGI.out
            clear c0 HMB HIN HKS HUP
            go_wp2_with fail
            go_roundg (n - (i + 1))
            all_goals first
              | exact (show ∃ (i' : Nat), _ from ⟨i + 1, by omega, rfl, by go_num, HGF.out⟩)
              | (have := HGK.out; omega)
          | true =>
            rw [hr] at b2 hlm
            have e1 : (B.addS 1024 (mk i) [(xb : Int)]).1 = mk2 i := by simpa using hlm
            have hIA : IntsAt (W0.alloc (.cells #[.int .i64 (xb : Int)] 3)) (some ⟨W0.heap.size, 0, none⟩) [(xb : Int)] := ints_lit [xb] (heap_alloc_last W0 _)
            have HAD : Hid (Calls Tryd.prog 21 #[.pointer (some ⟨br, 0, none⟩), .slice (some ⟨W0.heap.size, 0, none⟩) 1 1] (W0.alloc (.cells #[.int .i64 (xb : Int)] 3)) fun e w' => (∃ z, e = .returned (.int .i64 z)) ∧ B.RefAt w' br bi 1024 (mk2 i) ∧ (W0.alloc (.cells #[.int .i64 (xb : Int)] 3)).grownBy w' (some bi)) := by
              have h1 := radd_all br bi (mk i) 1 (some ⟨W0.heap.size, 0, none⟩) [(xb : Int)] (W0.alloc (.cells #[.int .i64 (xb : Int)] 3)) (RefAt_kept HRF.out (World.grownBy_alloc _ _ none)) hIA (fun _ rb ro e => by
                have e3 : W0.heap.size = rb := by simp at e; exact e.1
                have := HBI.out.2
                omega) (by simp)
              rw [e1] at h1
              exact h1
            clear hr hlm e1 hIA
            go_wp2_with fail
            refine Calls.mono HAD.out ?_
            rintro e W1 ⟨⟨z1, rfl⟩, hRf, hgW⟩
            have HRN := hidM hRf
            have HGN : Hid (w9.grownBy W1 none) := grown_new (grown_trans HGN0.out (World.grownBy_alloc _ _ none)) hgW HBI.out.1
            clear hRf hgW HAD b0 b2
            go_wp2_with fail
            have HMB : Hid (∀ X, W1.grownBy X none → Calls Tryd.prog 22 #[.pointer (some ⟨br, 0, none⟩)] X fun e y => ∃ a c, e = .returned (.slice a (memN (mk2 i)).length c) ∧ IntsAt y a (intL (memN (mk2 i))) ∧ X.grownBy y none) := fun X hX => rmem_all br bi (mk2 i) X (RefAt_kept HRN.out hX)
            have hls := (HCM.out.kept HGN.out).ls
            obtain ⟨rl', hrl', c0⟩ : ∃ lk, (some ⟨rl2, 0, none⟩ : Option Addr) = some ⟨lk, 0, none⟩ ∧ W1.cell? ⟨lk, i, none⟩ = some (.slice (ul2 i) (intL (memN (mk2 i))).length (cl2 i)) := by
              rcases hls.1 with h | ⟨lk, e, h⟩
              · omega
              · exact ⟨lk, e, h i hlt⟩
            have hrle : rl2 = rl' := by simpa using hrl'
            subst hrle
            have hik := hls.2 i hlt
            have HIN : Hid (∀ X a c, W1.grownBy X none → IntsAt X a (intL (memN (mk2 i))) → Calls Tryd.prog 16 #[.slice (ul2 i) (memN (mk2 i)).length (cl2 i), .slice a (memN (mk2 i)).length c] X fun e y => e = .returned (.bool true) ∧ X.grownBy y none) := fun X a c hX hI => by
              have h1 := ints_same (ul2 i) a (cl2 i) c (intL (memN (mk2 i))) X (hik.kept hX) hI (by rw [intL_length]; have := memN_len (mk2 i); omega)
              rw [intL_length] at h1
              exact h1
            rw [intL_length] at c0
            obtain ⟨a1, ha1⟩ : ∃ v, v = ul2 i := ⟨_, rfl⟩
            obtain ⟨n1, hn1⟩ : ∃ v, v = (memN (mk2 i)).length := ⟨_, rfl⟩
            obtain ⟨c1, hc1⟩ : ∃ v, v = cl2 i := ⟨_, rfl⟩
            obtain ⟨L1, hL1⟩ : ∃ v, v = intL (memN (mk2 i)) := ⟨_, rfl⟩
            rw [← hL1] at HMB HIN
            rw [← hn1] at HMB HIN c0
            rw [← ha1, ← hc1] at HIN c0
            have HUP : Hid (W1.grownBy W1.drew none) := grown_drewN W1 1
            have HKS : Hid (∀ X, W1.grownBy X none → X.cell? ⟨rl2, i, none⟩ = some (.slice a1 n1 c1)) := fun X hX => hX.cell c0 (by simp)
            clear hls hrl' hik ha1 hn1 hc1 hL1
            go_wp2_with fail
            go_region_held3 (fun X => X.cell? ⟨rl2, i, none⟩ = some (.slice a1 n1 c1)) (first | exact HKS.out _ HUP.out | exact HKS.out _ HGM.out | exact HKS.out _ HGI.out | go_keep)
              ((first
                | (go_at_call 22; refine Calls.mono (HMB.out _ HUP.out) ?_; rintro e W2 ⟨a2, c2, rfl, hI2, hg2⟩; have HGM : Hid (W1.grownBy W2 none) := grown_trans HUP.out hg2; have HI2 := hidM hI2; clear hI2 hg2)
                | (go_at_call 16; refine Calls.mono (HIN.out _ _ _ HGM.out HI2.out) ?_; rintro e W3 ⟨rfl, hg3⟩; have HGI : Hid (W1.grownBy W3 none) := grown_trans HGM.out hg3; clear hg3)
                | fail))
            have HGF : Hid (w9.grownBy W3 none) := grown_trans HGN.out HGI.out
            clear c0 HMB HIN HKS HUP
            go_wp2_with fail
            go_roundg (n - (i + 1))
            all_goals first
              | exact (show ∃ (i' : Nat), _ from ⟨i + 1, by omega, rfl, by go_num, HGF.out⟩)
              | (have := HGK.out; omega)
        · have hin : n = i := by omega
          subst hin
          have hid : decide (n < n) = false := decide_eq_false (by omega)
          have HGZ : Hid (w.grownBy wr none) := grown_trans HGB.out HGW.out
          have HAW := show Hid _ from HTB.out wr HGZ.out
          go_wp2_with fail
          refine Calls.mono HAW.out ?_
          rintro e wz ⟨rfl, hgz⟩
          have HGF : Hid (w.grownBy wz none) := grown_trans HGZ.out hgz
          clear hgz
          go_wp2_with fail
          go_ret
          exact ⟨rfl, HGF.out⟩

end Go.Proofs.YtggonakdlloloaaDoor.J
