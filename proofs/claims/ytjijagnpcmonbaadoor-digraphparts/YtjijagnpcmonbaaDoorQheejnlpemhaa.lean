import Derived.Test.YtjijagnpcmonbaaDoorRows
import Derived.Test.YtjijagnpcmonbaaDoorQiaindmhbojla
import Derived.Test.YtjijagnpcmonbaaDoorQbknnffblbpmh
import Derived.Test.YtjijagnpcmonbaaDoorQcdokapcbljmd
import Derived.Test.YtjijagnpcmonbaaDoorQlcmcachabgbb
import Derived.Lib.LaidTab
import Derived.ProofKit
import Derived.LaidMore
import Derived.OpenShut
import Derived.SizedLaws
import Derived.Stop.Joined
import Derived.MakeChecks
import Derived.Test.YtjijagnpcmonbaaDoorQkfmhdlodinkl
import Derived.Test.YtjijagnpcmonbaaDoorQkohhincegcpm
import Derived.Test.YtjijagnpcmonbaaDoorQddjnmlimdkio

/-
  digraph: what the laws' proofs share: the library's table out of the row's condition; raw steps among the arguments.
-/
namespace Go.Proofs.YtjijagnpcmonbaaDoor.J
open Go.ChangeShapes Go.WideShapes Go.ChangeAt Go.RowKit Go.Deep

theorem own : ownKnob Tryd.prog.godebug = none := by kernel_rfl
theorem laidOut : laidOutB Tryd.prog = true := by kernel_rfl
/-- The name of the library's table. -/
def tabName : String := Rows.digraphPartsRow.named.headD ""
theorem gTab : Tryd.prog.globalNamed tabName = some 0 := by kernel_rfl
theorem tTab : (Tryd.prog.globals[0]?).map (·.type) = some 83 := by kernel_rfl
theorem cells5 : Tryd.prog.cellsOf 5 = 1 := by kernel_rfl
theorem cells75 : Tryd.prog.cellsOf 83 = 64 := by kernel_rfl

/-- What the rows list. -/
def laid1 : List (String × DataW Unit) := [(tabName, Rows.laid_math_bits_deBruijn64tab)]

theorem tab_is : (Rows.laid_math_bits_deBruijn64tab : DataW Unit) = Lib.tabData .u8 (Lib.deBruijn64tab.map (fun z : Nat => (z : Int))) := by kernel_rfl

theorem tab_of_laid {W : World} (h : laidMetH Tryd.prog laid1 W) : B.Tab W := by
  rw [MakeChecks.laidMetH_plain _ _ _ (by kernel_rfl)] at h
  unfold laid1 at h
  rw [tab_is] at h
  have ht := Lib.tabIs_of_head gTab tTab Tryd.underlying83 Tryd.underlying5 cells5 cells75 h
  intro j hj
  have hl : j < Lib.deBruijn64tab.length := hj
  have hj' : j < (Lib.deBruijn64tab.map (fun z : Nat => (z : Int))).length := by rw [List.length_map]; exact hl
  have := ht.cell gTab j hj'
  rw [this]
  simp [List.getD, hl]

theorem heap_pos {W : World} (h : B.Tab W) : 0 < W.heap.size := World.block_lt_of_cell? W _ (h 0 (by decide))

section
variable {H : Type} {enc : TypeId × Value → H} {W : World} {fuel : Nat} {cs : List Value} {x : DataW H × List MemPlace}

end

end Go.Proofs.YtjijagnpcmonbaaDoor.J

/-
  digraph: lists of numbers among the arguments, opened, with their sizes.
-/
namespace Go.Proofs.YtjijagnpcmonbaaDoor.J
open Go.ChangeShapes Go.WideShapes Go.ChangeAt Go.RowKit Go.Deep

theorem cellsIntL : Tryd.prog.cellsOf 3 = 1 := by kernel_rfl
theorem cellsIntsL : Tryd.prog.cellsOf 28 = 1 := by kernel_rfl

theorem ints_of_openL {W : World} {x : Addr} {len cap : Nat} {zs : List Int} (hl : len ≤ cap) (hz : zs.length = cap) (hc : ∀ i, i < zs.length → W.cell? (x.add i) = some (.int .i64 (zs.getD i 0))) :
    IntsAt W (some x) (zs.take len) := by
  by_cases h0 : len = 0
  · subst h0; exact .inl (by simp)
  · obtain ⟨b, off, spot⟩ := x
    have h1 := hc 0 (by omega)
    have hs : spot = none := by simpa [Addr.add] using World.cell?_spot h1
    subst hs
    refine .inr ⟨b, off, rfl, fun i hi => ?_⟩
    have hi' : i < len := by simp at hi; omega
    have h2 := hc i (by omega)
    rw [Addr.add_mid] at h2
    rw [h2]
    congr 2
    simp [List.getD, hi']

/-- How many numbers the first n lists have. -/
def sumZ (Q : Nat → List Int) : Nat → Nat
  | 0 => 0
  | i + 1 => sumZ Q i + (Q i).length
theorem sumZ_mono (Q : Nat → List Int) {i n : Nat} (h : i ≤ n) : sumZ Q i ≤ sumZ Q n := by
  induction n with
  | zero => have : i = 0 := by omega
            rw [this]; exact Nat.le_refl _
  | succ n ih =>
    by_cases e : i = n + 1
    · rw [e]; exact Nat.le_refl _
    · have := ih (by omega)
      show _ ≤ sumZ Q n + _
      omega
theorem sumZ_one (Q : Nat → List Int) {i n : Nat} (h : i < n) : (Q i).length ≤ sumZ Q n := by
  have h1 := sumZ_mono Q (show i + 1 ≤ n by omega)
  have h2 : sumZ Q (i + 1) = sumZ Q i + (Q i).length := rfl
  omega

section
variable {H : Type} {enc : TypeId × Value → H} {W : World}

theorem bulk_rows {D : Nat → DataW H} {Q : Nat → List Int} : ∀ (n : Nat), (∀ i, i < n → (Q i).length + 1 ≤ Rows.uptoBulk (D i)) → ∀ k, k ≤ n → sumZ Q k + k ≤ Rows.uptoBulkAll ((List.range k).map D)
  | n, h, 0, _ => Nat.zero_le _
  | n, h, k + 1, hk => by
    have ih := bulk_rows n h k (by omega)
    have h1 := h k (by omega)
    rw [List.range_succ, List.map_append]
    have key : ∀ (l r : List (DataW H)), Rows.uptoBulkAll (l ++ r) = Rows.uptoBulkAll l + Rows.uptoBulkAll r := by
      intro l r
      induction l with
      | nil => simp [Rows.uptoBulkAll]
      | cons d l ih2 => simp only [List.cons_append, Rows.uptoBulkAll, ih2]; omega
    rw [key]
    have h2 : Rows.uptoBulkAll (List.map D [k]) = Rows.uptoBulk (D k) := by simp [Rows.uptoBulkAll]
    rw [h2]
    have h3 : sumZ Q (k + 1) = sumZ Q k + (Q k).length := rfl
    omega

set_option maxRecDepth 100000 in
/-- Lists of numbers among the arguments. -/
theorem open_lists {a : Option Addr} {len cap : Nat} {d : DataW H} {p : List MemPlace} (h : DataW.Trod enc Tryd.prog W 0 (fun _ => true) true 22 (.slice a len cap) d p) :
    ∃ (Q : Nat → List Int) (ua : Nat → Option Addr) (uc : Nat → Nat), LwAt W a len Q ua uc ∧ (∀ i, i < len → ua i = none → (Q i).length = 0 ∧ uc i = 0) ∧ sumZ Q len + len ≤ Rows.uptoBulk d := by
  obtain ⟨fuel, hf⟩ := h
  have hf' : DataW.trod enc Tryd.prog W 0 (fun _ => true) true fuel 22 [.slice a len cap] = some (d, p) := by simpa [Value.cells] using hf
  rcases open_slice Tryd.underlying22 hf' with ⟨hcs, _⟩ | ⟨ad, l, c, m, n, D, Pl, hcs, _, hl, hm, hmm, hx, heach⟩
  · simp at hcs
    obtain ⟨rfl, rfl, rfl⟩ := hcs
    exact ⟨fun _ => [], fun _ => none, fun _ => 0, ⟨.inl rfl, fun i hi => absurd hi (Nat.not_lt_zero _)⟩, fun i hi => absurd hi (Nat.not_lt_zero _), Nat.zero_le _⟩
  · simp only [if_true] at hmm
    simp at hcs
    obtain ⟨rfl, rfl, rfl⟩ := hcs
    rw [cellsIntsL] at heach
    have each : ∀ i, i < len → ∃ t : List Int × Option Addr × Nat, ∃ b off, ad = ⟨b, off, none⟩ ∧ W.cell? ⟨b, off + i, none⟩ = some (.slice t.2.1 t.1.length t.2.2) ∧ IntsAt W t.2.1 t.1 ∧ (t.2.1 = none → t.1.length = 0 ∧ t.2.2 = 0) ∧ t.1.length + 1 ≤ Rows.uptoBulk (D i) := by
      intro i hi
      obtain ⟨cs', h1, h2⟩ := heach i (by omega)
      obtain ⟨_, hcl, hcell⟩ := World.cells?_some h1
      have c0 := hcell 0 (by omega)
      rw [Deep.add_add] at c0
      obtain ⟨b, off, spot⟩ := ad
      have hs : spot = none := by
        obtain ⟨cs0, h10, _⟩ := heach 0 (by omega)
        obtain ⟨_, hcl0, hcell0⟩ := World.cells?_some h10
        have q0 := hcell0 0 (by omega)
        rw [List.getElem?_eq_getElem (by omega)] at q0
        simpa [Addr.add] using World.cell?_spot q0
      subst hs
      rw [add_plain] at c0
      match cs', hcl with
      | [v0], _ =>
        rcases open_ints Tryd.underlying28 Tryd.underlying3 cellsIntL h2 with ⟨hcs2, _⟩ | ⟨y, l2, c2, zs, hcs2, _, hl2, hm2, hz2, hx2, hcell2, hwz⟩
        · simp at hcs2
          subst hcs2
          refine ⟨([], none, 0), b, off, rfl, by simpa using c0, .inl rfl, fun _ => ⟨rfl, rfl⟩, bulk_one _⟩
        · simp at hcs2
          subst hcs2
          have hz' : zs.length = c2 := by simpa using hz2
          have hlt : (zs.take l2).length = l2 := by simp; omega
          have hbk := ints_bulk (x := (D i, Pl i)) (a := some y) (len := l2) (cap := c2) h2
          refine ⟨(zs.take l2, some y, c2), b, off, rfl, ?_, ints_of_openL hl2 hz' hcell2, fun h => (by cases h), ?_⟩
          · show W.cell? _ = some (.slice (some y) (zs.take l2).length c2)
            rw [hlt]; simpa using c0
          · show (zs.take l2).length + 1 ≤ _
            have h5 := open_ints Tryd.underlying28 Tryd.underlying3 cellsIntL h2
            rw [hlt]
            simp only [Prod.mk.injEq] at hx2
            rw [hx2.1]
            have := bulk_slice (lits (H := H) .i64 (zs.take l2)) (lits (H := H) .i64 (zs.drop l2))
            simp only [lits, List.length_map, List.length_take] at this
            simp only [lits]
            omega
    obtain ⟨S, hS⟩ := choose_lt (α := List Int × Option Addr × Nat) each
    refine ⟨fun i => (S i).1, fun i => (S i).2.1, fun i => (S i).2.2, ⟨?_, fun i hi => ?_⟩, fun i hi => ?_, ?_⟩
    · by_cases h0 : len = 0
      · exact .inl h0
      · obtain ⟨b, off, rfl, _⟩ := hS 0 (by omega)
        refine .inr ⟨b, off, rfl, fun i hi => ?_⟩
        obtain ⟨b', off', e, r1, _⟩ := hS i hi
        simp only [Addr.mk.injEq, and_true] at e
        obtain ⟨rfl, rfl⟩ := e
        exact r1
    · obtain ⟨_, _, _, _, r2, _⟩ := hS i hi
      exact r2
    · obtain ⟨_, _, _, _, _, r3, _⟩ := hS i hi
      exact r3
    · have h1 := bulk_rows (D := D) (Q := fun i => (S i).1) len (fun i hi => by
        obtain ⟨_, _, _, _, _, _, r4⟩ := hS i hi
        exact r4) len (Nat.le_refl _)
      simp only [Prod.mk.injEq] at hx
      rw [hx.1]
      unfold Rows.uptoBulk
      omega
end

end Go.Proofs.YtjijagnpcmonbaaDoor.J

/-
  digraph: the law DigraphParts, walked.
-/
namespace Go.Proofs.YtjijagnpcmonbaaDoor.J
open Go.RowKit Go.Maps Go.Shelf D

attribute [local go_sem] Oper.semAt_some

/-- Lists that were told, or none. -/
def CmpOut (K : Nat) (P : Nat → List Nat) (ec : Int) (X : World) (e : Ending) (y : World) : Prop := ∃ (ka : Option Addr) (kc : Nat) (ua : Nat → Option Addr) (uc : Nat → Nat), e = .returned (.tuple #[.slice ka K kc, .int .i64 ec]) ∧ CqP y X.heap.size ka kc K P ua uc ∧ X.grownBy y none
theorem CmpOut.none (ec : Int) (X y : World) (hg : X.grownBy y Option.none) : CmpOut 0 (fun _ => []) ec X (.returned (.tuple #[.slice Option.none 0 0, .int .i64 ec])) y := ⟨Option.none, 0, fun _ => Option.none, fun _ => 0, rfl, CqP.nil _ _ _ _ _, hg⟩

set_option maxRecDepth 100000 in
set_option maxHeartbeats 8000000 in
theorem partsL_any (w : World) (N : Nat) (a : Option Addr) (c : Nat) (Qe : Nat → List Int) (va : Nat → Option Addr) (vc : Nat → Nat) (hL : LwAt w a N Qe va vc) (hnil : ∀ i, i < N → va i = none → (Qe i).length = 0 ∧ vc i = 0) (hN : N ≤ 1048576) (hQ : ∀ i, i < N → (Qe i).length ≤ 17592186044416)
    (K : Nat) (P : Nat → List Nat) (ec : Int) (hK : K ≤ 1048576) (hP : ∀ j, j < K → (P j).length ≤ 1048576)
    (hCI : ∀ X la lc ua uc, w.grownBy X none → LsAt X la N Qe ua uc → Calls Tryd.prog 6 #[.slice la N lc] X fun e y => CmpOut K P ec X e y)
    (hRC : ∀ X, w.grownBy X none → Calls Tryd.prog 7 #[.slice a N c] X fun e y => CmpOut K P ec X e y)
    (hT : B.Tab w) (h0 : 0 < w.heap.size) :
    Calls Tryd.prog 3 #[.slice a N c] w fun e w' => e = .returned (.bool true) ∧ w.grownBy w' none := by
  have HCI := hidW hCI
  have HRC := hidW hRC
  have HLX : Hid (∀ X, w.grownBy X none → LwAt X a N Qe va vc) := fun X hX => hL.kept hX
  have HAW : Hid (∀ X, w.grownBy X none → Calls Tryd.prog 9 #[] X fun e w' => e = .returned (.bool true) ∧ X.grownBy w' none) := fun X hX => dawake_any X (tab_kept hT hX) (Nat.lt_of_lt_of_le h0 hX.size)
  have HLE := show Hid _ from dlent_w w N a c Qe va vc hL hnil (by omega) hQ
  have HPL := hidW hP
  have HQL := hidW hQ
  have HSL : Hid (∀ X a1 c1 a2 c2 u1 k1 u2 k2, LwAt X a1 K (fun j => intL (P j)) u1 k1 → LwAt X a2 K (fun j => intL (P j)) u2 k2 → Calls Tryd.prog 8 #[.slice a1 K c1, .slice a2 K c2] X fun e y => e = .returned (.bool true) ∧ X.grownBy y none) := fun X a1 c1 a2 c2 u1 k1 u2 k2 g1 g2 => lists_w a1 a2 c1 c2 K _ u1 u2 k1 k2 X g1 g2 hK (fun i hi => by rw [intL_length]; have := hP i hi; omega)
  have HSE : Hid (∀ X a1 c1 u1 k1, w.grownBy X none → LwAt X a1 N Qe u1 k1 → Calls Tryd.prog 8 #[.slice a1 N c1, .slice a N c] X fun e y => e = .returned (.bool true) ∧ X.grownBy y none) := fun X a1 c1 u1 k1 hX g1 => lists_w a1 a c1 c N _ u1 va k1 vc X g1 (hL.kept hX) hN hQ
  have hee : (ec != ec) = false := bne_self_eq_false _
  have hee2 : (ec == ec) = true := beq_self_eq_true _
  obtain ⟨i0, hi0, hz0, hz1, hz2⟩ := info_parts infoInt
  clear hCI hRC hL hnil hQ hP hT h0
  go_enter Tryd.func3, Tryd.ntmps3
  go_wp2_with fail
  refine Calls.mono HLE.out ?_
  rintro e w1 ⟨la, lc, lua, luc, rfl, hLt, hg1⟩
  have HIN : Hid (∀ X, w1.grownBy X none → LsAt X la N Qe lua luc) := fun X hX => (hLt.kept hX).ls
  have HG1 := hidW hg1
  have HC1 := show Hid _ from HCI.out w1 la lc lua luc hg1 (HIN.out w1 (grown_refl _ _))
  clear hLt hg1 HLE
  go_wp2_with fail
  refine Calls.mono HC1.out ?_
  rintro e w2 ⟨ka, kc, kua, kuc, rfl, hC2, hg2⟩
  have HG2 := hidW hg2
  have HC2 := hidW hC2
  have HR2 := show Hid _ from HRC.out w2 (grown_trans HG1.out hg2)
  clear hC2 hg2 HC1
  go_wp2_with fail
  refine Calls.mono HR2.out ?_
  rintro e w3 ⟨ra, rc, rua, ruc, rfl, hC3, hg3⟩
  have HG3 : Hid (w1.grownBy w3 none) := grown_trans HG2.out hg3
  have HCR := hidW hC3
  have HC3 := hidW (HC2.out.kept hg3)
  have HG23 := hidW hg3
  have HC4 := show Hid _ from HSL.out w3 ka kc ra rc kua kuc rua ruc (HC3.out.ls.lw) (HCR.out.ls.lw)
  clear hC3 hg3 HR2
  go_wp2_with fail
  refine Calls.mono HC4.out ?_
  rintro e w4 ⟨rfl, hg4⟩
  have HG4 : Hid (w1.grownBy w4 none) := grown_trans HG3.out hg4
  have HCR4 := hidW (HCR.out.kept hg4)
  have HG24 : Hid (w2.grownBy w4 none) := grown_trans HG23.out hg4
  have HC5 := hidW (HC3.out.kept hg4)
  have HS5 := hidW (HC2.out)
  clear hg4 HC4 HC3 HCR HG23
  obtain ⟨lk, hka, hsp⟩ : ∃ lk, (0 < K → ka = some ⟨lk, 0, none⟩) ∧ (0 < K → ∃ cur, SpC w1 w4 w2.heap.size lk K (fun j => 0 ≤ j) P kua kuc cur) := by
    by_cases hK0 : 0 < K
    · obtain ⟨lk, lcap, hlk, -⟩ := owns_at HS5.out.out hK0
      simp only [Value.slice.injEq] at hlk
      obtain ⟨rfl, -, -⟩ := hlk
      obtain ⟨cur, hs⟩ := HS5.out.sp HG2.out
      exact ⟨lk, fun _ => rfl, fun _ => ⟨cur, (hs.kept HG24.out).less fun _ _ => trivial⟩⟩
    · exact ⟨0, fun h => absurd h hK0, fun h => absurd h hK0⟩
  have HKA := hidW hka
  have HSP := hidW hsp
  clear hka hsp HC5 HS5 HG2 HG3 HG24
  go_wp2_with fail
  go_loopg [8] K (fun gk v8 wr => ∃ i : Nat, i ≤ K ∧ gk = K - i ∧ v8 = .int .i64 i ∧ w1.grownBy wr none ∧ CqP wr w2.heap.size ra rc K P rua ruc ∧ (i < K → ∃ cur, SpC w1 wr w2.heap.size lk K (fun j => i ≤ j) P kua kuc cur))
  case atStart => exact ⟨0, Nat.zero_le _, rfl, rfl, HG4.out, HCR4.out, HSP.out⟩
  case round =>
    clear HG4 HCR4 HSP
    obtain ⟨i, hi, hgk, rfl, hG, hR, hS⟩ := hrel
    have HGK : Hid (gk = K - i) := hgk
    have HG := hidW hG
    have HR := hidW hR
    have HS := hidW hS
    clear hgk hG hR hS
    by_cases hlt : i < K
    · have hid : decide (i < K) = true := decide_eq_true hlt
      have hi0' : (0 : Int) ≤ (i : Int) := by omega
      have hi1' : (i : Int) < (K : Int) := by omega
      have hka := HKA.out (by omega)
      subst hka
      obtain ⟨cur0, hs0⟩ := HS.out hlt
      have HS0 := hidW hs0
      obtain ⟨D, hD⟩ : ∃ d, d = (P i).length := ⟨_, rfl⟩
      have hDb : D ≤ 1048576 := by rw [hD]; exact HPL.out i hlt
      obtain ⟨uk, huk⟩ : ∃ u, u = kua i := ⟨_, rfl⟩
      obtain ⟨ck, hck⟩ : ∃ u, u = kuc i := ⟨_, rfl⟩
      have HDC : Hid (∀ X cur, SpC w1 X w2.heap.size lk K (fun j => i ≤ j) P kua kuc cur → X.cell? ⟨lk, i, none⟩ = some (.slice uk D ck) ∧ Like1 X w1.heap.size (.slice uk D ck) D ∧ ∀ g, (Value.slice uk D ck).ownBlock = some g → g < w2.heap.size) := fun X cur h => by
        rw [hD, huk, hck]
        exact ⟨h.cell (Nat.le_refl _) hlt, h.rows i (Nat.le_refl _) hlt, h.hi i (Nat.le_refl _) hlt⟩
      have c0 := (HDC.out _ _ hs0).1
      clear hD huk hck hs0 HS
      go_wp2_with fail
      go_loopg [9] D (fun gk v9 wr => ∃ (j : Nat) (cur : Array Value), j ≤ D ∧ gk = D - j ∧ v9 = .int .i64 j ∧ SpC w1 wr w2.heap.size lk K (fun p => i ≤ p) P kua kuc cur ∧ CqP wr w2.heap.size ra rc K P rua ruc)
      case atStart => exact ⟨0, cur0, Nat.zero_le _, rfl, rfl, HS0.out, HR.out⟩
      case round =>
        clear HS0 HR HG c0
        obtain ⟨j, cur, hj, hgj, rfl, hS, hR⟩ := hrel
        have HGJ : Hid (gk = D - j) := hgj
        have HS := hidW hS
        have HR := hidW hR
        obtain ⟨c0, hlk, hbd⟩ := HDC.out _ _ hS
        clear hgj hS hR
        by_cases hjt : j < D
        · have hjd : decide (j < D) = true := decide_eq_true hjt
          have hj0 : (0 : Int) ≤ (j : Int) := by omega
          have hj1 : (j : Int) < (D : Int) := by omega
          obtain ⟨g, c', u0, gcur, he, hBg, e0, ef, hblk⟩ := hlk.at hjt
          simp only [Value.slice.injEq] at he
          obtain ⟨rfl, _, rfl⟩ := he
          have HN2 : Hid (SpC w1 (wr.setCell ⟨g, j, none⟩ (.int .i64 (-1))) w2.heap.size lk K (fun p => i ≤ p) P kua kuc cur) := HS.out.turn (grown_setCell _ _ _) (.set _ _ _ _) hblk hBg
          have HR2 : Hid (CqP (wr.setCell ⟨g, j, none⟩ (.int .i64 (-1))) w2.heap.size ra rc K P rua ruc) := HR.out.below (grown_setCell _ _ _) (hbd g rfl)
          clear hlk hBg hblk hbd
          go_wp2_with fail
          go_roundg (D - (j + 1))
          all_goals first
            | exact (show ∃ (j' : Nat), _ from ⟨j + 1, cur, by omega, rfl, by go_num, HN2.out, HR2.out⟩)
            | (have := HGJ.out; omega)
        · have hjD : D = j := by omega
          subst hjD
          have hjd : decide (D < D) = false := decide_eq_false (by omega)
          obtain ⟨xs, hxs⟩ := hlk
          have HXS := hidW hxs
          have HBD := hidW hbd
          have HSZ : Hid (w1.heap.size ≤ (wr.alloc (.cells #[.int .i64 (-2), .int .i64 (-2)] 3)).heap.size) := (HS.out.kept (World.grownBy_alloc wr (.cells #[.int .i64 (-2), .int .i64 (-2)] 3) none)).grown.size
          have c1 : ∀ o, (wr.alloc o).cell? ⟨lk, i, none⟩ = some (.slice uk D ck) := fun o => (World.grownBy_alloc _ o none).cell c0 (by simp)
          clear hxs hbd
          go_wp2_with (
            at_builtin
            refine wpList_append_like _ rfl (.tmp 57) (.tmp 58) 28 rfl w1.heap.size 3 i0 (.int .i64 0) 1 8 Tryd.underlying28 hi0 hz0 hz1 hz2 rfl (by decide) (.slice uk D ck) D xs rfl (keep0 HXS.out (World.grownBy_alloc wr (.cells #[.int .i64 (-2), .int .i64 (-2)] 3) none)) ⟨wr.heap.size, 0, none⟩ 2 2 [.int .i64 (-2), .int .i64 (-2)] rfl rfl (World.news_of_block (heap_alloc_last wr _)) (by simp [Value.oneCell']) (by unfold maxLen; omega) (by omega) HSZ.out ?_
            intro a9 c9 wC hgC hsC
            have HVS := hidW ((HS.out.kept (World.grownBy_alloc wr (.cells #[.int .i64 (-2), .int .i64 (-2)] 3) none)).more (keep0 HXS.out (World.grownBy_alloc wr (.cells #[.int .i64 (-2), .int .i64 (-2)] 3) none)) hgC hsC)
            have f0 := (HDC.out _ _ HVS.out).1
            have f1 := HVS.out.free i
            have HN3 := hidW (HVS.out.set (k := i) (u := .slice a9 (D + 2) c9) (w'' := fun p => i + 1 ≤ p) (fun p hp => ⟨by omega, by omega⟩))
            have HR3 : Hid (CqP (wC.setCell ⟨lk, i, none⟩ (.slice a9 (D + 2) c9)) w2.heap.size ra rc K P rua ruc) := ((HR.out.kept (World.grownBy_alloc wr (.cells #[.int .i64 (-2), .int .i64 (-2)] 3) none)).low hgC HBD.out).below (grown_setCell _ _ _) HVS.out.lo.2
            have HG3 := hidW HN3.out.grown
            clear hgC hsC)
          go_roundg (K - (i + 1))
          all_goals first
            | exact (show ∃ (i' : Nat), _ from ⟨i + 1, by omega, rfl, by go_num, HG3.out, HR3.out, fun _ => ⟨_, HN3.out⟩⟩)
            | (have := HGK.out; omega)
    · have hin : K = i := by omega
      subst hin
      have hid : decide (K < K) = false := decide_eq_false (by omega)
      have HC6 := show Hid _ from HCI.out wr la lc lua luc (grown_trans HG1.out HG.out) (HIN.out wr HG.out)
      clear HS hlt HGK
      go_wp2_with fail
      refine Calls.mono HC6.out ?_
      rintro e w5 ⟨ka2, kc2, kua2, kuc2, rfl, hC6, hg6⟩
      have HG5 : Hid (w1.grownBy w5 none) := grown_trans HG.out hg6
      have HC7 := show Hid _ from HSL.out w5 ka2 kc2 ra rc kua2 kuc2 rua ruc (hC6.ls.lw) ((HR.out.kept hg6).ls.lw)
      clear hC6 hg6 HC6
      go_wp2_with fail
      refine Calls.mono HC7.out ?_
      rintro e w6 ⟨rfl, hg7⟩
      have HG6 : Hid (w1.grownBy w6 none) := grown_trans HG5.out hg7
      have HC8 := show Hid _ from HSE.out w6 la lc lua luc (grown_trans HG1.out HG6.out) ((HIN.out w6 HG6.out).lw)
      clear hg7 HC7 HG5
      go_wp2_with fail
      refine Calls.mono HC8.out ?_
      rintro e w7 ⟨rfl, hg8⟩
      have HG7 : Hid (w.grownBy w7 none) := grown_trans HG1.out (grown_trans HG6.out hg8)
      have HA7 := show Hid _ from HAW.out w7 HG7.out
      clear hg8 HC8 HG6
      go_wp2_with fail
      refine Calls.mono HA7.out ?_
      rintro e w8 ⟨rfl, hg9⟩
      have HG8 : Hid (w.grownBy w8 none) := grown_trans HG7.out hg9
      clear hg9 HA7
      go_wp2_with fail
      go_ret
      exact ⟨rfl, HG8.out⟩

end Go.Proofs.YtjijagnpcmonbaaDoor.J

/-
  digraph: DigraphParts: its core, of any lists.
-/
namespace Go.Proofs.YtjijagnpcmonbaaDoor.J
open Go.RowKit Go.Maps Go.Shelf D

theorem LwAt.ext {X : World} {a : Option Addr} {N : Nat} {Q Q' : Nat → List Int} {ua : Nat → Option Addr} {uc : Nat → Nat} (h : LwAt X a N Q ua uc) (e : ∀ i, i < N → Q i = Q' i) : LwAt X a N Q' ua uc :=
  ⟨h.1.imp id fun ⟨k, o, e1, h1⟩ => ⟨k, o, e1, fun i hi => by rw [← e i hi]; exact h1 i hi⟩, fun i hi => by rw [← e i hi]; exact h.2 i hi⟩
/-- Numbers at or above zero as such. -/
def natsOf (Q : Nat → List Int) : Nat → List Nat := fun i => (Q i).map Int.toNat
theorem natsOf_eq {l : List Int} (h : ∀ x ∈ l, 0 ≤ x) : intL (l.map Int.toNat) = l := by
  unfold intL
  rw [List.map_map]
  conv => rhs; rw [← List.map_id l]
  refine List.map_congr_left fun x hx => ?_
  have := h x hx
  simp only [Function.comp_apply, id]
  omega
theorem sumL_nats (Q : Nat → List Int) : ∀ n, sumL (natsOf Q) n = sumZ Q n
  | 0 => rfl
  | n + 1 => by
    show sumL (natsOf Q) n + _ = sumZ Q n + _
    rw [sumL_nats Q n]
    simp [natsOf]
theorem cmpL_congr {ls ls' : Nat → Nat} {N : Nat} (h : ∀ x, x < N → ls x = ls' x) : cmpL ls N = cmpL ls' N := by
  have h1 : lsts ls N = lsts ls' N := by
    unfold lsts
    refine List.filter_congr fun x hx => ?_
    rw [h x (List.mem_range.1 hx)]
  unfold cmpL
  rw [h1]
  refine List.map_congr_left fun l _ => List.filter_congr fun y hy => ?_
  rw [h y (List.mem_range.1 hy)]

/-- The document's parts of any relation of bounded size. -/
theorem rparts_all (w : World) (N : Nat) (a : Option Addr) (c : Nat) (Q : Nat → List Int) (va : Nat → Option Addr) (vc : Nat → Nat) (hL : LwAt w a N Q va vc) (hb : sumZ Q N + N ≤ 1048576) (hR : ∀ i, i < N → ∀ x ∈ Q i, 0 ≤ x ∧ x < (N : Int)) :
    LwAt w a N (fun i => intL (natsOf Q i)) va vc ∧ (∀ x, x < N → ∀ y ∈ natsOf Q x, y < N) ∧ (∀ x, x < N → (natsOf Q x).length ≤ 17592186044416) ∧ Calls Tryd.prog 19 #[.slice a N c] w fun e y => PartsTold w N (natsOf Q) e y := by
  have hE : ∀ x, x < N → ∀ y ∈ natsOf Q x, y < N := fun x hx y hy => by
    obtain ⟨z, hz, rfl⟩ := List.mem_map.1 hy
    have := hR x hx z hz
    omega
  have hl : ∀ x, x < N → (natsOf Q x).length ≤ 17592186044416 := fun x hx => by
    have h1 := sumZ_one Q hx
    have h2 : (natsOf Q x).length = (Q x).length := by simp [natsOf]
    omega
  have hL' : ∀ X, w.grownBy X none → LwAt X a N (fun i => intL (natsOf Q i)) va vc := fun X hX => (hL.kept hX).ext fun i hi => (natsOf_eq fun x hx => (hR i hi x hx).1).symm
  have hs : sumL (natsOf Q) N ≤ 1048576 := by rw [sumL_nats]; omega
  refine ⟨hL' w (grown_refl _ _), hE, hl, ?_⟩
  refine rparts_any w N a c (natsOf Q) (tnR (natsOf Q) N) va vc (hL' w (grown_refl _ _)) (by omega) hl hE (fun x y hx _ => ?_) (fun x _ y hy => ?_) (fun x _ => ?_) (fun X hX => rturn_any X N a c (natsOf Q) va vc (hL' X hX) (by omega) hs hE)
  · rw [tnR_mem]
    exact ⟨fun h => ⟨hx, h⟩, And.right⟩
  · exact ((tnR_mem _ _ _ _).1 hy).1
  · have := tnR_len (natsOf Q) x N
    omega

theorem parts_core (w : World) (N : Nat) (a : Option Addr) (c : Nat) (Q : Nat → List Int) (va : Nat → Option Addr) (vc : Nat → Nat) (hL : LwAt w a N Q va vc) (hnil : ∀ i, i < N → va i = none → (Q i).length = 0 ∧ vc i = 0) (hb : sumZ Q N + N ≤ 1048576) (hT : B.Tab w) (h0 : 0 < w.heap.size) :
    Calls Tryd.prog 3 #[.slice a N c] w fun e w' => e = .returned (.bool true) ∧ w.grownBy w' none := by
  have hl : ∀ i, i < N → (Q i).length ≤ 17592186044416 := fun i hi => by have := sumZ_one Q hi; omega
  by_cases hR : ∀ i, i < N → ∀ x ∈ Q i, 0 ≤ x ∧ x < (N : Int)
  · obtain ⟨_, hE, hEl, _⟩ := rparts_all w N a c Q va vc hL hb hR
    obtain ⟨ls, hls⟩ := leasts_ex hE
    have key : ∀ X e y, CmpTold N (natsOf Q) X e y → CmpOut (cmpL ls N).length (fun j => (cmpL ls N).getD j []) 0 X e y := fun X e y h => by
      obtain ⟨ls', ka, kc, K, P, ua, uc, rfl, hK, hP, hls', hC, hg⟩ := h
      have he : cmpL ls' N = cmpL ls N := cmpL_congr fun x hx => (hls' x hx).unique (hls x hx)
      rw [he] at hK hP
      subst hK
      exact ⟨ka, kc, ua, uc, rfl, hC.ext hP, hg⟩
    have hnats : ∀ i, i < N → Q i = intL (natsOf Q i) := fun i hi => (natsOf_eq fun x hx => (hR i hi x hx).1).symm
    refine partsL_any w N a c Q va vc hL hnil (by omega) hl (cmpL ls N).length (fun j => (cmpL ls N).getD j []) 0 (by rw [cmpL_length]; have := lsts_len ls N; omega) (fun j _ => by have := cmpL_len ls N j; omega) (fun X la lc ua uc _ hLs => ?_) (fun X hX => ?_) hT h0
    · exact (comp_ok X N la lc (natsOf Q) ua uc (hLs.ext fun i hi => ⟨hnats i hi, rfl, rfl⟩) (by omega) hEl hE).mono fun e y h => key X e y h
    · refine (rcomp_ok X N a c (natsOf Q) va vc ((hL.kept hX).ext hnats) (by omega) hEl hE (fun X' hX' => ?_)).mono fun e y h => key X e y h
      exact (rparts_all X' N a c Q va vc (hL.kept (grown_trans hX hX')) hb hR).2.2.2
  · refine partsL_any w N a c Q va vc hL hnil (by omega) hl 0 (fun _ => []) 1 (by omega) (fun j h => absurd h (Nat.not_lt_zero _)) (fun X la lc ua uc _ hLs => ?_) (fun X hX => ?_) hT h0
    · refine (comp_bad X N la lc Q ua uc hLs (by omega) hl hR).mono ?_
      rintro e y ⟨rfl, rfl⟩
      exact CmpOut.none 1 _ _ (grown_refl _ _)
    · refine (rcomp_bad X N a c Q va vc (hL.kept hX) (by omega) hl hR).mono ?_
      rintro e y ⟨rfl, rfl⟩
      exact CmpOut.none 1 _ _ (grown_refl _ _)

end Go.Proofs.YtjijagnpcmonbaaDoor.J
