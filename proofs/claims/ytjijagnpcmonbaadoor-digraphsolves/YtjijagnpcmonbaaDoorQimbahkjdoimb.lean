import Derived.Test.YtjijagnpcmonbaaDoorQjijokkhlijnj
import Derived.Test.YtjijagnpcmonbaaDoorQfiagiddocdme
import Derived.Test.YtjijagnpcmonbaaDoorQboobcegjoggh
import Derived.Test.YtjijagnpcmonbaaDoorQjhnfoklclfbd
import Derived.Test.YtjijagnpcmonbaaDoorQnnkknoimmiin
import Derived.Test.YtjijagnpcmonbaaDoorQdogogoehhlbo
import Derived.Test.YtjijagnpcmonbaaDoorQhjaphfjdidgb
import Derived.Deep.RegionHeld3
import Derived.BigQuiet
import Derived.Test.YtjijagnpcmonbaaDoorQpgpgcbohfefb
import Derived.Deep.RegionLaw
import Derived.Deep.DrawnRows

/-
  digraph: Solve.
-/
namespace Go.Proofs.YtjijagnpcmonbaaDoor.J
open Go.RowKit Go.Maps Go.Shelf D

attribute [local go_sem] Oper.semAt_some

theorem infoShP : (Tryd.prog.info? 42).map (fun i => (i.zero, i.size, i.bytes)) = some (some (.pointer none), 1, 8) := by kernel_rfl
theorem infoRowsS : (Tryd.prog.info? 28).map (fun i => (i.zero, i.size, i.bytes)) = some (some (.slice none 0 0), 1, 24) := by kernel_rfl

/-- A set's members, as numbers. -/
def memN (m : Nat) : List Nat := (List.range 1024).filter fun i => m.testBit i
theorem mems_intL (m : Nat) : B.mems 1024 m = intL (memN m) := rfl
theorem mems_natV (m : Nat) : (B.mems 1024 m).map (Value.int .i64) = natV (memN m) := by
  rw [mems_intL]
  unfold intL natV
  rw [List.map_map]
  rfl
theorem memN_len (m : Nat) : (memN m).length ≤ 1024 := by
  unfold memN
  have := List.length_filter_le (fun i => m.testBit i) (List.range 1024)
  rwa [List.length_range] at this
theorem mem_memN {m j : Nat} : j ∈ memN m ↔ j < 1024 ∧ m.testBit j = true := by unfold memN; simp

theorem members_d (b sz m : Nat) (w : World) (h : B.SetM w (some ⟨b, 0, none⟩) sz m) (hT : B.Tab w) (h0 : 0 < w.heap.size) :
    Calls Tryd.prog 25 #[.pointer (some ⟨b, 0, none⟩)] w fun e w' => ∃ a c, e = .returned (.slice a (memN m).length c) ∧ w'.ownsRow w.heap.size 3 1 (.slice a (memN m).length c) (memN m).length (natV (memN m)) ∧ w.grownBy w' none := by
  refine (callsIn_wide.1 (B.members_in 3 (Nat.le_refl _) B.cnt B.countIs cnt_le (some ⟨b, 0, none⟩) sz m w h hT h0)).mono ?_
  rintro e w' ⟨v, rfl, ho, hb⟩
  rw [mems_natV, mems_intL, intL_length] at ho
  obtain ⟨a, c, rfl⟩ := owns_cut ho
  exact ⟨a, c, rfl, ho, below_grown hb⟩
theorem tab_kept {w X : World} (hT : B.Tab w) (hg : w.grownBy X none) : B.Tab X := fun j hj => hg.cell (hT j hj) (by simp)

/-- Lists under way in a row that was made: the first k are there. -/
structure RwP (X : World) (B rb N : Nat) (Q : Nat → List Nat) (ua : Nat → Option Addr) (uc : Nat → Nat) (k : Nat) : Prop where
  val : ValAt X rb N 28 (fun i => if i < k then .slice (ua i) (Q i).length (uc i) else .slice none 0 0)
  inn : ∀ i, i < k → X.ownsRow B 3 1 (.slice (ua i) (Q i).length (uc i)) (Q i).length (natV (Q i))
  sep : ∀ i j, i < k → j < k → i ≠ j → (Value.slice (ua i) (Q i).length (uc i)).ownBlock = none ∨ (Value.slice (ua i) (Q i).length (uc i)).ownBlock ≠ (Value.slice (ua j) (Q j).length (uc j)).ownBlock
  lo : B ≤ rb
theorem RwP.kept {X Y : World} {B rb N : Nat} {Q : Nat → List Nat} {ua : Nat → Option Addr} {uc : Nat → Nat} {k : Nat} (h : RwP X B rb N Q ua uc k) (hg : X.grownBy Y none) : RwP Y B rb N Q ua uc k := ⟨h.val.kept hg, fun i hi => keep0 (h.inn i hi) hg, h.sep, h.lo⟩
theorem own_ne_val {X : World} {B g len s n : Nat} {t e : TypeId} {c : Nat → Value} {v : Value} {xs : List Value} (ho : X.ownsRow B e s v n xs) (h : ValAt X g len t c) (hne : e ≠ t) : v.ownBlock = none ∨ v.ownBlock ≠ some g := by
  rcases ho.2 with ⟨rfl, _⟩ | ⟨g', cap, cur, rfl, _, hh, _⟩
  · exact .inl rfl
  · refine .inr fun e2 => ?_
    have e3 : g' = g := by simpa [Value.ownBlock] using e2
    exact ne_type hh h hne e3
theorem RwP.put {X Y : World} {B rb N : Nat} {Q : Nat → List Nat} {ua : Nat → Option Addr} {uc : Nat → Nat} {k : Nat} {a : Option Addr} {c : Nat} (h : RwP X B rb N Q ua uc k) (hg : X.grownBy Y none) (hB : B ≤ X.heap.size) (ho : Y.ownsRow X.heap.size 3 1 (.slice a (Q k).length c) (Q k).length (natV (Q k))) :
    RwP (Y.setCell ⟨rb, k, none⟩ (.slice a (Q k).length c)) B rb N Q (updC ua k a) (updC uc k c) (k + 1) := by
  have hY := h.kept hg
  have hs : Y.grownBy (Y.setCell ⟨rb, k, none⟩ (.slice a (Q k).length c)) (some rb) := grown_setCell _ _ _
  refine ⟨(hY.val.set k _).ext fun i _ => ?_, fun i hi => ?_, fun i j hi hj hne => ?_, h.lo⟩
  · unfold J.put
    by_cases e : i = k
    · subst e
      rw [if_pos rfl, if_pos (by omega), updC_same, updC_same]
    · rw [if_neg e, updC_other _ _ e, updC_other _ _ e]
      show (if i < k then Value.slice (ua i) (Q i).length (uc i) else .slice none 0 0) = _
      by_cases e2 : i < k
      · rw [if_pos e2, if_pos (by omega)]
      · rw [if_neg e2, if_neg (by omega)]
  · by_cases e : i = k
    · subst e
      rw [updC_same, updC_same]
      exact (owns_lower ho hB).kept hs (own_ne_val ho hY.val (by decide))
    · rw [updC_other _ _ e, updC_other _ _ e]
      have h1 := hY.inn i (by omega)
      exact h1.kept hs (own_ne_val h1 hY.val (by decide))
  · by_cases e : i = k
    · subst e
      have e2 : j ≠ i := fun h => hne h.symm
      rw [updC_same, updC_same, updC_other _ _ e2, updC_other _ _ e2]
      cases hv : (Value.slice a (Q i).length c).ownBlock with
      | none => exact .inl rfl
      | some g =>
        refine .inr fun e3 => ?_
        have h1 := (ho.lt g hv).1
        have h2 := ((h.inn j (by omega)).lt g e3.symm).2
        omega
    · by_cases e2 : j = k
      · subst e2
        rw [updC_same, updC_same, updC_other _ _ e, updC_other _ _ e]
        cases hv : (Value.slice (ua i) (Q i).length (uc i)).ownBlock with
        | none => exact .inl rfl
        | some g =>
          refine .inr fun e3 => ?_
          have h1 := (ho.lt g e3.symm).1
          have h2 := ((h.inn i (by omega)).lt g hv).2
          omega
      · rw [updC_other _ _ e, updC_other _ _ e, updC_other _ _ e2, updC_other _ _ e2]
        exact h.sep i j (by omega) (by omega) hne
theorem RwP.done {X : World} {B rb N : Nat} {Q : Nat → List Nat} {ua : Nat → Option Addr} {uc : Nat → Nat} (h : RwP X B rb N Q ua uc N) (hN : N ≤ maxLen) : CqP X B (some ⟨rb, 0, none⟩) N N Q ua uc := by
  refine ⟨⟨by rw [rowsC_length, Nat.mul_one], .inr ⟨rb, N, _, rfl, h.lo, h.val, Nat.le_refl _, hN, by simp, ?_⟩⟩, h.inn, h.sep⟩
  rw [Nat.mul_one, List.take_of_length_le (by simp)]
  unfold rowsC
  exact List.map_congr_left fun i hi => if_pos (List.mem_range.1 hi)

/-- Shares stay where a block of something else turns. -/
theorem SiAt.other {w X Y : World} {N p1 sm p2 p3 k : Nat} {oa ea : Option Addr} {oc ec : Nat} {C : Nat → Bool} {sh bs tk mk : Nat → Nat} {cs : Array Value} (h : SiAt w X N p1 sm p2 p3 oa ea oc ec C sh bs tk mk) (hk : X.heap[k]? = some (.cells cs 28 (0, 0))) (hg : X.grownBy Y (some k)) (hw : w.heap.size ≤ k) : SiAt w Y N p1 sm p2 p3 oa ea oc ec C sh bs tk mk := by
  have key : ∀ {j : Nat} {cs' : Array Value} {t' : TypeId}, X.heap[j]? = some (.cells cs' t' (0, 0)) → t' ≠ 28 → Y.heap[j]? = some (.cells cs' t' (0, 0)) := fun {j cs' t'} h1 h2 => (hg.block j (Array.getElem?_eq_some_iff.1 h1).1 (by simpa using ne_type h1 hk h2)).trans h1
  refine ⟨grown_new h.grown hg hw, key h.b1 (by decide), key h.b2 (by decide), key h.b3 (by decide), key h.val (by decide), h.lo, fun x hx hC => ?_⟩
  have h1 := h.each x hx hC
  obtain ⟨cs2, hcs2⟩ := h1.tak
  exact ⟨key h1.cel (by decide), setM_block h1.set fun _ h2 => key h2 (by decide), ⟨cs2, key hcs2 (by decide)⟩, h1.los⟩

/-- What Solve tells. -/
def SolTold (N : Nat) (E : Nat → List Nat) (own : Nat → List Int) (w : World) (e : Ending) (y : World) : Prop := ∃ (rb : Nat) (mk : Nat → Nat) (ua : Nat → Option Addr) (uc : Nat → Nat), e = .returned (.tuple #[.slice (some ⟨rb, 0, none⟩) N N, .int .i64 0]) ∧ (∀ x, x < N → mk x < 2 ^ 1024 ∧ ∀ b, (mk x).testBit b = true ↔ Gets E own x b) ∧ CqP y w.heap.size (some ⟨rb, 0, none⟩) N N (fun x => memN (mk x)) ua uc ∧ w.grownBy y none

set_option maxRecDepth 100000 in
set_option maxHeartbeats 4000000 in
theorem sol_ok (w : World) (N : Nat) (ea oa : Option Addr) (ec oc : Nat) (E : Nat → List Nat) (own : Nat → List Int) (eua oua : Nat → Option Addr) (euc ouc : Nat → Nat) (hL : LsAt w ea N (fun i => intL (E i)) eua euc) (hO : LsAt w oa N own oua ouc) (hN : N ≤ 5864062014805) (hQ : ∀ i, i < N → (E i).length ≤ 17592186044416) (hol : ∀ x, x < N → (own x).length ≤ 17592186044416) (hE : ∀ x, x < N → ∀ y ∈ E x, y < N) (hob : ∀ x, x < N → ∀ v ∈ own x, 0 ≤ v ∧ v < 1024) (hT : B.Tab w) (h0 : 0 < w.heap.size) :
    Calls Tryd.prog 10 #[.slice ea N ec, .slice oa N oc] w fun e y => SolTold N E own w e y := by
  obtain ⟨Y1, hY1⟩ : ∃ Y, Y = (w.alloc (.cells #[.slice ea N ec] 22)).alloc (.cells #[.slice oa N oc] 22) := ⟨_, rfl⟩
  have hg1 : w.grownBy Y1 none := by rw [hY1]; exact grown_trans (World.grownBy_alloc _ _ none) (World.grownBy_alloc _ _ none)
  have HY1 : Hid (Y1 = (w.alloc (.cells #[.slice ea N ec] 22)).alloc (.cells #[.slice oa N oc] 22)) := hY1
  have HG1 := show Hid _ from hg1
  have HB3 : Hid (Y1.heap[w.heap.size]? = some (.cells #[.slice ea N ec] 22 (0, 0))) := by
    show _ = _
    rw [hY1]; exact box_kept (heap_alloc_last w _) (World.grownBy_alloc _ _ none)
  have HB2 : Hid (Y1.heap[w.heap.size + 1]? = some (.cells #[.slice oa N oc] 22 (0, 0))) := by
    show _ = _
    have h1 := heap_alloc_last (w.alloc (.cells #[.slice ea N ec] 22)) (.cells #[.slice oa N oc] 22)
    rw [hY1]; simpa using h1
  have hLY := hL.kept hg1
  have hOY := hO.kept hg1
  have HBE := show Hid _ from below_any (N : Int) ea N ec (fun i => intL (E i)) eua euc Y1 hLY (by omega) (fun i hi => by rw [intL_length]; exact hQ i hi) true (by
    refine ⟨fun _ i hi x hx => ?_, fun _ => rfl⟩
    unfold intL at hx
    obtain ⟨y, hy, rfl⟩ := List.mem_map.1 hx
    have := hE i hi y hy
    omega)
  have HBO := show Hid _ from below_any 1024 oa N oc own oua ouc Y1 hOY (by omega) hol true ⟨fun _ => hob, fun _ => rfl⟩
  have HEA : Hid (∀ (X : World) (p1 sm p2 p3 : Nat), Y1.heap.size ≤ X.heap.size → SiAt Y1 X N p1 sm p2 p3 oa ea oc ec (fun _ => false) (fun _ => 0) (fun _ => 0) (fun _ => 0) (fun _ => 0) → Calls Tryd.prog 15 #[.slice ea N ec, .func (.func 20) #[] #[.pointer (some ⟨p1, 0, none⟩), .pointer (some ⟨p2, 0, none⟩), .pointer (some ⟨p3, 0, none⟩)]] X fun e y => e = .returned (.tuple #[]) ∧ ∃ C sh bs tk mk, SiAt Y1 y N p1 sm p2 p3 oa ea oc ec C sh bs tk mk ∧ SolP E own C (fun x => mk (sh x)) ∧ ∀ x, x < N → C x = true) := fun X p1 sm p2 p3 hX hS0 => by
    refine (each_anyS (fun X C => ∃ sh bs tk mk, SiAt Y1 X N p1 sm p2 p3 oa ea oc ec C sh bs tk mk ∧ SolP E own C (fun x => mk (sh x)) ∧ ∀ x, C x = true → x < N) X N ea ec E eua euc p1 p2 p3 hN hE hQ (fun X' Y' C ⟨sh, bs, tk, mk, h1, h2, h3⟩ hk => ⟨sh, bs, tk, mk, h1.skept hX hk, h2, h3⟩) (fun X' C ⟨sh, bs, tk, mk, h1, _⟩ => hLY.kept h1.grown) (fun X' C c a cap ⟨sh, bs, tk, mk, h1, h2, h3⟩ hc hi hab => ?_) ⟨_, _, _, _, hS0, SolP.start, fun x h => (by cases h)⟩).mono ?_
    · refine (solveF_any Y1 X' N p1 sm p2 p3 X.heap.size oa ea oc ec C sh bs tk mk h1 E own oua eua ouc euc hOY hLY hN hol hQ hE hob c hc a cap hi fun rb ro e => (hab rb ro e).2).mono ?_
      rintro e y ⟨rfl, ⟨sh', bs', tk', mk', M, g1, g2, g3⟩, g4⟩
      have hst := h2.step hc g3
      have hlt : ∀ x, addC C c x = true → x < N := fun x hx => by
        rcases (addC_iff _ _ _).1 hx with h5 | h5
        · exact h3 x h5
        · exact (hc.lt x h5).1
      refine ⟨rfl, ⟨sh', bs', tk', mk', g1, fun x hx b => ?_, hlt⟩, g4⟩
      have h5 : (if x ∈ c then M else mk (sh x)).testBit b = true ↔ Gets E own x b := hst x hx b
      rw [← g2 x (hlt x hx) hx] at h5
      exact h5
    · rintro e y ⟨rfl, C, ⟨sh, bs, tk, mk, h1, h2, _⟩, h4⟩
      exact ⟨rfl, C, sh, bs, tk, mk, h1, h2, h4⟩
  have HTB : Hid (∀ X, Y1.grownBy X none → B.Tab X ∧ 0 < X.heap.size) := fun X hX => ⟨tab_kept hT (grown_trans hg1 hX), Nat.lt_of_lt_of_le h0 (grown_trans hg1 hX).size⟩
  obtain ⟨i0, hi0, hz0, hz1, hz2⟩ := info_parts infoShP
  obtain ⟨i1, hi1, hy0, hy1, hy2⟩ := info_parts infoRowsS
  have hnn : ((N : Int) != (N : Int)) = false := bne_self_eq_false _
  have b3 : Y1.cell? ⟨w.heap.size, 0, none⟩ = some (.slice ea N ec) := by rw [cell_of_row _ _ _ _ _ _ HB3.out]; rfl
  have b2 : Y1.cell? ⟨w.heap.size + 1, 0, none⟩ = some (.slice oa N oc) := by rw [cell_of_row _ _ _ _ _ _ HB2.out]; rfl
  have HP : Hid (w.heap.size + 1 < Y1.heap.size) := (Array.getElem?_eq_some_iff.1 HB2.out).1
  clear hL hO hQ hol hE hob hT h0 hg1 hLY hOY
  go_enter Tryd.func10, Tryd.ntmps10
  rw [hY1] at b2 b3
  clear hY1
  go_wp2_with fail
  rw [← HY1.out]
  clear b2 b3
  have b3 : Y1.cell? ⟨w.heap.size, 0, none⟩ = some (.slice ea N ec) := by rw [cell_of_row _ _ _ _ _ _ HB3.out]; rfl
  have b2 : Y1.cell? ⟨w.heap.size + 1, 0, none⟩ = some (.slice oa N oc) := by rw [cell_of_row _ _ _ _ _ _ HB2.out]; rfl
  refine Calls.mono HBE.out ?_
  rintro e y ⟨rfl, hy⟩
  subst hy
  clear HBE
  go_wp2_with fail
  refine Calls.mono HBO.out ?_
  rintro e Y ⟨rfl, hY⟩
  subst hY
  clear HBO HY1
  go_wp2_with (at_make; refine wpList_make_full _ rfl _ _ 41 rfl Y.heap.size 42 i0 (.pointer none) 1 Tryd.underlying41 hi0 hz0 hz1 .i64 .i64 _ _ N rfl rfl (by simp) (by simp) (by rw [hz2]; omega) (by unfold maxLen; omega) (by simp) ?_)
  intro w3 hown hgrow
  have hval : ValAt w3 Y.heap.size N 42 (fun _ => .pointer none) := made_rowK (B := Y.heap.size) rfl (by simpa [Value.cells] using hown)
  obtain ⟨sm, hsm⟩ : ∃ b, b = Y.heap.size := ⟨_, rfl⟩
  have hsm2 : Y.heap.size ≤ sm := by omega
  rw [← hsm] at hval
  rw [← hsm]
  have hga : w3.grownBy (w3.alloc (.cells #[.slice (some ⟨sm, 0, none⟩) N N] 41)) none := World.grownBy_alloc _ _ none
  have hgA := grown_trans hgrow hga
  have HE0 := show Hid _ from HEA.out (w3.alloc (.cells #[.slice (some ⟨sm, 0, none⟩) N N] 41)) w3.heap.size sm (w.heap.size + 1) w.heap.size hgA.size ⟨hgA, heap_alloc_last w3 _, box_kept HB2.out hgA, box_kept HB3.out hgA, (hval.kept hga).ext fun i _ => by simp, hsm2, fun x _ h => (by cases h)⟩
  have b4 : (w3.alloc (.cells #[.slice (some ⟨sm, 0, none⟩) N N] 41)).cell? ⟨w.heap.size, 0, none⟩ = some (.slice ea N ec) := hgA.cell b3 (by simp)
  clear hown hgrow hval hsm hga hgA HEA b2 b3 HB2 HB3
  go_wp2_with fail
  refine Calls.mono HE0.out ?_
  rintro e w4 ⟨rfl, C, sh, bs, tk, mk, hS, hP, hall⟩
  have HS := show Hid _ from hS
  obtain ⟨mk2, hmk2⟩ : ∃ f : Nat → Nat, f = fun x => mk (sh x) := ⟨_, rfl⟩
  have HMK : Hid (∀ x, mk (sh x) = mk2 x) := fun x => by rw [hmk2]
  have HBIT : Hid (∀ x, x < N → mk2 x < 2 ^ 1024 ∧ ∀ b, (mk2 x).testBit b = true ↔ Gets E own x b) := fun x hx => by
    rw [hmk2]
    exact ⟨(hS.each x hx (hall x hx)).set.2.1, hP x (hall x hx)⟩
  have HALL : Hid (∀ x, x < N → C x = true) := hall
  obtain ⟨p1, hp1⟩ : ∃ b, b = w3.heap.size := ⟨_, rfl⟩
  rw [← hp1] at HS ⊢
  clear hS hP hall HE0 hp1 b4 hmk2
  have b3 : w4.cell? ⟨w.heap.size, 0, none⟩ = some (.slice ea N ec) := by rw [cell_of_row _ _ _ _ _ _ HS.out.b3]; rfl
  go_wp2_with (at_make; refine wpList_make_full _ rfl _ _ 22 rfl w4.heap.size 28 i1 (.slice none 0 0) 1 Tryd.underlying22 hi1 hy0 hy1 .i64 .i64 _ _ N rfl rfl (by simp) (by simp) (by rw [hy2]; omega) (by unfold maxLen; omega) (by simp) ?_)
  intro w5 hown hgrow
  have hval : ValAt w5 w4.heap.size N 28 (fun _ => .slice none 0 0) := made_rowK (B := w4.heap.size) rfl (by simpa [Value.cells] using hown)
  obtain ⟨rb, hrb⟩ : ∃ b, b = w4.heap.size := ⟨_, rfl⟩
  rw [← hrb] at hval
  rw [← hrb]
  have hrY : Y.heap.size ≤ rb := by rw [hrb]; exact HS.out.grown.size
  have hrw : w.heap.size ≤ rb := by have := HP.out; omega
  have HS5 : Hid (SiAt Y w5 N p1 sm (w.heap.size + 1) w.heap.size oa ea oc ec C sh bs tk mk) := HS.out.skept (Nat.le_refl _) (.none_ hgrow)
  have HR5 : Hid (RwP w5 w.heap.size rb N (fun x => memN (mk2 x)) (fun _ => none) (fun _ => 0) 0) := ⟨hval.ext fun i _ => by simp, fun i h => absurd h (Nat.not_lt_zero _), fun i j h => absurd h (Nat.not_lt_zero _), hrw⟩
  have b1 : w5.cell? ⟨p1, 0, none⟩ = some (.slice (some ⟨sm, 0, none⟩) N N) := by rw [cell_of_row _ _ _ _ _ _ HS5.out.b1]; rfl
  have HRY : Hid (Y.heap.size ≤ rb ∧ w.heap.size ≤ rb) := ⟨hrY, hrw⟩
  clear hown hgrow hval hrb b3 HS hrY hrw
  go_wp2_with fail
  clear b1
  go_loopg [38] N (fun gk v38 wr => ∃ (k : Nat) (ua : Nat → Option Addr) (uc : Nat → Nat), k ≤ N ∧ gk = N - k ∧ v38 = .int .i64 k ∧ SiAt Y wr N p1 sm (w.heap.size + 1) w.heap.size oa ea oc ec C sh bs tk mk ∧ RwP wr w.heap.size rb N (fun x => memN (mk2 x)) ua uc k)
  case atStart => exact ⟨0, _, _, Nat.zero_le _, rfl, rfl, HS5.out, HR5.out⟩
  case round =>
    clear HS5 HR5
    obtain ⟨k, ua, uc, hk, hgk, rfl, hS, hR⟩ := hrel
    have HGK : Hid (gk = N - k) := hgk
    have HS := show Hid _ from hS
    have HR := show Hid _ from hR
    clear hgk hS hR
    by_cases hlt : k < N
    · have hkd : decide (k < N) = true := decide_eq_true hlt
      have hk0 : (0 : Int) ≤ (k : Int) := by omega
      have hk1 : (k : Int) < (N : Int) := by omega
      have zl := HS.out.val.cell k hlt
      rw [if_pos (HALL.out k hlt)] at zl
      have hsh := HS.out.each k hlt (HALL.out k hlt)
      have z0 : wr.cell? ⟨sh k, 0, none⟩ = some (.pointer (some ⟨bs (sh k), 0, none⟩)) := by rw [cell_of_row _ _ _ _ _ _ hsh.cel]; rfl
      obtain ⟨st, hst⟩ : ∃ v, v = sh k := ⟨_, rfl⟩
      rw [← hst] at zl z0
      obtain ⟨bst, hbst⟩ : ∃ v, v = bs st := ⟨_, rfl⟩
      rw [← hbst] at z0
      obtain ⟨ql, hql⟩ : ∃ v, v = (memN (mk2 k)).length := ⟨_, rfl⟩
      have HMB : Hid (Calls Tryd.prog 25 #[.pointer (some ⟨bst, 0, none⟩)] wr fun e w' => ∃ a c, e = .returned (.slice a ql c) ∧ w'.ownsRow wr.heap.size 3 1 (.slice a ql c) ql (natV (memN (mk2 k))) ∧ wr.grownBy w' none) := by
        have h5 := HTB.out wr HS.out.grown
        have h6 := hsh.set
        rw [HMK.out k, ← hst, ← hbst] at h6
        have h7 := members_d bst 1024 (mk2 k) wr h6 h5.1 h5.2
        rw [← hql] at h7
        exact h7
      have HQL : Hid (ql = (memN (mk2 k)).length) := hql
      clear hsh hst hbst hql
      go_wp2_with fail
      refine Calls.mono HMB.out ?_
      rintro e w6 ⟨a, c, rfl, ho, hg⟩
      have hS6 := HS.out.skept (Nat.le_refl _) (.none_ hg)
      have hR6 := HR.out.kept hg
      have y0 := hR6.val.cell k hlt
      have y1 := hR6.val.free k
      rw [if_neg (Nat.lt_irrefl k)] at y0
      have HSN : Hid (SiAt Y (w6.setCell ⟨rb, k, none⟩ (.slice a ql c)) N p1 sm (w.heap.size + 1) w.heap.size oa ea oc ec C sh bs tk mk) := hS6.other hR6.val (grown_setCell _ _ _) HRY.out.1
      have HRN : Hid (RwP (w6.setCell ⟨rb, k, none⟩ (.slice a ql c)) w.heap.size rb N (fun x => memN (mk2 x)) (updC ua k a) (updC uc k c) (k + 1)) := by
        have h1 := HR.out.put (a := a) (c := c) hg (Nat.le_trans HG1.out.size HS.out.grown.size) (by
          show w6.ownsRow wr.heap.size 3 1 (.slice a (memN (mk2 k)).length c) (memN (mk2 k)).length (natV (memN (mk2 k)))
          rw [← HQL.out]
          exact ho)
        rw [← HQL.out] at h1
        exact h1
      clear ho hg hS6 hR6 HMB zl z0
      go_wp2_with fail
      go_roundg (N - (k + 1))
      case measure => have := HGK.out; omega
      case rel => exact ⟨k + 1, _, _, by omega, rfl, by go_num, HSN.out, HRN.out⟩
    · have hkn : N = k := by omega
      subst hkn
      have hkd : decide (N < N) = false := decide_eq_false (by omega)
      have HF : Hid (CqP wr w.heap.size (some ⟨rb, 0, none⟩) N N (fun x => memN (mk2 x)) ua uc) := HR.out.done (by unfold maxLen; omega)
      have HGF : Hid (w.grownBy wr none) := grown_trans HG1.out HS.out.grown
      go_wp2_with fail
      go_ret2
      exact ⟨rb, mk2, ua, uc, rfl, HBIT.out, HF.out, HGF.out⟩

end Go.Proofs.YtjijagnpcmonbaaDoor.J

/-
  digraph: the law's pick and awake.
-/
namespace Go.Proofs.YtjijagnpcmonbaaDoor.J
open Go.RowKit Go.Maps Go.Shelf D

attribute [local go_sem] Oper.semAt_some

/-- Which of n things a raw number speaks of. -/
def pickN (c : Int) (n : Nat) : Nat := ((if c < 0 then -(c + 1) else c) % (n : Int)).toNat
theorem pickN_lt (c : Int) {n : Nat} (hn : 0 < n) : pickN c n < n := by
  unfold pickN
  have h1 := Int.emod_lt_of_pos (if c < 0 then -(c + 1) else c) (show (0 : Int) < n by omega)
  have h2 := Int.emod_nonneg (if c < 0 then -(c + 1) else c) (show (n : Int) ≠ 0 by omega)
  omega

set_option maxRecDepth 100000 in
theorem dpick_any (c : Int) (hlo : -9223372036854775808 ≤ c) (hhi : c ≤ 9223372036854775807) (n : Nat) (hn : 0 < n) (hn2 : n ≤ 1048577) (w : World) : Calls Tryd.prog 12 #[.int .i64 c, .int .i64 n] w fun e w' => e = .returned (.int .i64 ((pickN c n : Nat) : Int)) ∧ w' = w := by
  by_cases h : c < 0
  · have hd : decide (c < 0) = true := decide_eq_true h
    have hp : ((pickN c n : Nat) : Int) = (-(c + 1)) % (n : Int) := by
      unfold pickN
      rw [if_pos h, Int.toNat_of_nonneg (Int.emod_nonneg _ (by omega))]
    have HPK := show Hid _ from hp
    clear hp
    go_enter Tryd.func12, Tryd.ntmps12
    go_wp2_with fail
    go_ret
    have e : -((c + 1).tmod (n : Int)) = (-(c + 1)) % (n : Int) := by rw [← Int.neg_tmod, Int.tmod_eq_emod_of_nonneg (by omega)]
    rw [HPK.out, ← e]
    exact ⟨rfl, rfl⟩
  · have hd : decide (c < 0) = false := decide_eq_false h
    have hp : ((pickN c n : Nat) : Int) = c % (n : Int) := by
      unfold pickN
      rw [if_neg h, Int.toNat_of_nonneg (Int.emod_nonneg _ (by omega))]
    have HPK := show Hid _ from hp
    clear hp
    go_enter Tryd.func12, Tryd.ntmps12
    go_wp2_with fail
    go_ret
    rw [HPK.out]
    exact ⟨rfl, rfl⟩

/-- Lists of nodes, as they are read. -/
theorem CqP.ls {X : World} {B : Nat} {ka : Option Addr} {kc K : Nat} {Q : Nat → List Nat} {ua : Nat → Option Addr} {uc : Nat → Nat} (h : CqP X B ka kc K Q ua uc) : LsAt X ka K (fun i => intL (Q i)) ua uc := by
  refine ⟨?_, fun i hi => ?_⟩
  · by_cases e : K = 0
    · exact .inl e
    · obtain ⟨g, c, hg, hc⟩ := owns_at h.out (by omega)
      simp only [Value.slice.injEq] at hg
      refine .inr ⟨g, hg.1, fun i hi => ?_⟩
      rw [intL_length]
      exact hc i _ (rowsC_at Q ua uc hi)
  · by_cases e : Q i = []
    · exact .inl (show intL (Q i) = [] by rw [e]; rfl)
    · obtain ⟨g, c, hg, hc⟩ := owns_at (h.inn i hi) (List.length_pos_iff.2 e)
      simp only [Value.slice.injEq] at hg
      refine .inr ⟨g, 0, hg.1, fun j hj => ?_⟩
      rw [intL_length] at hj
      rw [intL_at, Nat.zero_add]
      exact hc j _ (natV_at (Q i) j hj)

/-- A literal row of numbers. -/
theorem ints_lit {X : World} {b : Nat} (l : List Nat) (h : X.heap[b]? = some (.cells (natV l).toArray 3 (0, 0))) : IntsAt X (some ⟨b, 0, none⟩) (intL l) := by
  refine .inr ⟨b, 0, rfl, fun j hj => ?_⟩
  rw [intL_length] at hj
  rw [intL_at, cell_of_row _ _ _ _ _ _ h, Nat.zero_add]
  simpa using natV_at l j hj
/-- Literal rows, and the row of them. -/
theorem ls_lit {X : World} {k : Nat} (L : List (List Nat)) (U : List (Option Addr)) (C : List Nat) (h : X.heap[k]? = some (.cells ((List.range L.length).map fun i => Value.slice (U.getD i none) (L.getD i []).length (C.getD i 0)).toArray 28 (0, 0))) (hi : ∀ i, i < L.length → L.getD i [] = [] ∨ ∃ b, U.getD i none = some ⟨b, 0, none⟩ ∧ X.heap[b]? = some (.cells (natV (L.getD i [])).toArray 3 (0, 0))) : LsAt X (some ⟨k, 0, none⟩) L.length (fun i => intL (L.getD i [])) (fun i => U.getD i none) (fun i => C.getD i 0) := by
  refine ⟨.inr ⟨k, rfl, fun i hl => ?_⟩, fun i hl => ?_⟩
  · rw [intL_length, cell_of_row _ _ _ _ _ _ h]
    simp [hl]
  · rcases hi i hl with h1 | ⟨b, h1, h2⟩
    · exact .inl (show intL (L.getD i []) = [] by rw [h1]; rfl)
    · show IntsAt X (U.getD i none) (intL (L.getD i []))
      rw [h1]; exact ints_lit _ h2

theorem ga_new {w : World} {o : Obj} {k : Nat} (h : k = w.heap.size) : (w.alloc o).heap[k]? = some o := by
  subst h; exact heap_alloc_last w o
theorem ga_old {w : World} {o x : Obj} {k : Nat} (h : w.heap[k]? = some x) : (w.alloc o).heap[k]? = some x :=
  ((World.grownBy_alloc w o none).block k (Array.getElem?_eq_some_iff.1 h).1 (by simp)).trans h
theorem LsAt.ext {X : World} {a : Option Addr} {N : Nat} {Q Q' : Nat → List Int} {ua ua' : Nat → Option Addr} {uc uc' : Nat → Nat} (h : LsAt X a N Q ua uc) (e : ∀ i, i < N → Q i = Q' i ∧ ua i = ua' i ∧ uc i = uc' i) : LsAt X a N Q' ua' uc' := by
  refine ⟨?_, fun i hi => ?_⟩
  · rcases h.1 with h1 | ⟨k, e1, h1⟩
    · exact .inl h1
    · refine .inr ⟨k, e1, fun i hi => ?_⟩
      obtain ⟨e2, e3, e4⟩ := e i hi
      rw [← e2, ← e3, ← e4]
      exact h1 i hi
  · obtain ⟨e2, e3, e4⟩ := e i hi
    rw [← e2, ← e3]
    exact h.2 i hi

/-- The example's rows. -/
theorem exE_rows (i : Nat) : exE i = ([[1], [2], [1], []] : List (List Nat)).getD i [] := by
  match i with
  | 0 => rfl
  | 1 => rfl
  | 2 => rfl
  | 3 => rfl
  | n + 4 => simp [exE]
theorem exO_rows (i : Nat) : exO i = intL (([[5], [7, 6], [], [8]] : List (List Nat)).getD i []) := by
  match i with
  | 0 => rfl
  | 1 => rfl
  | 2 => rfl
  | 3 => rfl
  | n + 4 => simp [exO, intL]
theorem ex_mem (mk : Nat → Nat) (h : ∀ x, x < 4 → mk x < 2 ^ 1024 ∧ ∀ b, (mk x).testBit b = true ↔ Gets exE exO x b) (i : Nat) (hi : i < 4) : memN (mk i) = ([[5, 6, 7], [6, 7], [6, 7], [8]] : List (List Nat)).getD i [] := by
  have hb := (h i hi).2
  have key : ∀ l : List Nat, l.Pairwise (· < ·) → (∀ b ∈ l, b < 9) → (∀ b, (mk i).testBit b = true ↔ b ∈ l) → memN (mk i) = l := fun l hp hl hm => by
    have h1 : memN (mk i) = (List.range 1024).filter fun b => decide (b ∈ l) := by
      unfold memN
      refine List.filter_congr fun b _ => ?_
      have := hm b
      by_cases e : b ∈ l
      · rw [this.2 e]; simp [e]
      · simp only [e, iff_false] at this; simp [e, this]
    rw [h1]
    have e : List.range 1024 = List.range' 0 9 ++ List.range' 9 1015 := by rw [List.range_eq_range', List.range'_append_1]
    rw [e, List.filter_append]
    have h2 : (List.range' 9 1015).filter (fun b => decide (b ∈ l)) = [] := by
      rw [List.filter_eq_nil_iff]
      intro b hb h
      have := hl b (by simpa using h)
      have := (List.mem_range'_1.1 hb).1
      omega
    rw [h2, List.append_nil]
    exact List.Perm.eq_of_pairwise (le := (· < ·)) (fun a b _ _ h1 h2 => by omega) ((List.pairwise_lt_range' (step := 1)).filter _) hp ((List.perm_ext_iff_of_nodup (((List.pairwise_lt_range' (step := 1)).imp fun h => Nat.ne_of_lt h).filter _) (hp.imp fun h => Nat.ne_of_lt h)).2 fun a => by
      simp only [List.mem_filter, List.mem_range'_1, decide_eq_true_eq]
      exact ⟨fun h => h.2, fun h => ⟨⟨Nat.zero_le _, by have := hl a h; omega⟩, h⟩⟩)
  refine key _ ?_ ?_ fun b => (hb b).trans (ex_gets i b hi)
  · match i, hi with
    | 0, _ => decide
    | 1, _ => decide
    | 2, _ => decide
    | 3, _ => decide
  · match i, hi with
    | 0, _ => decide
    | 1, _ => decide
    | 2, _ => decide
    | 3, _ => decide

/-- The example's relation, as it lies. -/
theorem ex_lsE {X : World} {b1 b2 b3 k : Nat} (h1 : X.heap[b1]? = some (.cells #[.int .i64 1] 3 (0, 0))) (h2 : X.heap[b2]? = some (.cells #[.int .i64 2] 3 (0, 0))) (h3 : X.heap[b3]? = some (.cells #[.int .i64 1] 3 (0, 0))) (hk : X.heap[k]? = some (.cells #[.slice (some ⟨b1, 0, none⟩) 1 1, .slice (some ⟨b2, 0, none⟩) 1 1, .slice (some ⟨b3, 0, none⟩) 1 1, .slice none 0 0] 28 (0, 0))) : LsAt X (some ⟨k, 0, none⟩) 4 (fun i => intL (exE i)) (fun i => [some ⟨b1, 0, none⟩, some ⟨b2, 0, none⟩, some ⟨b3, 0, none⟩, none].getD i none) (fun i => [1, 1, 1, 0].getD i 0) := by
  refine (ls_lit [[1], [2], [1], []] [some ⟨b1, 0, none⟩, some ⟨b2, 0, none⟩, some ⟨b3, 0, none⟩, none] [1, 1, 1, 0] hk fun i hi => ?_).ext fun i _ => ⟨by rw [exE_rows], rfl, rfl⟩
  match i, hi with
  | 0, _ => exact .inr ⟨b1, rfl, h1⟩
  | 1, _ => exact .inr ⟨b2, rfl, h2⟩
  | 2, _ => exact .inr ⟨b3, rfl, h3⟩
  | 3, _ => exact .inl rfl
theorem ex_lsO {X : World} {b1 b2 b3 k : Nat} (h1 : X.heap[b1]? = some (.cells #[.int .i64 5] 3 (0, 0))) (h2 : X.heap[b2]? = some (.cells #[.int .i64 7, .int .i64 6] 3 (0, 0))) (h3 : X.heap[b3]? = some (.cells #[.int .i64 8] 3 (0, 0))) (hk : X.heap[k]? = some (.cells #[.slice (some ⟨b1, 0, none⟩) 1 1, .slice (some ⟨b2, 0, none⟩) 2 2, .slice none 0 0, .slice (some ⟨b3, 0, none⟩) 1 1] 28 (0, 0))) : LsAt X (some ⟨k, 0, none⟩) 4 exO (fun i => [some ⟨b1, 0, none⟩, some ⟨b2, 0, none⟩, none, some ⟨b3, 0, none⟩].getD i none) (fun i => [1, 2, 0, 1].getD i 0) := by
  refine (ls_lit [[5], [7, 6], [], [8]] [some ⟨b1, 0, none⟩, some ⟨b2, 0, none⟩, none, some ⟨b3, 0, none⟩] [1, 2, 0, 1] hk fun i hi => ?_).ext fun i _ => ⟨by rw [exO_rows], rfl, rfl⟩
  match i, hi with
  | 0, _ => exact .inr ⟨b1, rfl, h1⟩
  | 1, _ => exact .inr ⟨b2, rfl, h2⟩
  | 2, _ => exact .inl rfl
  | 3, _ => exact .inr ⟨b3, rfl, h3⟩
theorem ex_ls3 {X : World} {b1 b2 b3 k : Nat} (h1 : X.heap[b1]? = some (.cells #[.int .i64 0] 3 (0, 0))) (h2 : X.heap[b2]? = some (.cells #[.int .i64 1, .int .i64 2] 3 (0, 0))) (h3 : X.heap[b3]? = some (.cells #[.int .i64 3] 3 (0, 0))) (hk : X.heap[k]? = some (.cells #[.slice (some ⟨b1, 0, none⟩) 1 1, .slice (some ⟨b2, 0, none⟩) 2 2, .slice (some ⟨b3, 0, none⟩) 1 1] 28 (0, 0))) : LsAt X (some ⟨k, 0, none⟩) 3 (fun i => intL (([[0], [1, 2], [3]] : List (List Nat)).getD i [])) (fun i => [some ⟨b1, 0, none⟩, some ⟨b2, 0, none⟩, some ⟨b3, 0, none⟩].getD i none) (fun i => [1, 2, 1].getD i 0) := by
  refine ls_lit [[0], [1, 2], [3]] [some ⟨b1, 0, none⟩, some ⟨b2, 0, none⟩, some ⟨b3, 0, none⟩] [1, 2, 1] hk fun i hi => ?_
  match i, hi with
  | 0, _ => exact .inr ⟨b1, rfl, h1⟩
  | 1, _ => exact .inr ⟨b2, rfl, h2⟩
  | 2, _ => exact .inr ⟨b3, rfl, h3⟩
theorem ex_ls4 {X : World} {b1 b2 b3 b4 k : Nat} (h1 : X.heap[b1]? = some (.cells #[.int .i64 5, .int .i64 6, .int .i64 7] 3 (0, 0))) (h2 : X.heap[b2]? = some (.cells #[.int .i64 6, .int .i64 7] 3 (0, 0))) (h3 : X.heap[b3]? = some (.cells #[.int .i64 6, .int .i64 7] 3 (0, 0))) (h4 : X.heap[b4]? = some (.cells #[.int .i64 8] 3 (0, 0))) (hk : X.heap[k]? = some (.cells #[.slice (some ⟨b1, 0, none⟩) 3 3, .slice (some ⟨b2, 0, none⟩) 2 2, .slice (some ⟨b3, 0, none⟩) 2 2, .slice (some ⟨b4, 0, none⟩) 1 1] 28 (0, 0))) : LsAt X (some ⟨k, 0, none⟩) 4 (fun i => intL (([[5, 6, 7], [6, 7], [6, 7], [8]] : List (List Nat)).getD i [])) (fun i => [some ⟨b1, 0, none⟩, some ⟨b2, 0, none⟩, some ⟨b3, 0, none⟩, some ⟨b4, 0, none⟩].getD i none) (fun i => [3, 2, 2, 1].getD i 0) := by
  refine ls_lit [[5, 6, 7], [6, 7], [6, 7], [8]] [some ⟨b1, 0, none⟩, some ⟨b2, 0, none⟩, some ⟨b3, 0, none⟩, some ⟨b4, 0, none⟩] [3, 2, 2, 1] hk fun i hi => ?_
  match i, hi with
  | 0, _ => exact .inr ⟨b1, rfl, h1⟩
  | 1, _ => exact .inr ⟨b2, rfl, h2⟩
  | 2, _ => exact .inr ⟨b3, rfl, h3⟩
  | 3, _ => exact .inr ⟨b4, rfl, h4⟩

theorem exE_lt (x : Nat) (_ : x < 4) (y : Nat) (hy : y ∈ exE x) : y < 4 := by
  match x, hy with
  | 0, hy => have : y = 1 := by simpa [exE] using hy
             omega
  | 1, hy => have : y = 2 := by simpa [exE] using hy
             omega
  | 2, hy => have : y = 1 := by simpa [exE] using hy
             omega
  | n + 3, hy => simp [exE] at hy
theorem exE_len (x : Nat) : (exE x).length ≤ 17592186044416 := by
  match x with
  | 0 => decide
  | 1 => decide
  | 2 => decide
  | n + 3 => simp [exE]
theorem exO_len (x : Nat) : (exO x).length ≤ 17592186044416 := by
  match x with
  | 0 => decide
  | 1 => decide
  | 2 => decide
  | 3 => decide
  | n + 4 => simp [exO]
theorem exO_lt (x : Nat) (v : Int) (hv : v ∈ exO x) : 0 ≤ v ∧ v < 1024 := by
  match x, hv with
  | 0, hv => have : v = 5 := by simpa [exO] using hv
             omega
  | 1, hv => have : v = 7 ∨ v = 6 := by simpa [exO] using hv
             omega
  | 2, hv => simp [exO] at hv
  | 3, hv => have : v = 8 := by simpa [exO] using hv
             omega
  | n + 4, hv => simp [exO] at hv

set_option maxRecDepth 100000 in
set_option maxHeartbeats 2000000 in
theorem dawake_any (w : World) (hT : B.Tab w) (h0 : 0 < w.heap.size) : Calls Tryd.prog 9 #[] w fun e w' => e = .returned (.bool true) ∧ w.grownBy w' none := by
  have HTB : Hid (∀ X, w.grownBy X none → B.Tab X ∧ 0 < X.heap.size) := fun X hX => ⟨tab_kept hT hX, Nat.lt_of_lt_of_le h0 hX.size⟩
  clear hT h0
  go_enter Tryd.func9, Tryd.ntmps9
  go_wp2_with fail
  refine Calls.mono (comp_ok _ 4 _ 4 exE _ _ (ex_lsE (b1 := w.heap.size) (b2 := w.heap.size + 1) (b3 := w.heap.size + 1 + 1) (by repeat (first | (refine ga_new ?_; simp; done) | apply ga_old)) (by repeat (first | (refine ga_new ?_; simp; done) | apply ga_old)) (by repeat (first | (refine ga_new ?_; simp; done) | apply ga_old)) (by repeat (first | (refine ga_new ?_; simp; done) | apply ga_old))) (by decide) (fun i _ => exE_len i) exE_lt) ?_
  rintro e w1 ⟨ls, ka, kc, K, Q, ua, uc, rfl, hK, hQ, hls, hL, hg⟩
  have hg1 : w.grownBy w1 none := grown_trans (grown_trans (grown_trans (grown_trans (World.grownBy_alloc _ _ none) (World.grownBy_alloc _ _ none)) (World.grownBy_alloc _ _ none)) (World.grownBy_alloc _ _ none)) hg
  have hc := ex_cmp ls hls
  rw [hc] at hK hQ
  have hK3 : K = 3 := hK
  subst hK3
  have HL1 : Hid (LsAt w1 ka 3 (fun i => intL (([[0], [1, 2], [3]] : List (List Nat)).getD i [])) ua uc) := hL.ls.ext fun i hi => ⟨by rw [hQ i hi], rfl, rfl⟩
  have HG1 := show Hid _ from hg1
  clear hK hQ hls hL hg hg1 hc
  go_wp2_with fail
  refine Calls.mono (sol_ok _ 4 _ _ 4 4 exE exO _ _ _ _ (ex_lsE (b1 := w1.heap.size) (b2 := w1.heap.size + 1) (b3 := w1.heap.size + 1 + 1) (by repeat (first | (refine ga_new ?_; simp; done) | apply ga_old)) (by repeat (first | (refine ga_new ?_; simp; done) | apply ga_old)) (by repeat (first | (refine ga_new ?_; simp; done) | apply ga_old)) (by repeat (first | (refine ga_new ?_; simp; done) | apply ga_old))) (ex_lsO (b1 := w1.heap.size + 1 + 1 + 1 + 1) (b2 := w1.heap.size + 1 + 1 + 1 + 1 + 1) (b3 := w1.heap.size + 1 + 1 + 1 + 1 + 1 + 1) (by repeat (first | (refine ga_new ?_; simp; done) | apply ga_old)) (by repeat (first | (refine ga_new ?_; simp; done) | apply ga_old)) (by repeat (first | (refine ga_new ?_; simp; done) | apply ga_old)) (by repeat (first | (refine ga_new ?_; simp; done) | apply ga_old))) (by decide) (fun i _ => exE_len i) (fun i _ => exO_len i) exE_lt (fun x _ => exO_lt x) (HTB.out _ (grown_trans HG1.out (grown_trans (grown_trans (grown_trans (grown_trans (grown_trans (grown_trans (grown_trans (World.grownBy_alloc _ _ none) (World.grownBy_alloc _ _ none)) (World.grownBy_alloc _ _ none)) (World.grownBy_alloc _ _ none)) (World.grownBy_alloc _ _ none)) (World.grownBy_alloc _ _ none)) (World.grownBy_alloc _ _ none)) (World.grownBy_alloc _ _ none)))).1 (HTB.out _ (grown_trans HG1.out (grown_trans (grown_trans (grown_trans (grown_trans (grown_trans (grown_trans (grown_trans (World.grownBy_alloc _ _ none) (World.grownBy_alloc _ _ none)) (World.grownBy_alloc _ _ none)) (World.grownBy_alloc _ _ none)) (World.grownBy_alloc _ _ none)) (World.grownBy_alloc _ _ none)) (World.grownBy_alloc _ _ none)) (World.grownBy_alloc _ _ none)))).2) ?_
  rintro e w2 ⟨rb, mk, ua2, uc2, rfl, hm, hL, hg⟩
  have hg2 : w1.grownBy w2 none := grown_trans (grown_trans (grown_trans (grown_trans (grown_trans (grown_trans (grown_trans (grown_trans (World.grownBy_alloc _ _ none) (World.grownBy_alloc _ _ none)) (World.grownBy_alloc _ _ none)) (World.grownBy_alloc _ _ none)) (World.grownBy_alloc _ _ none)) (World.grownBy_alloc _ _ none)) (World.grownBy_alloc _ _ none)) (World.grownBy_alloc _ _ none)) hg
  have HL2 : Hid (LsAt w2 (some ⟨rb, 0, none⟩) 4 (fun i => intL (([[5, 6, 7], [6, 7], [6, 7], [8]] : List (List Nat)).getD i [])) ua2 uc2) := hL.ls.ext fun i hi => ⟨by rw [ex_mem mk hm i hi], rfl, rfl⟩
  have HL1b : Hid (LsAt w2 ka 3 (fun i => intL (([[0], [1, 2], [3]] : List (List Nat)).getD i [])) ua uc) := HL1.out.kept hg2
  have HG2 : Hid (w.grownBy w2 none) := grown_trans HG1.out hg2
  clear hm hL hg hg2 HL1 HG1
  go_wp2_with fail
  refine Calls.mono (lists_same _ _ _ _ 3 _ _ _ _ _ _ (HL1b.out.kept (grown_trans (grown_trans (grown_trans (World.grownBy_alloc _ _ none) (World.grownBy_alloc _ _ none)) (World.grownBy_alloc _ _ none)) (World.grownBy_alloc _ _ none))) (ex_ls3 (b1 := w2.heap.size) (b2 := w2.heap.size + 1) (b3 := w2.heap.size + 1 + 1) (by repeat (first | (refine ga_new ?_; simp; done) | apply ga_old)) (by repeat (first | (refine ga_new ?_; simp; done) | apply ga_old)) (by repeat (first | (refine ga_new ?_; simp; done) | apply ga_old)) (by repeat (first | (refine ga_new ?_; simp; done) | apply ga_old))) (by decide) (fun i => ?_)) ?_
  · rw [intL_length]
    match i with
    | 0 => decide
    | 1 => decide
    | 2 => decide
    | n + 3 => simp
  rintro e w3 ⟨rfl, hg⟩
  have hg3 : w2.grownBy w3 none := grown_trans (grown_trans (grown_trans (grown_trans (World.grownBy_alloc _ _ none) (World.grownBy_alloc _ _ none)) (World.grownBy_alloc _ _ none)) (World.grownBy_alloc _ _ none)) hg
  have HL2b : Hid (LsAt w3 (some ⟨rb, 0, none⟩) 4 (fun i => intL (([[5, 6, 7], [6, 7], [6, 7], [8]] : List (List Nat)).getD i [])) ua2 uc2) := HL2.out.kept hg3
  have HG3 : Hid (w.grownBy w3 none) := grown_trans HG2.out hg3
  clear hg hg3 HL2 HG2 HL1b
  go_wp2_with fail
  refine Calls.mono (lists_same _ _ _ _ 4 _ _ _ _ _ _ (HL2b.out.kept (grown_trans (grown_trans (grown_trans (grown_trans (World.grownBy_alloc _ _ none) (World.grownBy_alloc _ _ none)) (World.grownBy_alloc _ _ none)) (World.grownBy_alloc _ _ none)) (World.grownBy_alloc _ _ none))) (ex_ls4 (b1 := w3.heap.size) (b2 := w3.heap.size + 1) (b3 := w3.heap.size + 1 + 1) (b4 := w3.heap.size + 1 + 1 + 1) (by repeat (first | (refine ga_new ?_; simp; done) | apply ga_old)) (by repeat (first | (refine ga_new ?_; simp; done) | apply ga_old)) (by repeat (first | (refine ga_new ?_; simp; done) | apply ga_old)) (by repeat (first | (refine ga_new ?_; simp; done) | apply ga_old)) (by repeat (first | (refine ga_new ?_; simp; done) | apply ga_old))) (by decide) (fun i => ?_)) ?_
  · rw [intL_length]
    match i with
    | 0 => decide
    | 1 => decide
    | 2 => decide
    | 3 => decide
    | n + 4 => simp
  rintro e w4 ⟨rfl, hg⟩
  have HG4 : Hid (w.grownBy w4 none) := grown_trans HG3.out (grown_trans (grown_trans (grown_trans (grown_trans (grown_trans (World.grownBy_alloc _ _ none) (World.grownBy_alloc _ _ none)) (World.grownBy_alloc _ _ none)) (World.grownBy_alloc _ _ none)) (World.grownBy_alloc _ _ none)) hg)
  clear hg HL2b HG3
  go_wp2_with fail
  go_ret
  exact ⟨rfl, HG4.out⟩

end Go.Proofs.YtjijagnpcmonbaaDoor.J

/-
  digraph: lists made of raw steps, pure and in memory.
-/
namespace Go.Proofs.YtjijagnpcmonbaaDoor.J
open Go.RowKit Go.Maps Go.Shelf D

/-- The lists that the first k raw steps make. -/
def mkL (n m : Nat) (P : List It) (k : Nat) : Nat → List Nat := fun a => ((P.take k).filter fun p => decide (pickN p.1 n = a)).map fun p => pickN p.2 m
/-- Raw steps within a machine's numbers. -/
def InR (P : List It) : Prop := ∀ i, i < P.length → (-9223372036854775808 ≤ (P.getD i (0, 0)).1 ∧ (P.getD i (0, 0)).1 ≤ 9223372036854775807) ∧ (-9223372036854775808 ≤ (P.getD i (0, 0)).2 ∧ (P.getD i (0, 0)).2 ≤ 9223372036854775807)

/-- A row that was made holds empty lists. -/
theorem CqP.made {X : World} {B rb n : Nat} (h : ValAt X rb n 28 (fun _ => .slice none 0 0)) (hB : B ≤ rb) (hn : n ≤ maxLen) : CqP X B (some ⟨rb, 0, none⟩) n n (fun _ => []) (fun _ => none) (fun _ => 0) := by
  refine ⟨⟨by rw [rowsC_length, Nat.mul_one], .inr ⟨rb, n, _, rfl, hB, h, Nat.le_refl _, hn, by simp, ?_⟩⟩, fun j _ => World.ownsRow_nil _ _ _ _, fun _ _ _ _ _ => .inl rfl⟩
  rw [Nat.mul_one, List.take_of_length_le (by simp)]
  rfl
theorem CqP.ext {X : World} {B : Nat} {ka : Option Addr} {kc K : Nat} {Q Q' : Nat → List Nat} {ua : Nat → Option Addr} {uc : Nat → Nat} (h : CqP X B ka kc K Q ua uc) (e : ∀ i, i < K → Q i = Q' i) : CqP X B ka kc K Q' ua uc := by
  refine ⟨?_, fun j hj => by rw [← e j hj]; exact h.inn j hj, fun i j hi hj hne => by rw [← e i hi, ← e j hj]; exact h.sep i j hi hj hne⟩
  have : rowsC K Q' ua uc = rowsC K Q ua uc := by
    unfold rowsC
    exact List.map_congr_left fun i hi => by rw [e i (List.mem_range.1 hi)]
  rw [this]
  exact h.out

/-- What made, what own tells. -/
def MadeTold (w : World) (n : Nat) (Q : Nat → List Nat) (e : Ending) (y : World) : Prop := ∃ kb ua uc, e = .returned (.slice (some ⟨kb, 0, none⟩) n n) ∧ CqP y w.heap.size (some ⟨kb, 0, none⟩) n n Q ua uc ∧ w.grownBy y none

end Go.Proofs.YtjijagnpcmonbaaDoor.J

/-
  digraph: three rows of numbers beside each other, and marks below them.
-/
namespace Go.Proofs.YtjijagnpcmonbaaDoor.J
open Go.RowKit Go.Maps Go.Shelf D

/-- Rows of numbers, each in a block of its own. -/
structure TrP (X : World) (B n : Nat) (Q : Nat → List Nat) (ua : Nat → Option Addr) (uc : Nat → Nat) : Prop where
  inn : ∀ j, j < n → X.ownsRow B 3 1 (.slice (ua j) (Q j).length (uc j)) (Q j).length (natV (Q j))
  sep : ∀ i j, i < n → j < n → i ≠ j → (Value.slice (ua i) (Q i).length (uc i)).ownBlock = none ∨ (Value.slice (ua i) (Q i).length (uc i)).ownBlock ≠ (Value.slice (ua j) (Q j).length (uc j)).ownBlock
section
variable {X Y : World} {B n : Nat} {Q : Nat → List Nat} {ua : Nat → Option Addr} {uc : Nat → Nat}
theorem TrP.kept (h : TrP X B n Q ua uc) (hg : X.grownBy Y none) : TrP Y B n Q ua uc := ⟨fun j hj => keep0 (h.inn j hj) hg, h.sep⟩
/-- A block below B turns. -/
theorem TrP.below {b : Nat} (h : TrP X B n Q ua uc) (hg : X.grownBy Y (some b)) (hb : b < B) : TrP Y B n Q ua uc := ⟨fun j hj => (h.inn j hj).kept hg (by
  cases hv : (Value.slice (ua j) (Q j).length (uc j)).ownBlock with
  | none => exact .inl rfl
  | some g =>
    right
    intro e2
    have := ((h.inn j hj).lt g hv).1
    have e3 : g = b := by simpa using e2
    omega), h.sep⟩
/-- One of the rows turns. -/
theorem TrP.turn {f c' m : Nat} {a' : Option Addr} {L' : List Nat} (h : TrP X B n Q ua uc) (hf : f < n) (hm : m = L'.length) (hg : X.grownBy Y (Value.slice (ua f) (Q f).length (uc f)).ownBlock) (ho : Y.ownsRow B 3 1 (.slice a' m c') m (natV L')) (hat : ∀ g, (Value.slice a' m c').ownBlock = some g → (Value.slice (ua f) (Q f).length (uc f)).ownBlock = some g ∨ X.heap.size ≤ g) : TrP Y B n (updC Q f L') (updC ua f a') (updC uc f c') := by
  subst hm
  have key : ∀ k, k < n → k ≠ f → ∀ g, (Value.slice a' L'.length c').ownBlock = some g → (Value.slice (ua k) (Q k).length (uc k)).ownBlock ≠ some g := fun k hk e g hgg h2 => by
    rcases hat g hgg with h1 | h1
    · rcases h.sep k f hk hf e with h3 | h3
      · rw [h3] at h2; cases h2
      · exact h3 (h2.trans h1.symm)
    · have := ((h.inn k hk).lt g h2).2
      omega
  refine ⟨fun j hj => ?_, fun i j hi hj e => ?_⟩
  · by_cases e : j = f
    · subst e
      rw [updC_same, updC_same, updC_same]
      exact ho
    · rw [updC_other _ _ e, updC_other _ _ e, updC_other _ _ e]
      exact (h.inn j hj).kept hg (h.sep j f hj hf e)
  · by_cases e1 : i = f
    · subst e1
      have e2 : j ≠ i := fun h => e h.symm
      rw [updC_same, updC_same, updC_same, updC_other _ _ e2, updC_other _ _ e2, updC_other _ _ e2]
      cases hv : (Value.slice a' L'.length c').ownBlock with
      | none => exact .inl rfl
      | some g => exact .inr fun h2 => key j hj e2 g hv h2.symm
    · rw [updC_other _ _ e1, updC_other _ _ e1, updC_other _ _ e1]
      by_cases e2 : j = f
      · subst e2
        rw [updC_same, updC_same, updC_same]
        cases hv : (Value.slice (ua i) (Q i).length (uc i)).ownBlock with
        | none => exact .inl rfl
        | some g =>
          refine .inr fun h2 => ?_
          exact key i hi e1 g h2.symm hv
      · rw [updC_other _ _ e2, updC_other _ _ e2, updC_other _ _ e2]
        exact h.sep i j hi hj e
theorem updC_self {α : Type} (f : Nat → α) (k : Nat) : updC f k (f k) = f := by
  funext i
  by_cases e : i = k
  · subst e; rw [updC_same]
  · rw [updC_other _ _ e]
/-- A row is cut. -/
theorem TrP.cut {f m : Nat} (h : TrP X B n Q ua uc) (hf : f < n) (hm : m ≤ (Q f).length) : TrP X B n (updC Q f ((Q f).take m)) ua uc := by
  have hnil := (owns_bounds (h.inn f hf)).2
  have h1 := owns_take (m := m) (h.inn f hf) hm (fun e => by have := (hnil e).1; omega)
  have e : (natV (Q f)).take (m * 1) = natV ((Q f).take m) := by unfold natV; rw [Nat.mul_one, List.map_take]
  rw [e] at h1
  have hml : m = ((Q f).take m).length := by rw [List.length_take]; omega
  have h2 := h.turn (Y := X) (L' := (Q f).take m) hf hml ⟨rfl, rfl, rfl, Nat.le_refl _, fun _ _ _ => rfl⟩ h1 (fun g hg => .inl (by
    cases hu : ua f with
    | none => rw [hu] at hg; simp [Value.ownBlock] at hg
    | some a => rw [hu] at hg; simpa [Value.ownBlock] using hg))
  have e1 : updC ua f (ua f) = ua := updC_self ua f
  have e2 : updC uc f (uc f) = uc := updC_self uc f
  rw [e1, e2] at h2
  exact h2
end
/-- Numbers and rows of them stay where marks turn. -/
theorem LsAt.marks {X Y : World} {a : Option Addr} {N sb m : Nat} {Q : Nat → List Int} {ua : Nat → Option Addr} {uc : Nat → Nat} {c : Nat → Bool} (h : LsAt X a N Q ua uc) (hb : ValAt X sb m 4 (fun i => .bool (c i))) (hg : X.grownBy Y (some sb)) : LsAt Y a N Q ua uc := by
  have key : ∀ (k j : Nat) (v : Value), X.cell? ⟨k, j, none⟩ = some v → (∀ b, v ≠ .bool b) → Y.cell? ⟨k, j, none⟩ = some v := fun k j v hv hne => by
    refine hg.cell hv ?_
    intro e
    have e2 : k = sb := by simpa using e
    subst e2
    rw [cell_of_row _ _ _ _ _ _ hb] at hv
    by_cases hj : j < m
    · have : v = .bool (c j) := by simpa [hj] using hv.symm
      exact hne _ this
    · simp [hj] at hv
  refine ⟨?_, fun i hi => ?_⟩
  · rcases h.1 with h1 | ⟨k, e, h1⟩
    · exact .inl h1
    · exact .inr ⟨k, e, fun i hi => key _ _ _ (h1 i hi) (fun b e => by cases e)⟩
  · rcases h.2 i hi with h1 | ⟨k, o, e, h1⟩
    · exact .inl h1
    · exact .inr ⟨k, o, e, fun j hj => key _ _ _ (h1 j hj) (fun b e => by cases e)⟩
theorem grown_newS {w X Y : World} {sb g : Nat} (h : w.grownBy X (some sb)) (k : X.grownBy Y (some g)) (hg : w.heap.size ≤ g) : w.grownBy Y (some sb) :=
  ⟨k.os.trans h.os, k.tape.trans h.tape, k.output.trans h.output, Nat.le_trans h.size k.size, fun i hi hne => (k.block i (Nat.lt_of_lt_of_le hi h.size) (by
    intro e
    have : i = g := by simpa using e
    omega)).trans (h.block i hi hne)⟩
theorem grown_rowS {w X Y : World} {sb B e s n : Nat} {v : Value} {xs : List Value} (h : w.grownBy X (some sb)) (ho : X.ownsRow B e s v n xs) (hB : w.heap.size ≤ B) (hg : X.grownBy Y v.ownBlock) : w.grownBy Y (some sb) := by
  cases hv : v.ownBlock with
  | none => rw [hv] at hg; exact grown_trans h (grown_but _ hg)
  | some g => rw [hv] at hg; exact grown_newS h hg (Nat.le_trans hB (ho.lt g hv).1)
theorem grown_keepS {w X Y : World} {sb : Nat} (h : w.grownBy X (some sb)) (k : X.grownBy Y none) : w.grownBy Y (some sb) := grown_trans h (grown_but _ k)
theorem TrP.ext {X : World} {B n : Nat} {Q Q' : Nat → List Nat} {ua : Nat → Option Addr} {uc : Nat → Nat} (h : TrP X B n Q ua uc) (e : ∀ j, j < n → Q j = Q' j) : TrP X B n Q' ua uc :=
  ⟨fun j hj => by rw [← e j hj]; exact h.inn j hj, fun i j hi hj hne => by rw [← e i hi, ← e j hj]; exact h.sep i j hi hj hne⟩
/-- How much is left to be gone: of what was not seen, of what stands on the stack. -/
def wU (E : Nat → List Nat) (S : Nat → Bool) : Nat → Nat
  | 0 => 0
  | n + 1 => wU E S n + (if S n = true then 0 else (E n).length + 1)
def wS (E : Nat → List Nat) (st : List (Nat × Nat)) : Nat := (st.map fun f => (E f.1).length - f.2 + 1).sum
theorem wU_out (E : Nat → List Nat) (S : Nat → Bool) (x : Nat) : ∀ n, n ≤ x → wU E (markT S x) n = wU E S n
  | 0, _ => rfl
  | n + 1, h => by
    have e : markT S x n = S n := by unfold markT; rw [if_neg (by omega)]
    simp only [wU, wU_out E S x n (by omega), e]
theorem wU_mark (E : Nat → List Nat) (S : Nat → Bool) (x : Nat) (hS : S x = false) : ∀ n, x < n → wU E (markT S x) n + ((E x).length + 1) = wU E S n
  | 0, h => by omega
  | n + 1, h => by
    by_cases e : x = n
    · subst e
      have e1 : markT S x x = true := by simp [markT]
      simp [wU, wU_out E S x x (Nat.le_refl _), e1, hS]
    · have e1 : markT S x n = S n := by unfold markT; rw [if_neg (fun h => e h.symm)]
      have ih := wU_mark E S x hS n (by omega)
      simp only [wU, e1]
      omega

end Go.Proofs.YtjijagnpcmonbaaDoor.J

/-
  digraph: lists of numbers in memory whose outer row may lie in the midst of a block.
-/
namespace Go.Proofs.YtjijagnpcmonbaaDoor.J
open Go.RowKit Go.Maps Go.Shelf

attribute [local go_sem] Oper.semAt_some

/-- Lists of numbers in memory, wherever they lie. -/
def LwAt (X : World) (a : Option Addr) (N : Nat) (Q : Nat → List Int) (ua : Nat → Option Addr) (uc : Nat → Nat) : Prop := (N = 0 ∨ ∃ k off, a = some ⟨k, off, none⟩ ∧ ∀ i, i < N → X.cell? ⟨k, off + i, none⟩ = some (.slice (ua i) (Q i).length (uc i))) ∧ ∀ i, i < N → IntsAt X (ua i) (Q i)
section
variable {X Y : World} {a : Option Addr} {N : Nat} {Q : Nat → List Int} {ua : Nat → Option Addr} {uc : Nat → Nat}
theorem LsAt.lw (h : LsAt X a N Q ua uc) : LwAt X a N Q ua uc := ⟨h.1.imp id fun ⟨k, e, h1⟩ => ⟨k, 0, e, fun i hi => by rw [Nat.zero_add]; exact h1 i hi⟩, h.2⟩
theorem LwAt.kept (h : LwAt X a N Q ua uc) (hg : X.grownBy Y none) : LwAt Y a N Q ua uc := by
  refine ⟨?_, fun i hi => (h.2 i hi).kept hg⟩
  rcases h.1 with h | ⟨k, o, e, h1⟩
  · exact .inl h
  · exact .inr ⟨k, o, e, fun i hi => hg.cell (h1 i hi) (by simp)⟩
theorem LwAt.marks {sb m : Nat} {c : Nat → Bool} (h : LwAt X a N Q ua uc) (hb : ValAt X sb m 4 (fun i => .bool (c i))) (hg : X.grownBy Y (some sb)) : LwAt Y a N Q ua uc := by
  have key : ∀ (k j : Nat) (v : Value), X.cell? ⟨k, j, none⟩ = some v → (∀ b, v ≠ .bool b) → Y.cell? ⟨k, j, none⟩ = some v := fun k j v hv hne => by
    refine hg.cell hv ?_
    intro e
    have e2 : k = sb := by simpa using e
    subst e2
    rw [cell_of_row _ _ _ _ _ _ hb] at hv
    by_cases hj : j < m
    · have : v = .bool (c j) := by simpa [hj] using hv.symm
      exact hne _ this
    · simp [hj] at hv
  refine ⟨?_, fun i hi => ?_⟩
  · rcases h.1 with h1 | ⟨k, o, e, h1⟩
    · exact .inl h1
    · exact .inr ⟨k, o, e, fun i hi => key _ _ _ (h1 i hi) (fun b e => by cases e)⟩
  · rcases h.2 i hi with h1 | ⟨k, o, e, h1⟩
    · exact .inl h1
    · exact .inr ⟨k, o, e, fun j hj => key _ _ _ (h1 j hj) (fun b e => by cases e)⟩
end

set_option maxRecDepth 100000 in
theorem lists_w (a1 a2 : Option Addr) (c1 c2 n : Nat) (Q : Nat → List Int) (u1 u2 : Nat → Option Addr) (k1 k2 : Nat → Nat) (w : World) (h1 : LwAt w a1 n Q u1 k1) (h2 : LwAt w a2 n Q u2 k2) (hn : n ≤ 1048576) (hQ : ∀ i, i < n → (Q i).length ≤ 17592186044416) :
    Calls Tryd.prog 8 #[.slice a1 n c1, .slice a2 n c2] w fun e y => e = .returned (.bool true) ∧ w.grownBy y none := by
  have H1 : Hid (∀ X, w.grownBy X none → LwAt X a1 n Q u1 k1 ∧ LwAt X a2 n Q u2 k2) := fun X hX => ⟨h1.kept hX, h2.kept hX⟩
  have HQ : Hid (∀ i, i < n → (Q i).length ≤ 17592186044416) := hQ
  have hnn : ((n : Int) != (n : Int)) = false := bne_self_eq_false _
  clear h1 h2 hQ
  go_enter Tryd.func8, Tryd.ntmps8
  go_wp2_with fail
  go_loopg [5] n (fun gk v5 wr => ∃ (j : Nat), j ≤ n ∧ gk = n - j ∧ v5 = .int .i64 j ∧ w.grownBy wr none)
  case atStart => exact ⟨0, Nat.zero_le _, rfl, rfl, grown_refl _ _⟩
  case round =>
    obtain ⟨j, hj, hgj, rfl, hg⟩ := hrel
    have HGJ : Hid (gk = n - j) := hgj
    have HG : Hid (w.grownBy wr none) := hg
    clear hgj hg
    by_cases hjl : j < n
    · obtain ⟨ab, ao, rfl, hc1⟩ : ∃ ab ao, a1 = some ⟨ab, ao, none⟩ ∧ wr.cell? ⟨ab, ao + j, none⟩ = some (.slice (u1 j) (Q j).length (k1 j)) := by
        rcases (H1.out wr HG.out).1.1 with h | ⟨k, ko, e, h⟩
        · omega
        · exact ⟨k, ko, e, h j hjl⟩
      obtain ⟨bb, bo, rfl, hc2⟩ : ∃ ab ao, a2 = some ⟨ab, ao, none⟩ ∧ wr.cell? ⟨ab, ao + j, none⟩ = some (.slice (u2 j) (Q j).length (k2 j)) := by
        rcases (H1.out wr HG.out).2.1 with h | ⟨k, ko, e, h⟩
        · omega
        · exact ⟨k, ko, e, h j hjl⟩
      have HIN : Hid (∀ X, wr.grownBy X none → Calls Tryd.prog 13 #[.slice (u1 j) (Q j).length (k1 j), .slice (u2 j) (Q j).length (k2 j)] X fun e y => e = .returned (.bool true) ∧ X.grownBy y none) := fun X hX => ints_same _ _ _ _ (Q j) X (((H1.out wr HG.out).1.2 j hjl).kept hX) (((H1.out wr HG.out).2.2 j hjl).kept hX) (HQ.out j hjl)
      obtain ⟨ql, hql⟩ : ∃ q, q = (Q j).length := ⟨_, rfl⟩
      rw [← hql] at HIN hc1 hc2
      have hj0 : (0 : Int) ≤ (j : Int) := by omega
      have hj1 : (j : Int) < (n : Int) := by omega
      have hjd : decide (j < n) = true := decide_eq_true hjl
      clear hql
      go_wp2_with fail
      have HUP : Hid (wr.grownBy wr.drew none) := grown_drewN wr 1
      have HKS : Hid (∀ X, wr.grownBy X none → X.cell? ⟨ab, ao + j, none⟩ = some (.slice (u1 j) ql (k1 j)) ∧ X.cell? ⟨bb, bo + j, none⟩ = some (.slice (u2 j) ql (k2 j))) := fun X hX => ⟨hX.cell hc1 (by simp), hX.cell hc2 (by simp)⟩
      go_region_held3 (fun X => X.cell? ⟨ab, ao + j, none⟩ = some (.slice (u1 j) ql (k1 j)) ∧ X.cell? ⟨bb, bo + j, none⟩ = some (.slice (u2 j) ql (k2 j))) (first | exact HKS.out _ HUP.out | exact HKS.out _ HG4.out | go_keep)
        ((first
          | (go_at_call 13; refine Calls.mono (HIN.out _ HUP.out) ?_; rintro e w3 ⟨rfl, hg3⟩; have HG4 : Hid (wr.grownBy w3 none) := grown_trans HUP.out hg3; clear hg3)
          | fail))
      have HG3 : Hid (w.grownBy w3 none) := grown_trans HG.out HG4.out
      clear hc1 hc2 HIN
      go_wp2_with fail
      go_roundg (n - (j + 1))
      case measure => have := HGJ.out; omega
      case rel => exact ⟨j + 1, by omega, rfl, by go_num, HG3.out⟩
    · have hjn : n = j := by omega
      subst hjn
      have hjd : decide (n < n) = false := decide_eq_false (by omega)
      go_wp2_with fail
      go_ret
      exact ⟨rfl, HG.out⟩


end Go.Proofs.YtjijagnpcmonbaaDoor.J

/-
  digraph: the law's made.
-/
namespace Go.Proofs.YtjijagnpcmonbaaDoor.J
open Go.RowKit Go.Maps Go.Shelf D

attribute [local go_sem] Oper.semAt_some

end Go.Proofs.YtjijagnpcmonbaaDoor.J

/-
  digraph: the law's own.
-/
namespace Go.Proofs.YtjijagnpcmonbaaDoor.J
open Go.RowKit Go.Maps Go.Shelf D

attribute [local go_sem] Oper.semAt_some

end Go.Proofs.YtjijagnpcmonbaaDoor.J

/-
  digraph: the law's lent: lists in memory of their own.
-/
namespace Go.Proofs.YtjijagnpcmonbaaDoor.J
open Go.RowKit Go.Maps Go.Shelf D

attribute [local go_sem] Oper.semAt_some

/-- Rows of numbers, as the cells that hold them. -/
def rowsZ (K : Nat) (Q : Nat → List Int) (ua : Nat → Option Addr) (uc : Nat → Nat) : List Value := (List.range K).map fun j => .slice (ua j) (Q j).length (uc j)
theorem rowsZ_at {K j : Nat} (Q : Nat → List Int) (ua : Nat → Option Addr) (uc : Nat → Nat) (hj : j < K) : (rowsZ K Q ua uc)[j]? = some (.slice (ua j) (Q j).length (uc j)) := by unfold rowsZ; simp [hj]
theorem rowsZ_snoc (K : Nat) (Q : Nat → List Int) (ua : Nat → Option Addr) (uc : Nat → Nat) (a : Option Addr) (c : Nat) : rowsZ (K + 1) Q (updC ua K a) (updC uc K c) = rowsZ K Q ua uc ++ [.slice a (Q K).length c] := by
  unfold rowsZ
  rw [List.range_succ, List.map_append]
  congr 1
  · refine List.map_congr_left fun j hj => ?_
    have : j ≠ K := by have := List.mem_range.1 hj; omega
    rw [updC_other _ _ this, updC_other _ _ this]
  · simp [updC_same]

/-- Lists under way: K of them. -/
structure LtP (X : World) (B : Nat) (ka : Option Addr) (kc K : Nat) (Q : Nat → List Int) (ua : Nat → Option Addr) (uc : Nat → Nat) : Prop where
  out : X.ownsRow B 28 1 (.slice ka K kc) K (rowsZ K Q ua uc)
  inn : ∀ j, j < K → X.ownsRow B 3 1 (.slice (ua j) (Q j).length (uc j)) (Q j).length ((Q j).map (Value.int .i64))
theorem add_off (b off j : Nat) : (⟨b, off, none⟩ : Addr).add j = ⟨b, off + j, none⟩ := by
  by_cases h0 : j = 0
  · simp [Addr.add, h0]
  · simp [Addr.add, h0]
theorem owned_ints {X : World} {B n c : Nat} {a : Option Addr} {l : List Int} (h : X.ownsRow B 3 1 (.slice a n c) n (l.map (Value.int .i64))) (hn : n = l.length) : IntsAt X a l := by
  by_cases e : l = []
  · exact .inl e
  · obtain ⟨g, c2, hg, hc⟩ := owns_at h (by rw [hn]; exact List.length_pos_iff.2 e)
    simp only [Value.slice.injEq] at hg
    refine .inr ⟨g, 0, hg.1, fun j hj => ?_⟩
    rw [Nat.zero_add]
    refine hc j _ ?_
    rw [List.getElem?_map, List.getD_eq_getElem?_getD, List.getElem?_eq_getElem hj]; rfl
theorem ints_src {X : World} {a : Option Addr} {l : List Int} (h : IntsAt X a l) : ∀ ad, a = some ad → ∀ j u, (l.map (Value.int .i64))[j]? = some u → X.cell? (ad.add j) = some u := by
  intro ad ha j u hu
  rw [List.getElem?_map] at hu
  cases hl : l[j]? with
  | none => rw [hl] at hu; cases hu
  | some x =>
    rw [hl] at hu
    have hj := (List.getElem?_eq_some_iff.1 hl).1
    rcases h with h | ⟨b, off, e, h⟩
    · rw [h] at hj; cases hj
    · rw [ha] at e
      have e2 : ad = ⟨b, off, none⟩ := by simpa using e
      have h3 := h j hj
      rw [List.getD_eq_getElem?_getD, hl] at h3
      rw [e2, add_off, h3]
      simpa using hu
theorem ints_one (l : List Int) : ∀ u ∈ l.map (Value.int .i64), u.oneCell' = true := fun u hu => by
  obtain ⟨x, _, rfl⟩ := List.mem_map.1 hu
  rfl
theorem LtP.ls {X : World} {B : Nat} {ka : Option Addr} {kc K : Nat} {Q : Nat → List Int} {ua : Nat → Option Addr} {uc : Nat → Nat} (h : LtP X B ka kc K Q ua uc) : LsAt X ka K Q ua uc := by
  refine ⟨?_, fun i hi => owned_ints (h.inn i hi) rfl⟩
  by_cases e : K = 0
  · exact .inl e
  · obtain ⟨g, c, hg, hc⟩ := owns_at h.out (by omega)
    simp only [Value.slice.injEq] at hg
    exact .inr ⟨g, hg.1, fun i hi => hc i _ (rowsZ_at Q ua uc hi)⟩
theorem LtP.kept {X Y : World} {B : Nat} {ka : Option Addr} {kc K : Nat} {Q : Nat → List Int} {ua : Nat → Option Addr} {uc : Nat → Nat} (h : LtP X B ka kc K Q ua uc) (hg : X.grownBy Y none) : LtP Y B ka kc K Q ua uc := ⟨keep0 h.out hg, fun j hj => keep0 (h.inn j hj) hg⟩
/-- A list more. -/
theorem LtP.push {X Y : World} {B : Nat} {ka ka' : Option Addr} {kc kc' K : Nat} {Q : Nat → List Int} {ua : Nat → Option Addr} {uc : Nat → Nat} {a : Option Addr} {c : Nat} (h : LtP X B ka kc K Q ua uc) (hr : X.ownsRow B 3 1 (.slice a (Q K).length c) (Q K).length ((Q K).map (Value.int .i64))) (hg : X.grownBy Y (Value.slice ka K kc).ownBlock) (ho : Y.ownsRow B 28 1 (.slice ka' (K + 1) kc') (K + 1) (rowsZ K Q ua uc ++ [.slice a (Q K).length c])) : LtP Y B ka' kc' (K + 1) Q (updC ua K a) (updC uc K c) := by
  refine ⟨by rw [rowsZ_snoc]; exact ho, fun j hj => ?_⟩
  by_cases e : j = K
  · subst e
    rw [updC_same, updC_same]
    exact row_row hr h.out (by decide) hg
  · rw [updC_other _ _ e, updC_other _ _ e]
    exact row_row (h.inn j (by omega)) h.out (by decide) hg

/-- What lent tells. -/
def LentTold (w : World) (N : Nat) (Q : Nat → List Int) (e : Ending) (y : World) : Prop := ∃ ka kc ua uc, e = .returned (.slice ka N kc) ∧ LtP y w.heap.size ka kc N Q ua uc ∧ w.grownBy y none

end Go.Proofs.YtjijagnpcmonbaaDoor.J

/-
  digraph: a relation turned, pure; several nodes come to a list at once.
-/
namespace Go.Proofs.YtjijagnpcmonbaaDoor.J
open Go.RowKit Go.Maps Go.Shelf D

section
variable {X Y : World} {B : Nat} {ka : Option Addr} {kc K : Nat} {Q : Nat → List Nat} {ua : Nat → Option Addr} {uc : Nat → Nat}
/-- Nodes come to one of the lists. -/
theorem CqP.addL {f g c ln : Nat} {kb : Nat} {L : List Nat} (hL : ln = L.length) (h : CqP X B (some ⟨kb, 0, none⟩) kc K Q ua uc) (hf : f < K) (hg : X.grownBy Y (Value.slice (ua f) (Q f).length (uc f)).ownBlock) (ho : Y.ownsRow B 3 1 (.slice (some ⟨g, 0, none⟩) ((Q f).length + ln) c) ((Q f).length + ln) (natV (Q f) ++ natV L)) (hat : (Value.slice (ua f) (Q f).length (uc f)).ownBlock = some g ∨ g = X.heap.size) :
    (Y.cell? ⟨kb, f, none⟩ = some (.slice (ua f) (Q f).length (uc f)) ∧ Y.frozen? ⟨kb, f, none⟩ = false) ∧ CqP (Y.setCell ⟨kb, f, none⟩ (.slice (some ⟨g, 0, none⟩) ((Q f).length + ln) c)) B (some ⟨kb, 0, none⟩) kc K (updC Q f (Q f ++ L)) (updC ua f (some ⟨g, 0, none⟩)) (updC uc f c) := by
  have hs : Y.grownBy (Y.setCell ⟨kb, f, none⟩ (.slice (some ⟨g, 0, none⟩) ((Q f).length + ln) c)) (some kb) := grown_setCell _ _ _
  have hout := row_row h.out (h.inn f hf) (by decide) hg
  have hlen : (Q f ++ L).length = (Q f).length + ln := by rw [List.length_append, hL]
  rcases hout.2 with ⟨hx, _⟩ | ⟨g', cap, cur, hv, hB, hh, hn, hm, hsz, ht⟩
  · cases hx
  · simp only [Value.slice.injEq, Option.some.injEq, Addr.mk.injEq, and_true] at hv
    obtain ⟨rfl, _, rfl⟩ := hv
    have key : ∀ k, k < K → k ≠ f → (Value.slice (ua k) (Q k).length (uc k)).ownBlock = none ∨ (Value.slice (ua k) (Q k).length (uc k)).ownBlock ≠ some g := fun k hk e => by
      rcases hat with h1 | h1
      · rw [← h1]; exact h.sep k f hk hf e
      · cases hb : (Value.slice (ua k) (Q k).length (uc k)).ownBlock with
        | none => exact .inl rfl
        | some b =>
          right
          intro h2
          have h3 := ((h.inn k hk).lt b hb).2
          have h4 : b = g := by simpa using h2
          omega
    refine ⟨⟨?_, frozen_of_row _ _ _ _ _ hh⟩, ?_, fun k hk => ?_, fun k l hk hl e => ?_⟩
    · have h3 := rowsC_at (K := K) Q ua uc hf
      rw [← ht, List.getElem?_take, if_pos (by omega)] at h3
      rw [cell_of_row _ _ _ _ _ _ hh]
      simpa using h3
    · refine ⟨by rw [rowsC_length]; omega, .inr ⟨kb, kc, cur.setIfInBounds f (.slice (some ⟨g, 0, none⟩) ((Q f).length + ln) c), rfl, hB, heap_setCell_same _ _ _ _ _ _ hh, hn, hm, by simpa using hsz, ?_⟩⟩
      rw [Array.toList_setIfInBounds, List.take_set, ht]
      apply List.ext_getElem?
      intro i
      rw [List.getElem?_set]
      by_cases hi : i < K
      · rw [rowsC_at _ _ _ hi, rowsC_at _ _ _ hi, rowsC_length]
        by_cases e : f = i
        · subst e
          rw [if_pos rfl, if_pos hi, updC_same, updC_same, updC_same, hlen]
        · have e2 : i ≠ f := fun h => e h.symm
          rw [if_neg e, updC_other _ _ e2, updC_other _ _ e2, updC_other _ _ e2]
      · have h1 : f ≠ i := by omega
        rw [if_neg h1, List.getElem?_eq_none (by rw [rowsC_length]; omega), List.getElem?_eq_none (by rw [rowsC_length]; omega)]
    · by_cases e : k = f
      · subst e
        rw [updC_same, updC_same, updC_same, hlen, natV_append]
        exact ho.kept hs (owns_nebox ho hh (by decide))
      · rw [updC_other _ _ e, updC_other _ _ e, updC_other _ _ e]
        have h1 := (h.inn k hk).kept hg (h.sep k f hk hf e)
        exact h1.kept hs (owns_nebox h1 hh (by decide))
    · by_cases e1 : k = f
      · subst e1
        have e2 : l ≠ k := fun h => e h.symm
        rw [updC_same, updC_same, updC_same, updC_other _ _ e2, updC_other _ _ e2, updC_other _ _ e2]
        right
        rcases key l hl e2 with h1 | h1
        · rw [h1]; simp [Value.ownBlock]
        · exact fun h2 => h1 h2.symm
      · rw [updC_other _ _ e1, updC_other _ _ e1, updC_other _ _ e1]
        by_cases e2 : l = f
        · subst e2
          rw [updC_same, updC_same, updC_same]
          exact key k hk e1
        · rw [updC_other _ _ e2, updC_other _ _ e2, updC_other _ _ e2]
          exact h.sep k l hk hl e
end

/-- A node by its other number; and back. -/
def tau (n k x : Nat) : Nat := (x + k) % n
def sig (n k y : Nat) : Nat := (y + (n - k)) % n
section
variable {n k : Nat}
theorem tau_lt (hn : 0 < n) (x : Nat) : tau n k x < n := Nat.mod_lt _ hn
theorem sig_lt (hn : 0 < n) (y : Nat) : sig n k y < n := Nat.mod_lt _ hn
theorem tau_val (hk : k < n) {x : Nat} (hx : x < n) : tau n k x = if x + k < n then x + k else x + k - n := by
  unfold tau
  by_cases h : x + k < n
  · rw [if_pos h, Nat.mod_eq_of_lt h]
  · rw [if_neg h, Nat.mod_eq_sub_mod (by omega), Nat.mod_eq_of_lt (by omega)]
theorem sig_val (hk : k < n) {y : Nat} (hy : y < n) : sig n k y = if k ≤ y then y - k else y + (n - k) := by
  unfold sig
  by_cases h : k ≤ y
  · rw [if_pos h, Nat.mod_eq_sub_mod (by omega), Nat.mod_eq_of_lt (by omega)]
    omega
  · rw [if_neg h, Nat.mod_eq_of_lt (by omega)]
theorem tau_sig (hk : k < n) {y : Nat} (hy : y < n) : tau n k (sig n k y) = y := by
  have h1 := sig_val hk hy
  rw [tau_val hk (sig_lt (by omega) y), h1]
  split <;> split <;> omega
/-- What is laid for a node, from its last step down to step m. -/
def flD (n k : Nat) (E : Nat → List Nat) (x m : Nat) : List Nat := (((E x).drop m).reverse).flatMap fun t => [tau n k t, tau n k t]
/-- The turned relation: each node by its other number. -/
structure TurnP (n k : Nat) (E F : Nat → List Nat) : Prop where
  hk : k < n
  hE : ∀ x, x < n → ∀ y ∈ E x, y < n
  hF : ∀ x, x < n → ∀ t, t ∈ F (tau n k x) ↔ ∃ y ∈ E x, t = tau n k y
variable {E F : Nat → List Nat}
theorem TurnP.lt (h : TurnP n k E F) : ∀ y, y < n → ∀ t ∈ F y, t < n := fun y hy t ht => by
  have hn : 0 < n := by have := h.hk; omega
  rw [← tau_sig h.hk hy] at ht
  obtain ⟨z, _, rfl⟩ := (h.hF _ (sig_lt hn y) t).1 ht
  exact tau_lt hn z
theorem TurnP.go (h : TurnP n k E F) {x y : Nat} (hr : Rch E x y) : x < n → y < n ∧ Rch F (tau n k x) (tau n k y) := by
  induction hr with
  | refl _ => exact fun hx => ⟨hx, .refl _⟩
  | step h1 _ ih =>
    intro hx
    obtain ⟨h2, h3⟩ := ih (h.hE _ hx _ h1)
    exact ⟨h2, .step ((h.hF _ hx _).2 ⟨_, h1, rfl⟩) h3⟩
end

end Go.Proofs.YtjijagnpcmonbaaDoor.J

/-
  digraph: the document's turn.
-/
namespace Go.Proofs.YtjijagnpcmonbaaDoor.J
open Go.RowKit Go.Maps Go.Shelf D

attribute [local go_sem] Oper.semAt_some
attribute [local go_sem ↓] Go.wp_at_zero Go.wp_at_succ

/-- From where the first i nodes lead to a node; and the next one by its first k steps. -/
def tnR (E : Nat → List Nat) (i t : Nat) : List Nat := (List.range i).flatMap fun x => ((E x).filter fun y => decide (y = t)).map fun _ => x
def tnP (E : Nat → List Nat) (i k t : Nat) : List Nat := tnR E i t ++ (((E i).take k).filter fun y => decide (y = t)).map fun _ => i
theorem tnP_zero (E : Nat → List Nat) (i t : Nat) : tnP E i 0 t = tnR E i t := by unfold tnP; simp
theorem tnP_step (E : Nat → List Nat) (i k t : Nat) (hk : k < (E i).length) : tnP E i (k + 1) t = if t = (E i).getD k 0 then tnP E i k t ++ [i] else tnP E i k t := by
  have e : (E i).getD k 0 = (E i)[k] := by rw [List.getD_eq_getElem?_getD, List.getElem?_eq_getElem hk]; rfl
  unfold tnP
  rw [e, List.take_succ_eq_append_getElem hk, List.filter_append, List.map_append]
  by_cases h : t = (E i)[k]
  · rw [if_pos h, ← h]
    simp
  · rw [if_neg h]
    have h2 : ¬ (E i)[k] = t := fun e => h e.symm
    simp [h2]
theorem tnP_next (E : Nat → List Nat) (i t : Nat) : tnP E i (E i).length t = tnR E (i + 1) t := by
  unfold tnP tnR
  rw [List.take_length, List.range_succ, List.flatMap_append]
  simp
theorem tnR_mem (E : Nat → List Nat) (n x t : Nat) : x ∈ tnR E n t ↔ x < n ∧ t ∈ E x := by
  unfold tnR
  simp only [List.mem_flatMap, List.mem_range, List.mem_map, List.mem_filter, decide_eq_true_eq]
  constructor
  · rintro ⟨y, hy, z, ⟨h1, h2⟩, h3⟩
    subst h3
    exact ⟨hy, by rw [← h2]; exact h1⟩
  · rintro ⟨h1, h2⟩
    exact ⟨x, h1, t, ⟨h2, rfl⟩, rfl⟩
/-- How many steps the first i nodes have. -/
def sumL (E : Nat → List Nat) : Nat → Nat
  | 0 => 0
  | i + 1 => sumL E i + (E i).length
theorem tnR_len (E : Nat → List Nat) (t : Nat) : ∀ i, (tnR E i t).length ≤ sumL E i
  | 0 => by simp [tnR]
  | i + 1 => by
    rw [← tnP_next]
    unfold tnP sumL
    have h1 := tnR_len E t i
    have h2 := List.length_filter_le (fun y => decide (y = t)) ((E i).take (E i).length)
    rw [List.length_append, List.length_map]
    rw [List.take_length] at h2 ⊢
    omega
theorem sumL_mono (E : Nat → List Nat) {i n : Nat} (h : i ≤ n) : sumL E i ≤ sumL E n := by
  induction n with
  | zero => have : i = 0 := by omega
            rw [this]; exact Nat.le_refl _
  | succ n ih =>
    by_cases e : i = n + 1
    · rw [e]; exact Nat.le_refl _
    · have := ih (by omega)
      show _ ≤ sumL E n + _
      omega
theorem tnP_len (E : Nat → List Nat) (i k t n : Nat) (h : i < n) : (tnP E i k t).length ≤ sumL E n := by
  have h0 := tnR_len E t i
  have h1 := sumL_mono E (show i + 1 ≤ n by omega)
  have h2 := List.length_filter_le (fun y => decide (y = t)) ((E i).take k)
  rw [List.length_take] at h2
  unfold tnP
  rw [List.length_append, List.length_map]
  have h3 : sumL E (i + 1) = sumL E i + (E i).length := rfl
  omega

set_option maxRecDepth 100000 in
set_option maxHeartbeats 8000000 in
theorem rturn_any (w : World) (N : Nat) (ea : Option Addr) (ec : Nat) (E : Nat → List Nat) (eua : Nat → Option Addr) (euc : Nat → Nat) (hL : LwAt w ea N (fun i => intL (E i)) eua euc) (hN : N ≤ 1048576) (hsum : sumL E N ≤ 1048576) (hE : ∀ x, x < N → ∀ y ∈ E x, y < N) :
    Calls Tryd.prog 32 #[.slice ea N ec] w fun e y => MadeTold w N (tnR E N) e y := by
  have HLX : Hid (∀ X, w.grownBy X none → LwAt X ea N (fun i => intL (E i)) eua euc) := fun X hX => hL.kept hX
  have HEN : Hid (∀ x, x < N → ∀ y ∈ E x, y < N) := hE
  have HSU : Hid (sumL E N ≤ 1048576) := hsum
  obtain ⟨i0, hi0, hz0, hz1, hz2⟩ := info_parts infoInt
  obtain ⟨i1, hi1, hy0, hy1, hy2⟩ := info_parts infoRowsS
  clear hL hE hsum
  go_enter Tryd.func32, Tryd.ntmps32
  go_wp2_with (at_make; refine wpList_make_full _ rfl _ _ 22 rfl w.heap.size 28 i1 (.slice none 0 0) 1 Tryd.underlying22 hi1 hy0 hy1 .i64 .i64 _ _ N rfl rfl (by simp) (by simp) (by rw [hy2]; omega) (by unfold maxLen; omega) (by simp) ?_)
  intro w5 hown hgrow
  have hval : ValAt w5 w.heap.size N 28 (fun _ => .slice none 0 0) := made_rowK (B := w.heap.size) rfl (by simpa [Value.cells] using hown)
  obtain ⟨kb, hkb⟩ : ∃ b, b = w.heap.size := ⟨_, rfl⟩
  rw [← hkb] at hval
  rw [← hkb]
  have HC0 : Hid (CqP w5 w.heap.size (some ⟨kb, 0, none⟩) N N (tnR E 0) (fun _ => none) (fun _ => 0)) := (CqP.made hval (by omega) (by unfold maxLen; omega)).ext fun i _ => by simp [tnR]
  have HG0 := show Hid _ from hgrow
  have HKB : Hid (w.heap.size ≤ kb) := by show _ ≤ _; omega
  clear hown hgrow hval hkb
  go_wp2_with fail
  go_loopg [4] N (fun gk v4 wr => ∃ (i : Nat) (ua : Nat → Option Addr) (uc : Nat → Nat), i ≤ N ∧ gk = N - i ∧ v4 = .int .i64 i ∧ CqP wr w.heap.size (some ⟨kb, 0, none⟩) N N (tnR E i) ua uc ∧ w.grownBy wr none)
  case atStart => exact ⟨0, _, _, Nat.zero_le _, rfl, rfl, HC0.out, HG0.out⟩
  case round =>
    clear HC0 HG0
    obtain ⟨i, ua, uc, hi, hgk, rfl, hC, hG⟩ := hrel
    have HGK : Hid (gk = N - i) := hgk
    have HC := show Hid _ from hC
    have HG := show Hid _ from hG
    clear hgk hC hG
    by_cases hlt : i < N
    · have hid : decide (i < N) = true := decide_eq_true hlt
      have hi0' : (0 : Int) ≤ (i : Int) := by omega
      have hi1' : (i : Int) < (N : Int) := by omega
      obtain ⟨ek, eo, hek, HEC, HEI⟩ : ∃ ek eo, ea = some ⟨ek, eo, none⟩ ∧ Hid (∀ X, w.grownBy X none → X.cell? ⟨ek, eo + i, none⟩ = some (.slice (eua i) (E i).length (euc i))) ∧ Hid (∀ X, w.grownBy X none → IntsAt X (eua i) (intL (E i))) := by
        have h1 := HLX.out w (grown_refl _ _)
        rcases h1.1 with h | ⟨ek, eo, e, h⟩
        · omega
        · refine ⟨ek, eo, e, fun X hX => ?_, fun X hX => (HLX.out X hX).2 i hlt⟩
          have := h i hlt
          rw [intL_length] at this
          exact hX.cell this (by simp)
      subst hek
      obtain ⟨el, hel⟩ : ∃ v, v = (E i).length := ⟨_, rfl⟩
      obtain ⟨eau, heau⟩ : ∃ v, v = eua i := ⟨_, rfl⟩
      obtain ⟨ecu, hecu⟩ : ∃ v, v = euc i := ⟨_, rfl⟩
      rw [← hel, ← heau, ← hecu] at HEC
      rw [← heau] at HEI
      have HEE : Hid (el = (E i).length) := hel
      have helb : el ≤ 1048576 := by
        have h1 := sumL_mono E (show i + 1 ≤ N by omega)
        have h2 : sumL E (i + 1) = sumL E i + (E i).length := rfl
        have h3 := HSU.out
        omega
      have HCP : Hid (CqP wr w.heap.size (some ⟨kb, 0, none⟩) N N (tnP E i 0) ua uc) := HC.out.ext fun t _ => (tnP_zero E i t).symm
      clear hel heau hecu HC
      go_wp2_with fail
      go_loopg [5] el (fun gk v5 wr => ∃ (k : Nat) (ua : Nat → Option Addr) (uc : Nat → Nat), k ≤ el ∧ gk = el - k ∧ v5 = .int .i64 k ∧ CqP wr w.heap.size (some ⟨kb, 0, none⟩) N N (tnP E i k) ua uc ∧ w.grownBy wr none)
      case atStart => exact ⟨0, _, _, Nat.zero_le _, rfl, rfl, HCP.out, HG.out⟩
      case round =>
        clear HCP HG
        obtain ⟨k, ua, uc, hk, hgk, rfl, hC, hG⟩ := hrel
        have HGJ : Hid (gk = el - k) := hgk
        have HC := show Hid _ from hC
        have HG := show Hid _ from hG
        have c0 := HEC.out wr hG
        clear hgk hC hG
        by_cases hltk : k < el
        · have hkd : decide (k < el) = true := decide_eq_true hltk
          have hk0 : (0 : Int) ≤ (k : Int) := by omega
          have hk1 : (k : Int) < (el : Int) := by omega
          have hkE : k < (E i).length := by rw [← HEE.out]; exact hltk
          obtain ⟨fb, fo, hfa, c1⟩ : ∃ fb fo, eau = some ⟨fb, fo, none⟩ ∧ wr.cell? ⟨fb, fo + k, none⟩ = some (.int .i64 (((E i).getD k 0 : Nat) : Int)) := by
            rcases HEI.out wr HG.out with h1 | ⟨fb, fo, e, h1⟩
            · have h2 := intL_length (E i)
              rw [h1] at h2
              simp at h2
              omega
            · refine ⟨fb, fo, e, ?_⟩
              have h3 := h1 k (by rw [intL_length]; exact hkE)
              rw [intL_at] at h3
              exact h3
          subst hfa
          have HFB : Hid (fb < w.heap.size) := by
            rcases HEI.out w (grown_refl _ _) with h1 | ⟨fb2, fo2, e, h1⟩
            · have h2 := intL_length (E i)
              rw [h1] at h2
              simp at h2
              omega
            · have e3 : fb = fb2 ∧ fo = fo2 := by simpa using e
              have h4 := World.block_lt_of_cell? w _ (h1 k (by rw [intL_length]; exact hkE))
              rw [e3.1]; exact h4
          have htE : (E i).getD k 0 ∈ E i := by rw [List.getD_eq_getElem?_getD, List.getElem?_eq_getElem hkE]; exact List.getElem_mem hkE
          have hjn := HEN.out i hlt _ htE
          have HTS : Hid (∀ t, tnP E i (k + 1) t = if t = (E i).getD k 0 then tnP E i k t ++ [i] else tnP E i k t) := fun t => tnP_step E i k t hkE
          obtain ⟨j, hj⟩ : ∃ v, v = (E i).getD k 0 := ⟨_, rfl⟩
          rw [← hj] at c1 hjn HTS
          have hj0 : (0 : Int) ≤ (j : Int) := by omega
          have hj1 : (j : Int) < (N : Int) := by omega
          have hqb : (tnP E i k j).length ≤ 1048576 := Nat.le_trans (tnP_len E i k j N hlt) HSU.out
          obtain ⟨Q, hQ⟩ : ∃ Q, Q = tnP E i k := ⟨_, rfl⟩
          rw [← hQ] at HC HTS hqb
          obtain ⟨kb', kcap, hkb, hkcell⟩ := owns_at HC.out.out (by omega)
          simp only [Value.slice.injEq, Option.some.injEq, Addr.mk.injEq, and_true, true_and] at hkb
          obtain ⟨rfl, -⟩ := hkb
          have cj := hkcell j _ (rowsC_at _ _ _ hjn)
          obtain ⟨fa, hfa⟩ : ∃ a, a = ua j := ⟨_, rfl⟩
          obtain ⟨fc, hfc⟩ : ∃ a, a = uc j := ⟨_, rfl⟩
          obtain ⟨m, hm⟩ : ∃ m, m = (Q j).length := ⟨_, rfl⟩
          rw [← hfa, ← hfc, ← hm] at cj
          have hmb : m ≤ 1048576 := by rw [hm]; exact hqb
          generalize wr = V at *
          have HOW : Hid (∀ Y, V.grownBy Y none → Y.ownsRow w.heap.size 3 1 (.slice fa m fc) m (natV (Q j))) := fun Y hY => by
            have h1 := (HC.out.kept hY).inn j hjn
            rw [← hfa, ← hfc, ← hm] at h1
            exact h1
          have HPS : Hid (∀ Y, V.grownBy Y none → w.heap.size ≤ Y.heap.size) := fun Y hY => Nat.le_trans HG.out.size hY.size
          have HFIN : Hid (∀ (Y W : World) (g c : Nat), V.grownBy Y none → Y.grownBy W (Value.slice fa m fc).ownBlock → W.ownsRow w.heap.size 3 1 (.slice (some ⟨g, 0, none⟩) (m + 1) c) (m + 1) (natV (Q j) ++ [.int .i64 (i : Int)]) → ((Value.slice fa m fc).ownBlock = some g ∨ g = Y.heap.size) → (W.cell? ⟨kb, j, none⟩ = some (.slice fa m fc) ∧ W.frozen? ⟨kb, j, none⟩ = false) ∧ CqP (W.setCell ⟨kb, j, none⟩ (.slice (some ⟨g, 0, none⟩) (m + 1) c)) w.heap.size (some ⟨kb, 0, none⟩) N N (tnP E i (k + 1)) (updC ua j (some ⟨g, 0, none⟩)) (updC uc j c) ∧ w.grownBy (W.setCell ⟨kb, j, none⟩ (.slice (some ⟨g, 0, none⟩) (m + 1) c)) none ∧ W.cell? ⟨ek, eo + i, none⟩ = some (.slice (some ⟨fb, fo, none⟩) el ecu) ∧ W.cell? ⟨fb, fo + k, none⟩ = some (.int .i64 (j : Int))) := fun Y W g c hY hg ho hat => by
            have hq := HC.out.kept hY
            have hin := hq.inn j hjn
            rw [hfa, hfc, hm] at hg hat
            rw [hm] at ho
            obtain ⟨q1, q2⟩ := hq.add hjn hg ho hat
            rw [hfa, hfc, hm]
            have hs : W.grownBy (W.setCell ⟨kb, j, none⟩ (.slice (some ⟨g, 0, none⟩) ((Q j).length + 1) c)) (some kb) := grown_setCell _ _ _
            have hlow : ∀ (b x : Nat) (v : Value), b < w.heap.size → V.cell? ⟨b, x, none⟩ = some v → W.cell? ⟨b, x, none⟩ = some v := fun b x v hb hv => hg.cell (hY.cell hv (by simp)) (by
              intro e
              have h3 := (hin.lt b e.symm).1
              omega)
            have hek : ek < w.heap.size := World.block_lt_of_cell? w _ (HEC.out w (grown_refl _ _))
            have hfb : fb < w.heap.size := HFB.out
            refine ⟨q1, q2.ext fun t _ => ?_, grown_new (grown_row (grown_trans HG.out hY) hin (Nat.le_refl _) hg) hs HKB.out, hlow _ _ _ hek c0, hlow _ _ _ hfb c1⟩
            rw [HTS.out t]
            by_cases e : t = j
            · rw [e, updC_same, if_pos rfl]
            · rw [updC_other _ _ e, if_neg e, hQ]
          obtain ⟨xs, hxs⟩ : ∃ xs, xs = natV (Q j) := ⟨_, rfl⟩
          rw [← hxs] at HOW HFIN
          have p3 : ∀ o, (V.alloc o).cell? ⟨kb, j, none⟩ = some (.slice fa m fc) := fun o => (World.grownBy_alloc _ o none).cell cj (by simp)
          have p4 : ∀ o, (V.alloc o).cell? ⟨ek, eo + i, none⟩ = some (.slice (some ⟨fb, fo, none⟩) el ecu) := fun o => (World.grownBy_alloc _ o none).cell c0 (by simp)
          have p5 : ∀ o, (V.alloc o).cell? ⟨fb, fo + k, none⟩ = some (.int .i64 (j : Int)) := fun o => (World.grownBy_alloc _ o none).cell c1 (by simp)
          clear hfa hfc hm hxs hkcell hQ htE hj hqb hkE
          go_wp2_with fail
          go_region_law (first
            | (refine step_append_liesW _ rfl (.tmp 41) (.tmp 43) 28 rfl w.heap.size 3 i0 (.int .i64 0) 1 8 Tryd.underlying28 hi0 hz0 hz1 hz2 rfl (by decide) (.slice fa m fc) m xs (by first | (simp [Act.eval]; done) | simp [Act.eval, Act.put]) (HOW.out _ (grown_trans (World.grownBy_alloc _ _ none) (grown_drewN _ _))) ⟨V.heap.size, 0, none⟩ 1 1 [.int .i64 (i : Int)] (by first | (simp [Act.eval]; done) | simp [Act.eval, Act.put]) rfl (World.news_of_block (heap_alloc_last V _)) (by simp [Value.oneCell']) (by decide) (by unfold maxLen; omega) (by omega) (HPS.out _ (grown_trans (World.grownBy_alloc _ _ none) (grown_drewN _ _))) ?_; intro g9 c9 wB hoB hgB hat; obtain ⟨⟨q1, q2⟩, q3, q4, q5, q6⟩ := HFIN.out _ wB g9 c9 (grown_trans (World.grownBy_alloc _ _ none) (grown_drewN _ _)) hgB hoB hat; have HQ3 := show Hid _ from q3; have HQ4 := show Hid _ from q4; clear q3 q4 hoB hgB hat)
            | fail)
          all_goals go_wp2_with fail
          all_goals go_roundg (el - (k + 1))
          all_goals first
            | exact (show ∃ (k' : Nat), _ from ⟨k + 1, _, _, by omega, rfl, by go_num, HQ3.out, HQ4.out⟩)
            | (have := HGJ.out; omega)
        · have hkn : el = k := by omega
          subst hkn
          have hkd : decide (el < el) = false := decide_eq_false (by omega)
          have HCN : Hid (CqP wr w.heap.size (some ⟨kb, 0, none⟩) N N (tnR E (i + 1)) ua uc) := HC.out.ext fun t _ => by
            rw [← tnP_next, ← HEE.out]
          go_wp2_with fail
          go_roundg (N - (i + 1))
          all_goals first
            | exact (show ∃ (i' : Nat), _ from ⟨i + 1, _, _, by omega, rfl, by go_num, HCN.out, HG.out⟩)
            | (have := HGK.out; omega)
    · have hin : N = i := by omega
      subst hin
      have hid : decide (N < N) = false := decide_eq_false (by omega)
      go_wp2_with fail
      go_ret
      exact ⟨kb, ua, uc, rfl, HC.out, HG.out⟩

end Go.Proofs.YtjijagnpcmonbaaDoor.J

/-
  digraph: what the laws DigraphParts and DigraphSolves spoil, in memory.
-/
namespace Go.Proofs.YtjijagnpcmonbaaDoor.J
open Go.RowKit Go.Maps Go.Shelf D

/-- A row of numbers of one's own, whatever it holds. -/
def Like1 (X : World) (B : Nat) (v : Value) (n : Nat) : Prop := ∃ xs, X.ownsRow B 3 1 v n xs
theorem Like1.sized {X Y : World} {B n : Nat} {v : Value} (h : Like1 X B v n) (hs : Sizes X Y) : Like1 Y B v n := by
  obtain ⟨xs, h1, h2⟩ := h
  rcases h2 with ⟨rfl, rfl⟩ | ⟨g, cap, cur, rfl, hB, hh, h3, h4, h5, h6⟩
  · exact ⟨xs, h1, .inl ⟨rfl, rfl⟩⟩
  · obtain ⟨cur', h7, h8⟩ := hs g cur _ hh
    refine ⟨cur'.toList.take (n * 1), ?_, .inr ⟨g, cap, cur', rfl, hB, h7, h3, h4, by rw [h8]; exact h5, rfl⟩⟩
    rw [List.length_take, Array.length_toList, h8, h5]
    omega
theorem Like1.at {X : World} {B n i : Nat} {v : Value} (h : Like1 X B v n) (hi : i < n) : ∃ g c u0 cur, v = .slice (some ⟨g, 0, none⟩) n c ∧ B ≤ g ∧ X.cell? ⟨g, i, none⟩ = some u0 ∧ (∀ o, X.frozen? ⟨g, o, none⟩ = false) ∧ X.heap[g]? = some (.cells cur 3 (0, 0)) := by
  obtain ⟨xs, h1, h2⟩ := h
  rcases h2 with ⟨rfl, rfl⟩ | ⟨g, cap, cur, rfl, hB, hh, h3, h4, h5, h6⟩
  · omega
  · refine ⟨g, cap, cur[i]'(by omega), cur, rfl, hB, ?_, fun o => frozen_of_row _ _ _ _ _ hh, hh⟩
    rw [cell_of_row _ _ _ _ _ _ hh, Array.getElem?_eq_getElem]

section
variable {P : Program} (w : World)
theorem wpList_append_like {ops : Array Oper} {rest : List Oper} {o : Oper} {a : Act} {Q : Exit → Act → World → Prop} (hgd : o.guard = none) (s x : Operand) (t : TypeId)
    (ho : o.op = .call { callee := .builtin .append, args := #[s, x], argTypes := #[t, t] })
    (base : Nat) (e : TypeId) (i : TypeInfo) (z : Value) (size bytes : Nat) (ht : P.underlying t = some (.slice e)) (hi : P.info? e = some i) (hz : i.zero = some z)
    (hsize : i.size = size) (hby : i.bytes = bytes) (hzs : z.cells.size = size) (hsz : 0 < size)
    (v : Value) (n : Nat) (xs : List Value) (hs : a.eval s = v) (hown : w.ownsRow base e size v n xs)
    (ad : Addr) (m c : Nat) (news : List Value) (hx : a.eval x = .slice (some ad) m c) (hl : news.length = m * size) (hnews : ∀ j u, news[j]? = some u → w.cell? (ad.add j) = some u) (h1 : ∀ u ∈ news, u.oneCell' = true)
    (h63 : n + m ≤ maxLen) (hbytes : ((n + m) + (n + m) / 4 + 192) * bytes ≤ 281474976710656) (hbase : base ≤ w.heap.size)
    (h : ∀ a' c' w', w.grownBy w' v.ownBlock → Sizes w w' → wpList P ops Q rest (a.put o.dst (.slice a' (n + m) c')) w') : wpList P ops Q (o :: rest) a w := by
  refine wpList_plain hgd fun K hK => ?_
  obtain ⟨a', c', w', hr, h2, h3⟩ := run_append_like (P := P) w t o.type base e i z size bytes ht hi hz hsize hby hzs hsz v n xs hown ad m c news hl hnews h1 h63 hbytes hbase
  unfold Oper.wp execOp
  simp only [ho, resolve, invoke, builtin, Sem.run_bind, Sem.run_pure, Result.andThen_ok, List.map_toArray, List.map_cons, List.map_nil, hs, hx, hr]
  exact hK _ _ (h a' c' w' h2 h3)
end

/-- Lists while they are spoilt: the rows of which w' tells are as they were; what lies below y stays. -/
structure SpC (y X : World) (hi lk K : Nat) (w' : Nat → Prop) (P : Nat → List Nat) (ua : Nat → Option Addr) (uc : Nat → Nat) (cur : Array Value) : Prop where
  grown : y.grownBy X none
  ob : X.heap[lk]? = some (.cells cur 28 (0, 0))
  oc : ∀ j, w' j → j < K → cur[j]? = some (.slice (ua j) (P j).length (uc j))
  rows : ∀ j, w' j → j < K → Like1 X y.heap.size (.slice (ua j) (P j).length (uc j)) (P j).length
  lo : y.heap.size ≤ lk ∧ lk < hi
  hi : ∀ j, w' j → j < K → ∀ g, (Value.slice (ua j) (P j).length (uc j)).ownBlock = some g → g < hi
section
variable {y X Y : World} {hi lk K : Nat} {w' w'' : Nat → Prop} {P : Nat → List Nat} {ua : Nat → Option Addr} {uc : Nat → Nat} {cur : Array Value}
theorem SpC.kept (h : SpC y X hi lk K w' P ua uc cur) (hg : X.grownBy Y none) : SpC y Y hi lk K w' P ua uc cur :=
  ⟨grown_trans h.grown hg, box_kept h.ob hg, h.oc, fun j h1 h2 => (h.rows j h1 h2).sized (.ofG hg), h.lo, h.hi⟩
theorem SpC.cell {j : Nat} (h : SpC y X hi lk K w' P ua uc cur) (h1 : w' j) (h2 : j < K) : X.cell? ⟨lk, j, none⟩ = some (.slice (ua j) (P j).length (uc j)) := by
  rw [cell_of_row _ _ _ _ _ _ h.ob]; exact h.oc j h1 h2
theorem SpC.free (h : SpC y X hi lk K w' P ua uc cur) (o : Nat) : X.frozen? ⟨lk, o, none⟩ = false := frozen_of_row _ _ _ _ _ h.ob
theorem SpC.turn {g : Nat} {cs : Array Value} (h : SpC y X hi lk K w' P ua uc cur) (hg : X.grownBy Y (some g)) (hs : Sizes X Y) (hb : X.heap[g]? = some (.cells cs 3 (0, 0))) (hB : y.heap.size ≤ g) : SpC y Y hi lk K w' P ua uc cur :=
  ⟨grown_new h.grown hg hB, spoil_other h.ob hb (by decide) hg, h.oc, fun j a1 a2 => (h.rows j a1 a2).sized hs, h.lo, h.hi⟩
theorem SpC.more {n : Nat} {v : Value} {xs : List Value} (h : SpC y X hi lk K w' P ua uc cur) (ho : X.ownsRow y.heap.size 3 1 v n xs) (hg : X.grownBy Y v.ownBlock) (hs : Sizes X Y) : SpC y Y hi lk K w' P ua uc cur := by
  rcases ho.2 with ⟨rfl, _⟩ | ⟨g, cap, c2, rfl, hB, hh, _⟩
  · exact h.kept hg
  · exact h.turn (g := g) hg hs hh hB
/-- A list is told anew. -/
theorem SpC.set {k : Nat} {u : Value} (h : SpC y X hi lk K w' P ua uc cur) (e : ∀ j, w'' j → w' j ∧ j ≠ k) : SpC y (X.setCell ⟨lk, k, none⟩ u) hi lk K w'' P ua uc (cur.setIfInBounds k u) := by
  have g1 : X.grownBy (X.setCell ⟨lk, k, none⟩ u) (some lk) := grown_setCell _ _ _
  refine ⟨grown_new h.grown g1 h.lo.1, heap_setCell_same _ _ _ _ _ _ h.ob, fun j a1 a2 => ?_, fun j a1 a2 => (h.rows j (e j a1).1 a2).sized (.set _ _ _ _), h.lo, fun j a1 => h.hi j (e j a1).1⟩
  rw [Array.getElem?_setIfInBounds_ne (fun e2 => (e j a1).2 e2.symm)]
  exact h.oc j (e j a1).1 a2
/-- .. of lists just told. -/
theorem CqP.sp {kc : Nat} (h : CqP X y.heap.size (some ⟨lk, 0, none⟩) kc K P ua uc) (hg : y.grownBy X none) : ∃ cur, SpC y X X.heap.size lk K (fun _ => True) P ua uc cur := by
  rcases h.out.2 with ⟨h1, _⟩ | ⟨g, cap, cur, h1, hB, hh, _, _, hs, ht⟩
  · simp at h1
  · simp only [Value.slice.injEq, Option.some.injEq, Addr.mk.injEq, and_true] at h1
    obtain ⟨rfl, _⟩ := h1
    refine ⟨cur, hg, hh, fun j _ hj => ?_, fun j _ hj => ⟨_, h.inn j hj⟩, ⟨hB, (Array.getElem?_eq_some_iff.1 hh).1⟩, fun j _ hj g2 e => ((h.inn j hj).lt g2 e).2⟩
    have h3 := rowsC_at P ua uc hj
    rw [← ht, List.getElem?_take] at h3
    split at h3
    · simpa using h3
    · cases h3
end

end Go.Proofs.YtjijagnpcmonbaaDoor.J
