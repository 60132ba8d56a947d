import Derived.Test.YtggonakdlloloaaDoorQpcbfnhaidklp
import Derived.Test.YtggonakdlloloaaDoorQfaldjphpcbej
import Derived.Test.YtggonakdlloloaaDoorQojmgjbdfpikd
import Derived.Test.YtggonakdlloloaaDoorQfmbhncjjmbcc
import Derived.Test.YtggonakdlloloaaDoorQjcaaofhkfeko
import Derived.Test.YtggonakdlloloaaDoorQjfkahnmjhloj
import Derived.Test.YtggonakdlloloaaDoorQgmoafdnfgbfg
import Derived.Deep.RegionLaw
import Derived.Deep.RegionHeld3
import Derived.BigQuiet

/-
  digraph: Solve.
-/
namespace Go.Proofs.YtggonakdlloloaaDoor.J
open Go.RowKit Go.Maps Go.Shelf D

attribute [local go_sem] Oper.semAt_some

theorem infoShP : (Tryd.prog.info? 53).map (fun i => (i.zero, i.size, i.bytes)) = some (some (.pointer none), 1, 8) := by kernel_rfl
theorem infoRowsS : (Tryd.prog.info? 28).map (fun i => (i.zero, i.size, i.bytes)) = some (some (.slice none 0 0), 1, 24) := by kernel_rfl

/-- A set's members, as numbers. -/
def memN (m : Nat) : List Nat := (List.range 1024).filter fun i => m.testBit i
theorem mems_intL (m : Nat) : B.mems 1024 m = intL (memN m) := rfl
theorem mems_natV (m : Nat) : (B.mems 1024 m).map (Value.int .i64) = natV (memN m) := by
  rw [mems_intL]
  unfold intL natV
  rw [List.map_map]
  rfl
theorem memN_len (m : Nat) : (memN m).length ≤ 1024 := by
  unfold memN
  have := List.length_filter_le (fun i => m.testBit i) (List.range 1024)
  rwa [List.length_range] at this
theorem members_d (b sz m : Nat) (w : World) (h : B.SetM w (some ⟨b, 0, none⟩) sz m) (hT : B.Tab w) (h0 : 0 < w.heap.size) :
    Calls Tryd.prog 34 #[.pointer (some ⟨b, 0, none⟩)] w fun e w' => ∃ a c, e = .returned (.slice a (memN m).length c) ∧ w'.ownsRow w.heap.size 3 1 (.slice a (memN m).length c) (memN m).length (natV (memN m)) ∧ w.grownBy w' none := by
  refine (callsIn_wide.1 (B.members_in 3 (Nat.le_refl _) B.cnt B.countIs cnt_le (some ⟨b, 0, none⟩) sz m w h hT h0)).mono ?_
  rintro e w' ⟨v, rfl, ho, hb⟩
  rw [mems_natV, mems_intL, intL_length] at ho
  obtain ⟨a, c, rfl⟩ := owns_cut ho
  exact ⟨a, c, rfl, ho, below_grown hb⟩
theorem tab_kept {w X : World} (hT : B.Tab w) (hg : w.grownBy X none) : B.Tab X := fun j hj => hg.cell (hT j hj) (by simp)

/-- Lists under way in a row that was made: the first k are there. -/
structure RwP (X : World) (B rb N : Nat) (Q : Nat → List Nat) (ua : Nat → Option Addr) (uc : Nat → Nat) (k : Nat) : Prop where
  val : ValAt X rb N 28 (fun i => if i < k then .slice (ua i) (Q i).length (uc i) else .slice none 0 0)
  inn : ∀ i, i < k → X.ownsRow B 3 1 (.slice (ua i) (Q i).length (uc i)) (Q i).length (natV (Q i))
  sep : ∀ i j, i < k → j < k → i ≠ j → (Value.slice (ua i) (Q i).length (uc i)).ownBlock = none ∨ (Value.slice (ua i) (Q i).length (uc i)).ownBlock ≠ (Value.slice (ua j) (Q j).length (uc j)).ownBlock
  lo : B ≤ rb
theorem RwP.kept {X Y : World} {B rb N : Nat} {Q : Nat → List Nat} {ua : Nat → Option Addr} {uc : Nat → Nat} {k : Nat} (h : RwP X B rb N Q ua uc k) (hg : X.grownBy Y none) : RwP Y B rb N Q ua uc k := ⟨h.val.kept hg, fun i hi => keep0 (h.inn i hi) hg, h.sep, h.lo⟩
theorem own_ne_val {X : World} {B g len s n : Nat} {t e : TypeId} {c : Nat → Value} {v : Value} {xs : List Value} (ho : X.ownsRow B e s v n xs) (h : ValAt X g len t c) (hne : e ≠ t) : v.ownBlock = none ∨ v.ownBlock ≠ some g := by
  rcases ho.2 with ⟨rfl, _⟩ | ⟨g', cap, cur, rfl, _, hh, _⟩
  · exact .inl rfl
  · refine .inr fun e2 => ?_
    have e3 : g' = g := by simpa [Value.ownBlock] using e2
    exact ne_type hh h hne e3
theorem RwP.put {X Y : World} {B rb N : Nat} {Q : Nat → List Nat} {ua : Nat → Option Addr} {uc : Nat → Nat} {k : Nat} {a : Option Addr} {c : Nat} (h : RwP X B rb N Q ua uc k) (hg : X.grownBy Y none) (hB : B ≤ X.heap.size) (ho : Y.ownsRow X.heap.size 3 1 (.slice a (Q k).length c) (Q k).length (natV (Q k))) :
    RwP (Y.setCell ⟨rb, k, none⟩ (.slice a (Q k).length c)) B rb N Q (updC ua k a) (updC uc k c) (k + 1) := by
  have hY := h.kept hg
  have hs : Y.grownBy (Y.setCell ⟨rb, k, none⟩ (.slice a (Q k).length c)) (some rb) := grown_setCell _ _ _
  refine ⟨(hY.val.set k _).ext fun i _ => ?_, fun i hi => ?_, fun i j hi hj hne => ?_, h.lo⟩
  · unfold J.put
    by_cases e : i = k
    · subst e
      rw [if_pos rfl, if_pos (by omega), updC_same, updC_same]
    · rw [if_neg e, updC_other _ _ e, updC_other _ _ e]
      show (if i < k then Value.slice (ua i) (Q i).length (uc i) else .slice none 0 0) = _
      by_cases e2 : i < k
      · rw [if_pos e2, if_pos (by omega)]
      · rw [if_neg e2, if_neg (by omega)]
  · by_cases e : i = k
    · subst e
      rw [updC_same, updC_same]
      exact (owns_lower ho hB).kept hs (own_ne_val ho hY.val (by decide))
    · rw [updC_other _ _ e, updC_other _ _ e]
      have h1 := hY.inn i (by omega)
      exact h1.kept hs (own_ne_val h1 hY.val (by decide))
  · by_cases e : i = k
    · subst e
      have e2 : j ≠ i := fun h => hne h.symm
      rw [updC_same, updC_same, updC_other _ _ e2, updC_other _ _ e2]
      cases hv : (Value.slice a (Q i).length c).ownBlock with
      | none => exact .inl rfl
      | some g =>
        refine .inr fun e3 => ?_
        have h1 := (ho.lt g hv).1
        have h2 := ((h.inn j (by omega)).lt g e3.symm).2
        omega
    · by_cases e2 : j = k
      · subst e2
        rw [updC_same, updC_same, updC_other _ _ e, updC_other _ _ e]
        cases hv : (Value.slice (ua i) (Q i).length (uc i)).ownBlock with
        | none => exact .inl rfl
        | some g =>
          refine .inr fun e3 => ?_
          have h1 := (ho.lt g e3.symm).1
          have h2 := ((h.inn i (by omega)).lt g hv).2
          omega
      · rw [updC_other _ _ e, updC_other _ _ e, updC_other _ _ e2, updC_other _ _ e2]
        exact h.sep i j (by omega) (by omega) hne
theorem RwP.done {X : World} {B rb N : Nat} {Q : Nat → List Nat} {ua : Nat → Option Addr} {uc : Nat → Nat} (h : RwP X B rb N Q ua uc N) (hN : N ≤ maxLen) : CqP X B (some ⟨rb, 0, none⟩) N N Q ua uc := by
  refine ⟨⟨by rw [rowsC_length, Nat.mul_one], .inr ⟨rb, N, _, rfl, h.lo, h.val, Nat.le_refl _, hN, by simp, ?_⟩⟩, h.inn, h.sep⟩
  rw [Nat.mul_one, List.take_of_length_le (by simp)]
  unfold rowsC
  exact List.map_congr_left fun i hi => if_pos (List.mem_range.1 hi)

/-- Shares stay where a block of something else turns. -/
theorem SiAt.other {w X Y : World} {N p1 sm p2 p3 k : Nat} {oa ea : Option Addr} {oc ec : Nat} {C : Nat → Bool} {sh bs tk mk : Nat → Nat} {cs : Array Value} (h : SiAt w X N p1 sm p2 p3 oa ea oc ec C sh bs tk mk) (hk : X.heap[k]? = some (.cells cs 28 (0, 0))) (hg : X.grownBy Y (some k)) (hw : w.heap.size ≤ k) : SiAt w Y N p1 sm p2 p3 oa ea oc ec C sh bs tk mk := by
  have key : ∀ {j : Nat} {cs' : Array Value} {t' : TypeId}, X.heap[j]? = some (.cells cs' t' (0, 0)) → t' ≠ 28 → Y.heap[j]? = some (.cells cs' t' (0, 0)) := fun {j cs' t'} h1 h2 => (hg.block j (Array.getElem?_eq_some_iff.1 h1).1 (by simpa using ne_type h1 hk h2)).trans h1
  refine ⟨grown_new h.grown hg hw, key h.b1 (by decide), key h.b2 (by decide), key h.b3 (by decide), key h.val (by decide), h.lo, fun x hx hC => ?_⟩
  have h1 := h.each x hx hC
  obtain ⟨cs2, hcs2⟩ := h1.tak
  exact ⟨key h1.cel (by decide), setM_block h1.set fun _ h2 => key h2 (by decide), ⟨cs2, key hcs2 (by decide)⟩, h1.los⟩

/-- What Solve tells. -/
def SolTold (N : Nat) (E : Nat → List Nat) (own : Nat → List Int) (w : World) (e : Ending) (y : World) : Prop := ∃ (rb : Nat) (mk : Nat → Nat) (ua : Nat → Option Addr) (uc : Nat → Nat), e = .returned (.tuple #[.slice (some ⟨rb, 0, none⟩) N N, .int .i64 0]) ∧ (∀ x, x < N → mk x < 2 ^ 1024 ∧ ∀ b, (mk x).testBit b = true ↔ Gets E own x b) ∧ CqP y w.heap.size (some ⟨rb, 0, none⟩) N N (fun x => memN (mk x)) ua uc ∧ w.grownBy y none

set_option maxRecDepth 100000 in
set_option maxHeartbeats 4000000 in
theorem sol_ok (w : World) (N : Nat) (ea oa : Option Addr) (ec oc : Nat) (E : Nat → List Nat) (own : Nat → List Int) (eua oua : Nat → Option Addr) (euc ouc : Nat → Nat) (hL : LsAt w ea N (fun i => intL (E i)) eua euc) (hO : LsAt w oa N own oua ouc) (hN : N ≤ 5864062014805) (hQ : ∀ i, i < N → (E i).length ≤ 17592186044416) (hol : ∀ x, x < N → (own x).length ≤ 17592186044416) (hE : ∀ x, x < N → ∀ y ∈ E x, y < N) (hob : ∀ x, x < N → ∀ v ∈ own x, 0 ≤ v ∧ v < 1024) (hT : B.Tab w) (h0 : 0 < w.heap.size) :
    Calls Tryd.prog 13 #[.slice ea N ec, .slice oa N oc] w fun e y => SolTold N E own w e y := by
  obtain ⟨Y1, hY1⟩ : ∃ Y, Y = (w.alloc (.cells #[.slice ea N ec] 22)).alloc (.cells #[.slice oa N oc] 22) := ⟨_, rfl⟩
  have hg1 : w.grownBy Y1 none := by rw [hY1]; exact grown_trans (World.grownBy_alloc _ _ none) (World.grownBy_alloc _ _ none)
  have HY1 : Hid (Y1 = (w.alloc (.cells #[.slice ea N ec] 22)).alloc (.cells #[.slice oa N oc] 22)) := hY1
  have HG1 := show Hid _ from hg1
  have HB3 : Hid (Y1.heap[w.heap.size]? = some (.cells #[.slice ea N ec] 22 (0, 0))) := by
    show _ = _
    rw [hY1]; exact box_kept (heap_alloc_last w _) (World.grownBy_alloc _ _ none)
  have HB2 : Hid (Y1.heap[w.heap.size + 1]? = some (.cells #[.slice oa N oc] 22 (0, 0))) := by
    show _ = _
    have h1 := heap_alloc_last (w.alloc (.cells #[.slice ea N ec] 22)) (.cells #[.slice oa N oc] 22)
    rw [hY1]; simpa using h1
  have hLY := hL.kept hg1
  have hOY := hO.kept hg1
  have HBE := show Hid _ from below_any (N : Int) ea N ec (fun i => intL (E i)) eua euc Y1 hLY (by omega) (fun i hi => by rw [intL_length]; exact hQ i hi) true (by
    refine ⟨fun _ i hi x hx => ?_, fun _ => rfl⟩
    unfold intL at hx
    obtain ⟨y, hy, rfl⟩ := List.mem_map.1 hx
    have := hE i hi y hy
    omega)
  have HBO := show Hid _ from below_any 1024 oa N oc own oua ouc Y1 hOY (by omega) hol true ⟨fun _ => hob, fun _ => rfl⟩
  have HEA : Hid (∀ (X : World) (p1 sm p2 p3 : Nat), Y1.heap.size ≤ X.heap.size → SiAt Y1 X N p1 sm p2 p3 oa ea oc ec (fun _ => false) (fun _ => 0) (fun _ => 0) (fun _ => 0) (fun _ => 0) → Calls Tryd.prog 24 #[.slice ea N ec, .func (.func 29) #[] #[.pointer (some ⟨p1, 0, none⟩), .pointer (some ⟨p2, 0, none⟩), .pointer (some ⟨p3, 0, none⟩)]] X fun e y => e = .returned (.tuple #[]) ∧ ∃ C sh bs tk mk, SiAt Y1 y N p1 sm p2 p3 oa ea oc ec C sh bs tk mk ∧ SolP E own C (fun x => mk (sh x)) ∧ ∀ x, x < N → C x = true) := fun X p1 sm p2 p3 hX hS0 => by
    refine (each_anyS (fun X C => ∃ sh bs tk mk, SiAt Y1 X N p1 sm p2 p3 oa ea oc ec C sh bs tk mk ∧ SolP E own C (fun x => mk (sh x)) ∧ ∀ x, C x = true → x < N) X N ea ec E eua euc p1 p2 p3 hN hE hQ (fun X' Y' C ⟨sh, bs, tk, mk, h1, h2, h3⟩ hk => ⟨sh, bs, tk, mk, h1.skept hX hk, h2, h3⟩) (fun X' C ⟨sh, bs, tk, mk, h1, _⟩ => hLY.kept h1.grown) (fun X' C c a cap ⟨sh, bs, tk, mk, h1, h2, h3⟩ hc hi hab => ?_) ⟨_, _, _, _, hS0, SolP.start, fun x h => (by cases h)⟩).mono ?_
    · refine (solveF_any Y1 X' N p1 sm p2 p3 X.heap.size oa ea oc ec C sh bs tk mk h1 E own oua eua ouc euc hOY hLY hN hol hQ hE hob c hc a cap hi fun rb ro e => (hab rb ro e).2).mono ?_
      rintro e y ⟨rfl, ⟨sh', bs', tk', mk', M, g1, g2, g3⟩, g4⟩
      have hst := h2.step hc g3
      have hlt : ∀ x, addC C c x = true → x < N := fun x hx => by
        rcases (addC_iff _ _ _).1 hx with h5 | h5
        · exact h3 x h5
        · exact (hc.lt x h5).1
      refine ⟨rfl, ⟨sh', bs', tk', mk', g1, fun x hx b => ?_, hlt⟩, g4⟩
      have h5 : (if x ∈ c then M else mk (sh x)).testBit b = true ↔ Gets E own x b := hst x hx b
      rw [← g2 x (hlt x hx) hx] at h5
      exact h5
    · rintro e y ⟨rfl, C, ⟨sh, bs, tk, mk, h1, h2, _⟩, h4⟩
      exact ⟨rfl, C, sh, bs, tk, mk, h1, h2, h4⟩
  have HTB : Hid (∀ X, Y1.grownBy X none → B.Tab X ∧ 0 < X.heap.size) := fun X hX => ⟨tab_kept hT (grown_trans hg1 hX), Nat.lt_of_lt_of_le h0 (grown_trans hg1 hX).size⟩
  obtain ⟨i0, hi0, hz0, hz1, hz2⟩ := info_parts infoShP
  obtain ⟨i1, hi1, hy0, hy1, hy2⟩ := info_parts infoRowsS
  have hnn : ((N : Int) != (N : Int)) = false := bne_self_eq_false _
  have b3 : Y1.cell? ⟨w.heap.size, 0, none⟩ = some (.slice ea N ec) := by rw [cell_of_row _ _ _ _ _ _ HB3.out]; rfl
  have b2 : Y1.cell? ⟨w.heap.size + 1, 0, none⟩ = some (.slice oa N oc) := by rw [cell_of_row _ _ _ _ _ _ HB2.out]; rfl
  have HP : Hid (w.heap.size + 1 < Y1.heap.size) := (Array.getElem?_eq_some_iff.1 HB2.out).1
  clear hL hO hQ hol hE hob hT h0 hg1 hLY hOY
  go_enter Tryd.func13, Tryd.ntmps13
  rw [hY1] at b2 b3
  clear hY1
  go_wp2_with fail
  rw [← HY1.out]
  clear b2 b3
  have b3 : Y1.cell? ⟨w.heap.size, 0, none⟩ = some (.slice ea N ec) := by rw [cell_of_row _ _ _ _ _ _ HB3.out]; rfl
  have b2 : Y1.cell? ⟨w.heap.size + 1, 0, none⟩ = some (.slice oa N oc) := by rw [cell_of_row _ _ _ _ _ _ HB2.out]; rfl
  refine Calls.mono HBE.out ?_
  rintro e y ⟨rfl, hy⟩
  subst hy
  clear HBE
  go_wp2_with fail
  refine Calls.mono HBO.out ?_
  rintro e Y ⟨rfl, hY⟩
  subst hY
  clear HBO HY1
  go_wp2_with (at_make; refine wpList_make_full _ rfl _ _ 52 rfl Y.heap.size 53 i0 (.pointer none) 1 Tryd.underlying52 hi0 hz0 hz1 .i64 .i64 _ _ N rfl rfl (by simp) (by simp) (by rw [hz2]; omega) (by unfold maxLen; omega) (by simp) ?_)
  intro w3 hown hgrow
  have hval : ValAt w3 Y.heap.size N 53 (fun _ => .pointer none) := made_rowK (B := Y.heap.size) rfl (by simpa [Value.cells] using hown)
  obtain ⟨sm, hsm⟩ : ∃ b, b = Y.heap.size := ⟨_, rfl⟩
  have hsm2 : Y.heap.size ≤ sm := by omega
  rw [← hsm] at hval
  rw [← hsm]
  have hga : w3.grownBy (w3.alloc (.cells #[.slice (some ⟨sm, 0, none⟩) N N] 52)) none := World.grownBy_alloc _ _ none
  have hgA := grown_trans hgrow hga
  have HE0 := show Hid _ from HEA.out (w3.alloc (.cells #[.slice (some ⟨sm, 0, none⟩) N N] 52)) w3.heap.size sm (w.heap.size + 1) w.heap.size hgA.size ⟨hgA, heap_alloc_last w3 _, box_kept HB2.out hgA, box_kept HB3.out hgA, (hval.kept hga).ext fun i _ => by simp, hsm2, fun x _ h => (by cases h)⟩
  have b4 : (w3.alloc (.cells #[.slice (some ⟨sm, 0, none⟩) N N] 52)).cell? ⟨w.heap.size, 0, none⟩ = some (.slice ea N ec) := hgA.cell b3 (by simp)
  clear hown hgrow hval hsm hga hgA HEA b2 b3 HB2 HB3
  go_wp2_with fail
  refine Calls.mono HE0.out ?_
  rintro e w4 ⟨rfl, C, sh, bs, tk, mk, hS, hP, hall⟩
  have HS := show Hid _ from hS
  obtain ⟨mk2, hmk2⟩ : ∃ f : Nat → Nat, f = fun x => mk (sh x) := ⟨_, rfl⟩
  have HMK : Hid (∀ x, mk (sh x) = mk2 x) := fun x => by rw [hmk2]
  have HBIT : Hid (∀ x, x < N → mk2 x < 2 ^ 1024 ∧ ∀ b, (mk2 x).testBit b = true ↔ Gets E own x b) := fun x hx => by
    rw [hmk2]
    exact ⟨(hS.each x hx (hall x hx)).set.2.1, hP x (hall x hx)⟩
  have HALL : Hid (∀ x, x < N → C x = true) := hall
  obtain ⟨p1, hp1⟩ : ∃ b, b = w3.heap.size := ⟨_, rfl⟩
  rw [← hp1] at HS ⊢
  clear hS hP hall HE0 hp1 b4 hmk2
  have b3 : w4.cell? ⟨w.heap.size, 0, none⟩ = some (.slice ea N ec) := by rw [cell_of_row _ _ _ _ _ _ HS.out.b3]; rfl
  go_wp2_with (at_make; refine wpList_make_full _ rfl _ _ 22 rfl w4.heap.size 28 i1 (.slice none 0 0) 1 Tryd.underlying22 hi1 hy0 hy1 .i64 .i64 _ _ N rfl rfl (by simp) (by simp) (by rw [hy2]; omega) (by unfold maxLen; omega) (by simp) ?_)
  intro w5 hown hgrow
  have hval : ValAt w5 w4.heap.size N 28 (fun _ => .slice none 0 0) := made_rowK (B := w4.heap.size) rfl (by simpa [Value.cells] using hown)
  obtain ⟨rb, hrb⟩ : ∃ b, b = w4.heap.size := ⟨_, rfl⟩
  rw [← hrb] at hval
  rw [← hrb]
  have hrY : Y.heap.size ≤ rb := by rw [hrb]; exact HS.out.grown.size
  have hrw : w.heap.size ≤ rb := by have := HP.out; omega
  have HS5 : Hid (SiAt Y w5 N p1 sm (w.heap.size + 1) w.heap.size oa ea oc ec C sh bs tk mk) := HS.out.skept (Nat.le_refl _) (.none_ hgrow)
  have HR5 : Hid (RwP w5 w.heap.size rb N (fun x => memN (mk2 x)) (fun _ => none) (fun _ => 0) 0) := ⟨hval.ext fun i _ => by simp, fun i h => absurd h (Nat.not_lt_zero _), fun i j h => absurd h (Nat.not_lt_zero _), hrw⟩
  have b1 : w5.cell? ⟨p1, 0, none⟩ = some (.slice (some ⟨sm, 0, none⟩) N N) := by rw [cell_of_row _ _ _ _ _ _ HS5.out.b1]; rfl
  have HRY : Hid (Y.heap.size ≤ rb ∧ w.heap.size ≤ rb) := ⟨hrY, hrw⟩
  clear hown hgrow hval hrb b3 HS hrY hrw
  go_wp2_with fail
  clear b1
  go_loopg [38] N (fun gk v38 wr => ∃ (k : Nat) (ua : Nat → Option Addr) (uc : Nat → Nat), k ≤ N ∧ gk = N - k ∧ v38 = .int .i64 k ∧ SiAt Y wr N p1 sm (w.heap.size + 1) w.heap.size oa ea oc ec C sh bs tk mk ∧ RwP wr w.heap.size rb N (fun x => memN (mk2 x)) ua uc k)
  case atStart => exact ⟨0, _, _, Nat.zero_le _, rfl, rfl, HS5.out, HR5.out⟩
  case round =>
    clear HS5 HR5
    obtain ⟨k, ua, uc, hk, hgk, rfl, hS, hR⟩ := hrel
    have HGK : Hid (gk = N - k) := hgk
    have HS := show Hid _ from hS
    have HR := show Hid _ from hR
    clear hgk hS hR
    by_cases hlt : k < N
    · have hkd : decide (k < N) = true := decide_eq_true hlt
      have hk0 : (0 : Int) ≤ (k : Int) := by omega
      have hk1 : (k : Int) < (N : Int) := by omega
      have zl := HS.out.val.cell k hlt
      rw [if_pos (HALL.out k hlt)] at zl
      have hsh := HS.out.each k hlt (HALL.out k hlt)
      have z0 : wr.cell? ⟨sh k, 0, none⟩ = some (.pointer (some ⟨bs (sh k), 0, none⟩)) := by rw [cell_of_row _ _ _ _ _ _ hsh.cel]; rfl
      obtain ⟨st, hst⟩ : ∃ v, v = sh k := ⟨_, rfl⟩
      rw [← hst] at zl z0
      obtain ⟨bst, hbst⟩ : ∃ v, v = bs st := ⟨_, rfl⟩
      rw [← hbst] at z0
      obtain ⟨ql, hql⟩ : ∃ v, v = (memN (mk2 k)).length := ⟨_, rfl⟩
      have HMB : Hid (Calls Tryd.prog 34 #[.pointer (some ⟨bst, 0, none⟩)] wr fun e w' => ∃ a c, e = .returned (.slice a ql c) ∧ w'.ownsRow wr.heap.size 3 1 (.slice a ql c) ql (natV (memN (mk2 k))) ∧ wr.grownBy w' none) := by
        have h5 := HTB.out wr HS.out.grown
        have h6 := hsh.set
        rw [HMK.out k, ← hst, ← hbst] at h6
        have h7 := members_d bst 1024 (mk2 k) wr h6 h5.1 h5.2
        rw [← hql] at h7
        exact h7
      have HQL : Hid (ql = (memN (mk2 k)).length) := hql
      clear hsh hst hbst hql
      go_wp2_with fail
      refine Calls.mono HMB.out ?_
      rintro e w6 ⟨a, c, rfl, ho, hg⟩
      have hS6 := HS.out.skept (Nat.le_refl _) (.none_ hg)
      have hR6 := HR.out.kept hg
      have y0 := hR6.val.cell k hlt
      have y1 := hR6.val.free k
      rw [if_neg (Nat.lt_irrefl k)] at y0
      have HSN : Hid (SiAt Y (w6.setCell ⟨rb, k, none⟩ (.slice a ql c)) N p1 sm (w.heap.size + 1) w.heap.size oa ea oc ec C sh bs tk mk) := hS6.other hR6.val (grown_setCell _ _ _) HRY.out.1
      have HRN : Hid (RwP (w6.setCell ⟨rb, k, none⟩ (.slice a ql c)) w.heap.size rb N (fun x => memN (mk2 x)) (updC ua k a) (updC uc k c) (k + 1)) := by
        have h1 := HR.out.put (a := a) (c := c) hg (Nat.le_trans HG1.out.size HS.out.grown.size) (by
          show w6.ownsRow wr.heap.size 3 1 (.slice a (memN (mk2 k)).length c) (memN (mk2 k)).length (natV (memN (mk2 k)))
          rw [← HQL.out]
          exact ho)
        rw [← HQL.out] at h1
        exact h1
      clear ho hg hS6 hR6 HMB zl z0
      go_wp2_with fail
      go_roundg (N - (k + 1))
      case measure => have := HGK.out; omega
      case rel => exact ⟨k + 1, _, _, by omega, rfl, by go_num, HSN.out, HRN.out⟩
    · have hkn : N = k := by omega
      subst hkn
      have hkd : decide (N < N) = false := decide_eq_false (by omega)
      have HF : Hid (CqP wr w.heap.size (some ⟨rb, 0, none⟩) N N (fun x => memN (mk2 x)) ua uc) := HR.out.done (by unfold maxLen; omega)
      have HGF : Hid (w.grownBy wr none) := grown_trans HG1.out HS.out.grown
      go_wp2_with fail
      go_ret2
      exact ⟨rb, mk2, ua, uc, rfl, HBIT.out, HF.out, HGF.out⟩

end Go.Proofs.YtggonakdlloloaaDoor.J

/-
  digraph: the law's pick and awake.
-/
namespace Go.Proofs.YtggonakdlloloaaDoor.J
open Go.RowKit Go.Maps Go.Shelf D

attribute [local go_sem] Oper.semAt_some

/-- Which of n things a raw number speaks of. -/
def pickN (c : Int) (n : Nat) : Nat := ((if c < 0 then -(c + 1) else c) % (n : Int)).toNat
theorem pickN_lt (c : Int) {n : Nat} (hn : 0 < n) : pickN c n < n := by
  unfold pickN
  have h1 := Int.emod_lt_of_pos (if c < 0 then -(c + 1) else c) (show (0 : Int) < n by omega)
  have h2 := Int.emod_nonneg (if c < 0 then -(c + 1) else c) (show (n : Int) ≠ 0 by omega)
  omega

set_option maxRecDepth 100000 in
theorem dpick_any (c : Int) (hlo : -9223372036854775808 ≤ c) (hhi : c ≤ 9223372036854775807) (n : Nat) (hn : 0 < n) (hn2 : n ≤ 1048577) (w : World) : Calls Tryd.prog 15 #[.int .i64 c, .int .i64 n] w fun e w' => e = .returned (.int .i64 ((pickN c n : Nat) : Int)) ∧ w' = w := by
  by_cases h : c < 0
  · have hd : decide (c < 0) = true := decide_eq_true h
    have hp : ((pickN c n : Nat) : Int) = (-(c + 1)) % (n : Int) := by
      unfold pickN
      rw [if_pos h, Int.toNat_of_nonneg (Int.emod_nonneg _ (by omega))]
    have HPK := show Hid _ from hp
    clear hp
    go_enter Tryd.func15, Tryd.ntmps15
    go_wp2_with fail
    go_ret
    have e : -((c + 1).tmod (n : Int)) = (-(c + 1)) % (n : Int) := by rw [← Int.neg_tmod, Int.tmod_eq_emod_of_nonneg (by omega)]
    rw [HPK.out, ← e]
    exact ⟨rfl, rfl⟩
  · have hd : decide (c < 0) = false := decide_eq_false h
    have hp : ((pickN c n : Nat) : Int) = c % (n : Int) := by
      unfold pickN
      rw [if_neg h, Int.toNat_of_nonneg (Int.emod_nonneg _ (by omega))]
    have HPK := show Hid _ from hp
    clear hp
    go_enter Tryd.func15, Tryd.ntmps15
    go_wp2_with fail
    go_ret
    rw [HPK.out]
    exact ⟨rfl, rfl⟩

/-- Lists of nodes, as they are read. -/
theorem CqP.ls {X : World} {B : Nat} {ka : Option Addr} {kc K : Nat} {Q : Nat → List Nat} {ua : Nat → Option Addr} {uc : Nat → Nat} (h : CqP X B ka kc K Q ua uc) : LsAt X ka K (fun i => intL (Q i)) ua uc := by
  refine ⟨?_, fun i hi => ?_⟩
  · by_cases e : K = 0
    · exact .inl e
    · obtain ⟨g, c, hg, hc⟩ := owns_at h.out (by omega)
      simp only [Value.slice.injEq] at hg
      refine .inr ⟨g, hg.1, fun i hi => ?_⟩
      rw [intL_length]
      exact hc i _ (rowsC_at Q ua uc hi)
  · by_cases e : Q i = []
    · exact .inl (show intL (Q i) = [] by rw [e]; rfl)
    · obtain ⟨g, c, hg, hc⟩ := owns_at (h.inn i hi) (List.length_pos_iff.2 e)
      simp only [Value.slice.injEq] at hg
      refine .inr ⟨g, 0, hg.1, fun j hj => ?_⟩
      rw [intL_length] at hj
      rw [intL_at, Nat.zero_add]
      exact hc j _ (natV_at (Q i) j hj)

/-- A literal row of numbers. -/
theorem ints_lit {X : World} {b : Nat} (l : List Nat) (h : X.heap[b]? = some (.cells (natV l).toArray 3 (0, 0))) : IntsAt X (some ⟨b, 0, none⟩) (intL l) := by
  refine .inr ⟨b, 0, rfl, fun j hj => ?_⟩
  rw [intL_length] at hj
  rw [intL_at, cell_of_row _ _ _ _ _ _ h, Nat.zero_add]
  simpa using natV_at l j hj
/-- Literal rows, and the row of them. -/
theorem ls_lit {X : World} {k : Nat} (L : List (List Nat)) (U : List (Option Addr)) (C : List Nat) (h : X.heap[k]? = some (.cells ((List.range L.length).map fun i => Value.slice (U.getD i none) (L.getD i []).length (C.getD i 0)).toArray 28 (0, 0))) (hi : ∀ i, i < L.length → L.getD i [] = [] ∨ ∃ b, U.getD i none = some ⟨b, 0, none⟩ ∧ X.heap[b]? = some (.cells (natV (L.getD i [])).toArray 3 (0, 0))) : LsAt X (some ⟨k, 0, none⟩) L.length (fun i => intL (L.getD i [])) (fun i => U.getD i none) (fun i => C.getD i 0) := by
  refine ⟨.inr ⟨k, rfl, fun i hl => ?_⟩, fun i hl => ?_⟩
  · rw [intL_length, cell_of_row _ _ _ _ _ _ h]
    simp [hl]
  · rcases hi i hl with h1 | ⟨b, h1, h2⟩
    · exact .inl (show intL (L.getD i []) = [] by rw [h1]; rfl)
    · show IntsAt X (U.getD i none) (intL (L.getD i []))
      rw [h1]; exact ints_lit _ h2

theorem ga_new {w : World} {o : Obj} {k : Nat} (h : k = w.heap.size) : (w.alloc o).heap[k]? = some o := by
  subst h; exact heap_alloc_last w o
theorem ga_old {w : World} {o x : Obj} {k : Nat} (h : w.heap[k]? = some x) : (w.alloc o).heap[k]? = some x :=
  ((World.grownBy_alloc w o none).block k (Array.getElem?_eq_some_iff.1 h).1 (by simp)).trans h
theorem LsAt.ext {X : World} {a : Option Addr} {N : Nat} {Q Q' : Nat → List Int} {ua ua' : Nat → Option Addr} {uc uc' : Nat → Nat} (h : LsAt X a N Q ua uc) (e : ∀ i, i < N → Q i = Q' i ∧ ua i = ua' i ∧ uc i = uc' i) : LsAt X a N Q' ua' uc' := by
  refine ⟨?_, fun i hi => ?_⟩
  · rcases h.1 with h1 | ⟨k, e1, h1⟩
    · exact .inl h1
    · refine .inr ⟨k, e1, fun i hi => ?_⟩
      obtain ⟨e2, e3, e4⟩ := e i hi
      rw [← e2, ← e3, ← e4]
      exact h1 i hi
  · obtain ⟨e2, e3, e4⟩ := e i hi
    rw [← e2, ← e3]
    exact h.2 i hi

/-- The example's rows. -/
theorem exE_rows (i : Nat) : exE i = ([[1], [2], [1], []] : List (List Nat)).getD i [] := by
  match i with
  | 0 => rfl
  | 1 => rfl
  | 2 => rfl
  | 3 => rfl
  | n + 4 => simp [exE]
theorem exO_rows (i : Nat) : exO i = intL (([[5], [7, 6], [], [8]] : List (List Nat)).getD i []) := by
  match i with
  | 0 => rfl
  | 1 => rfl
  | 2 => rfl
  | 3 => rfl
  | n + 4 => simp [exO, intL]
theorem ex_mem (mk : Nat → Nat) (h : ∀ x, x < 4 → mk x < 2 ^ 1024 ∧ ∀ b, (mk x).testBit b = true ↔ Gets exE exO x b) (i : Nat) (hi : i < 4) : memN (mk i) = ([[5, 6, 7], [6, 7], [6, 7], [8]] : List (List Nat)).getD i [] := by
  have hb := (h i hi).2
  have key : ∀ l : List Nat, l.Pairwise (· < ·) → (∀ b ∈ l, b < 9) → (∀ b, (mk i).testBit b = true ↔ b ∈ l) → memN (mk i) = l := fun l hp hl hm => by
    have h1 : memN (mk i) = (List.range 1024).filter fun b => decide (b ∈ l) := by
      unfold memN
      refine List.filter_congr fun b _ => ?_
      have := hm b
      by_cases e : b ∈ l
      · rw [this.2 e]; simp [e]
      · simp only [e, iff_false] at this; simp [e, this]
    rw [h1]
    have e : List.range 1024 = List.range' 0 9 ++ List.range' 9 1015 := by rw [List.range_eq_range', List.range'_append_1]
    rw [e, List.filter_append]
    have h2 : (List.range' 9 1015).filter (fun b => decide (b ∈ l)) = [] := by
      rw [List.filter_eq_nil_iff]
      intro b hb h
      have := hl b (by simpa using h)
      have := (List.mem_range'_1.1 hb).1
      omega
    rw [h2, List.append_nil]
    exact List.Perm.eq_of_pairwise (le := (· < ·)) (fun a b _ _ h1 h2 => by omega) ((List.pairwise_lt_range' (step := 1)).filter _) hp ((List.perm_ext_iff_of_nodup (((List.pairwise_lt_range' (step := 1)).imp fun h => Nat.ne_of_lt h).filter _) (hp.imp fun h => Nat.ne_of_lt h)).2 fun a => by
      simp only [List.mem_filter, List.mem_range'_1, decide_eq_true_eq]
      exact ⟨fun h => h.2, fun h => ⟨⟨Nat.zero_le _, by have := hl a h; omega⟩, h⟩⟩)
  refine key _ ?_ ?_ fun b => (hb b).trans (ex_gets i b hi)
  · match i, hi with
    | 0, _ => decide
    | 1, _ => decide
    | 2, _ => decide
    | 3, _ => decide
  · match i, hi with
    | 0, _ => decide
    | 1, _ => decide
    | 2, _ => decide
    | 3, _ => decide

/-- The example's relation, as it lies. -/
theorem ex_lsE {X : World} {b1 b2 b3 k : Nat} (h1 : X.heap[b1]? = some (.cells #[.int .i64 1] 3 (0, 0))) (h2 : X.heap[b2]? = some (.cells #[.int .i64 2] 3 (0, 0))) (h3 : X.heap[b3]? = some (.cells #[.int .i64 1] 3 (0, 0))) (hk : X.heap[k]? = some (.cells #[.slice (some ⟨b1, 0, none⟩) 1 1, .slice (some ⟨b2, 0, none⟩) 1 1, .slice (some ⟨b3, 0, none⟩) 1 1, .slice none 0 0] 28 (0, 0))) : LsAt X (some ⟨k, 0, none⟩) 4 (fun i => intL (exE i)) (fun i => [some ⟨b1, 0, none⟩, some ⟨b2, 0, none⟩, some ⟨b3, 0, none⟩, none].getD i none) (fun i => [1, 1, 1, 0].getD i 0) := by
  refine (ls_lit [[1], [2], [1], []] [some ⟨b1, 0, none⟩, some ⟨b2, 0, none⟩, some ⟨b3, 0, none⟩, none] [1, 1, 1, 0] hk fun i hi => ?_).ext fun i _ => ⟨by rw [exE_rows], rfl, rfl⟩
  match i, hi with
  | 0, _ => exact .inr ⟨b1, rfl, h1⟩
  | 1, _ => exact .inr ⟨b2, rfl, h2⟩
  | 2, _ => exact .inr ⟨b3, rfl, h3⟩
  | 3, _ => exact .inl rfl
theorem ex_lsO {X : World} {b1 b2 b3 k : Nat} (h1 : X.heap[b1]? = some (.cells #[.int .i64 5] 3 (0, 0))) (h2 : X.heap[b2]? = some (.cells #[.int .i64 7, .int .i64 6] 3 (0, 0))) (h3 : X.heap[b3]? = some (.cells #[.int .i64 8] 3 (0, 0))) (hk : X.heap[k]? = some (.cells #[.slice (some ⟨b1, 0, none⟩) 1 1, .slice (some ⟨b2, 0, none⟩) 2 2, .slice none 0 0, .slice (some ⟨b3, 0, none⟩) 1 1] 28 (0, 0))) : LsAt X (some ⟨k, 0, none⟩) 4 exO (fun i => [some ⟨b1, 0, none⟩, some ⟨b2, 0, none⟩, none, some ⟨b3, 0, none⟩].getD i none) (fun i => [1, 2, 0, 1].getD i 0) := by
  refine (ls_lit [[5], [7, 6], [], [8]] [some ⟨b1, 0, none⟩, some ⟨b2, 0, none⟩, none, some ⟨b3, 0, none⟩] [1, 2, 0, 1] hk fun i hi => ?_).ext fun i _ => ⟨by rw [exO_rows], rfl, rfl⟩
  match i, hi with
  | 0, _ => exact .inr ⟨b1, rfl, h1⟩
  | 1, _ => exact .inr ⟨b2, rfl, h2⟩
  | 2, _ => exact .inl rfl
  | 3, _ => exact .inr ⟨b3, rfl, h3⟩
theorem ex_ls3 {X : World} {b1 b2 b3 k : Nat} (h1 : X.heap[b1]? = some (.cells #[.int .i64 0] 3 (0, 0))) (h2 : X.heap[b2]? = some (.cells #[.int .i64 1, .int .i64 2] 3 (0, 0))) (h3 : X.heap[b3]? = some (.cells #[.int .i64 3] 3 (0, 0))) (hk : X.heap[k]? = some (.cells #[.slice (some ⟨b1, 0, none⟩) 1 1, .slice (some ⟨b2, 0, none⟩) 2 2, .slice (some ⟨b3, 0, none⟩) 1 1] 28 (0, 0))) : LsAt X (some ⟨k, 0, none⟩) 3 (fun i => intL (([[0], [1, 2], [3]] : List (List Nat)).getD i [])) (fun i => [some ⟨b1, 0, none⟩, some ⟨b2, 0, none⟩, some ⟨b3, 0, none⟩].getD i none) (fun i => [1, 2, 1].getD i 0) := by
  refine ls_lit [[0], [1, 2], [3]] [some ⟨b1, 0, none⟩, some ⟨b2, 0, none⟩, some ⟨b3, 0, none⟩] [1, 2, 1] hk fun i hi => ?_
  match i, hi with
  | 0, _ => exact .inr ⟨b1, rfl, h1⟩
  | 1, _ => exact .inr ⟨b2, rfl, h2⟩
  | 2, _ => exact .inr ⟨b3, rfl, h3⟩
theorem ex_ls4 {X : World} {b1 b2 b3 b4 k : Nat} (h1 : X.heap[b1]? = some (.cells #[.int .i64 5, .int .i64 6, .int .i64 7] 3 (0, 0))) (h2 : X.heap[b2]? = some (.cells #[.int .i64 6, .int .i64 7] 3 (0, 0))) (h3 : X.heap[b3]? = some (.cells #[.int .i64 6, .int .i64 7] 3 (0, 0))) (h4 : X.heap[b4]? = some (.cells #[.int .i64 8] 3 (0, 0))) (hk : X.heap[k]? = some (.cells #[.slice (some ⟨b1, 0, none⟩) 3 3, .slice (some ⟨b2, 0, none⟩) 2 2, .slice (some ⟨b3, 0, none⟩) 2 2, .slice (some ⟨b4, 0, none⟩) 1 1] 28 (0, 0))) : LsAt X (some ⟨k, 0, none⟩) 4 (fun i => intL (([[5, 6, 7], [6, 7], [6, 7], [8]] : List (List Nat)).getD i [])) (fun i => [some ⟨b1, 0, none⟩, some ⟨b2, 0, none⟩, some ⟨b3, 0, none⟩, some ⟨b4, 0, none⟩].getD i none) (fun i => [3, 2, 2, 1].getD i 0) := by
  refine ls_lit [[5, 6, 7], [6, 7], [6, 7], [8]] [some ⟨b1, 0, none⟩, some ⟨b2, 0, none⟩, some ⟨b3, 0, none⟩, some ⟨b4, 0, none⟩] [3, 2, 2, 1] hk fun i hi => ?_
  match i, hi with
  | 0, _ => exact .inr ⟨b1, rfl, h1⟩
  | 1, _ => exact .inr ⟨b2, rfl, h2⟩
  | 2, _ => exact .inr ⟨b3, rfl, h3⟩
  | 3, _ => exact .inr ⟨b4, rfl, h4⟩

theorem exE_lt (x : Nat) (_ : x < 4) (y : Nat) (hy : y ∈ exE x) : y < 4 := by
  match x, hy with
  | 0, hy => have : y = 1 := by simpa [exE] using hy
             omega
  | 1, hy => have : y = 2 := by simpa [exE] using hy
             omega
  | 2, hy => have : y = 1 := by simpa [exE] using hy
             omega
  | n + 3, hy => simp [exE] at hy
theorem exE_len (x : Nat) : (exE x).length ≤ 17592186044416 := by
  match x with
  | 0 => decide
  | 1 => decide
  | 2 => decide
  | n + 3 => simp [exE]
theorem exO_len (x : Nat) : (exO x).length ≤ 17592186044416 := by
  match x with
  | 0 => decide
  | 1 => decide
  | 2 => decide
  | 3 => decide
  | n + 4 => simp [exO]
theorem exO_lt (x : Nat) (v : Int) (hv : v ∈ exO x) : 0 ≤ v ∧ v < 1024 := by
  match x, hv with
  | 0, hv => have : v = 5 := by simpa [exO] using hv
             omega
  | 1, hv => have : v = 7 ∨ v = 6 := by simpa [exO] using hv
             omega
  | 2, hv => simp [exO] at hv
  | 3, hv => have : v = 8 := by simpa [exO] using hv
             omega
  | n + 4, hv => simp [exO] at hv

set_option maxRecDepth 100000 in
set_option maxHeartbeats 2000000 in
theorem dawake_any (w : World) (hT : B.Tab w) (h0 : 0 < w.heap.size) : Calls Tryd.prog 12 #[] w fun e w' => e = .returned (.bool true) ∧ w.grownBy w' none := by
  have HTB : Hid (∀ X, w.grownBy X none → B.Tab X ∧ 0 < X.heap.size) := fun X hX => ⟨tab_kept hT hX, Nat.lt_of_lt_of_le h0 hX.size⟩
  clear hT h0
  go_enter Tryd.func12, Tryd.ntmps12
  go_wp2_with fail
  refine Calls.mono (comp_ok _ 4 _ 4 exE _ _ (ex_lsE (b1 := w.heap.size) (b2 := w.heap.size + 1) (b3 := w.heap.size + 1 + 1) (by repeat (first | (refine ga_new ?_; simp; done) | apply ga_old)) (by repeat (first | (refine ga_new ?_; simp; done) | apply ga_old)) (by repeat (first | (refine ga_new ?_; simp; done) | apply ga_old)) (by repeat (first | (refine ga_new ?_; simp; done) | apply ga_old))) (by decide) (fun i _ => exE_len i) exE_lt) ?_
  rintro e w1 ⟨ls, ka, kc, K, Q, ua, uc, rfl, hK, hQ, hls, hL, hg⟩
  have hg1 : w.grownBy w1 none := grown_trans (grown_trans (grown_trans (grown_trans (World.grownBy_alloc _ _ none) (World.grownBy_alloc _ _ none)) (World.grownBy_alloc _ _ none)) (World.grownBy_alloc _ _ none)) hg
  have hc := ex_cmp ls hls
  rw [hc] at hK hQ
  have hK3 : K = 3 := hK
  subst hK3
  have HL1 : Hid (LsAt w1 ka 3 (fun i => intL (([[0], [1, 2], [3]] : List (List Nat)).getD i [])) ua uc) := hL.ls.ext fun i hi => ⟨by rw [hQ i hi], rfl, rfl⟩
  have HG1 := show Hid _ from hg1
  clear hK hQ hls hL hg hg1 hc
  go_wp2_with fail
  refine Calls.mono (sol_ok _ 4 _ _ 4 4 exE exO _ _ _ _ (ex_lsE (b1 := w1.heap.size) (b2 := w1.heap.size + 1) (b3 := w1.heap.size + 1 + 1) (by repeat (first | (refine ga_new ?_; simp; done) | apply ga_old)) (by repeat (first | (refine ga_new ?_; simp; done) | apply ga_old)) (by repeat (first | (refine ga_new ?_; simp; done) | apply ga_old)) (by repeat (first | (refine ga_new ?_; simp; done) | apply ga_old))) (ex_lsO (b1 := w1.heap.size + 1 + 1 + 1 + 1) (b2 := w1.heap.size + 1 + 1 + 1 + 1 + 1) (b3 := w1.heap.size + 1 + 1 + 1 + 1 + 1 + 1) (by repeat (first | (refine ga_new ?_; simp; done) | apply ga_old)) (by repeat (first | (refine ga_new ?_; simp; done) | apply ga_old)) (by repeat (first | (refine ga_new ?_; simp; done) | apply ga_old)) (by repeat (first | (refine ga_new ?_; simp; done) | apply ga_old))) (by decide) (fun i _ => exE_len i) (fun i _ => exO_len i) exE_lt (fun x _ => exO_lt x) (HTB.out _ (grown_trans HG1.out (grown_trans (grown_trans (grown_trans (grown_trans (grown_trans (grown_trans (grown_trans (World.grownBy_alloc _ _ none) (World.grownBy_alloc _ _ none)) (World.grownBy_alloc _ _ none)) (World.grownBy_alloc _ _ none)) (World.grownBy_alloc _ _ none)) (World.grownBy_alloc _ _ none)) (World.grownBy_alloc _ _ none)) (World.grownBy_alloc _ _ none)))).1 (HTB.out _ (grown_trans HG1.out (grown_trans (grown_trans (grown_trans (grown_trans (grown_trans (grown_trans (grown_trans (World.grownBy_alloc _ _ none) (World.grownBy_alloc _ _ none)) (World.grownBy_alloc _ _ none)) (World.grownBy_alloc _ _ none)) (World.grownBy_alloc _ _ none)) (World.grownBy_alloc _ _ none)) (World.grownBy_alloc _ _ none)) (World.grownBy_alloc _ _ none)))).2) ?_
  rintro e w2 ⟨rb, mk, ua2, uc2, rfl, hm, hL, hg⟩
  have hg2 : w1.grownBy w2 none := grown_trans (grown_trans (grown_trans (grown_trans (grown_trans (grown_trans (grown_trans (grown_trans (World.grownBy_alloc _ _ none) (World.grownBy_alloc _ _ none)) (World.grownBy_alloc _ _ none)) (World.grownBy_alloc _ _ none)) (World.grownBy_alloc _ _ none)) (World.grownBy_alloc _ _ none)) (World.grownBy_alloc _ _ none)) (World.grownBy_alloc _ _ none)) hg
  have HL2 : Hid (LsAt w2 (some ⟨rb, 0, none⟩) 4 (fun i => intL (([[5, 6, 7], [6, 7], [6, 7], [8]] : List (List Nat)).getD i [])) ua2 uc2) := hL.ls.ext fun i hi => ⟨by rw [ex_mem mk hm i hi], rfl, rfl⟩
  have HL1b : Hid (LsAt w2 ka 3 (fun i => intL (([[0], [1, 2], [3]] : List (List Nat)).getD i [])) ua uc) := HL1.out.kept hg2
  have HG2 : Hid (w.grownBy w2 none) := grown_trans HG1.out hg2
  clear hm hL hg hg2 HL1 HG1
  go_wp2_with fail
  refine Calls.mono (lists_same _ _ _ _ 3 _ _ _ _ _ _ (HL1b.out.kept (grown_trans (grown_trans (grown_trans (World.grownBy_alloc _ _ none) (World.grownBy_alloc _ _ none)) (World.grownBy_alloc _ _ none)) (World.grownBy_alloc _ _ none))) (ex_ls3 (b1 := w2.heap.size) (b2 := w2.heap.size + 1) (b3 := w2.heap.size + 1 + 1) (by repeat (first | (refine ga_new ?_; simp; done) | apply ga_old)) (by repeat (first | (refine ga_new ?_; simp; done) | apply ga_old)) (by repeat (first | (refine ga_new ?_; simp; done) | apply ga_old)) (by repeat (first | (refine ga_new ?_; simp; done) | apply ga_old))) (by decide) (fun i => ?_)) ?_
  · rw [intL_length]
    match i with
    | 0 => decide
    | 1 => decide
    | 2 => decide
    | n + 3 => simp
  rintro e w3 ⟨rfl, hg⟩
  have hg3 : w2.grownBy w3 none := grown_trans (grown_trans (grown_trans (grown_trans (World.grownBy_alloc _ _ none) (World.grownBy_alloc _ _ none)) (World.grownBy_alloc _ _ none)) (World.grownBy_alloc _ _ none)) hg
  have HL2b : Hid (LsAt w3 (some ⟨rb, 0, none⟩) 4 (fun i => intL (([[5, 6, 7], [6, 7], [6, 7], [8]] : List (List Nat)).getD i [])) ua2 uc2) := HL2.out.kept hg3
  have HG3 : Hid (w.grownBy w3 none) := grown_trans HG2.out hg3
  clear hg hg3 HL2 HG2 HL1b
  go_wp2_with fail
  refine Calls.mono (lists_same _ _ _ _ 4 _ _ _ _ _ _ (HL2b.out.kept (grown_trans (grown_trans (grown_trans (grown_trans (World.grownBy_alloc _ _ none) (World.grownBy_alloc _ _ none)) (World.grownBy_alloc _ _ none)) (World.grownBy_alloc _ _ none)) (World.grownBy_alloc _ _ none))) (ex_ls4 (b1 := w3.heap.size) (b2 := w3.heap.size + 1) (b3 := w3.heap.size + 1 + 1) (b4 := w3.heap.size + 1 + 1 + 1) (by repeat (first | (refine ga_new ?_; simp; done) | apply ga_old)) (by repeat (first | (refine ga_new ?_; simp; done) | apply ga_old)) (by repeat (first | (refine ga_new ?_; simp; done) | apply ga_old)) (by repeat (first | (refine ga_new ?_; simp; done) | apply ga_old)) (by repeat (first | (refine ga_new ?_; simp; done) | apply ga_old))) (by decide) (fun i => ?_)) ?_
  · rw [intL_length]
    match i with
    | 0 => decide
    | 1 => decide
    | 2 => decide
    | 3 => decide
    | n + 4 => simp
  rintro e w4 ⟨rfl, hg⟩
  have HG4 : Hid (w.grownBy w4 none) := grown_trans HG3.out (grown_trans (grown_trans (grown_trans (grown_trans (grown_trans (World.grownBy_alloc _ _ none) (World.grownBy_alloc _ _ none)) (World.grownBy_alloc _ _ none)) (World.grownBy_alloc _ _ none)) (World.grownBy_alloc _ _ none)) hg)
  clear hg HL2b HG3
  go_wp2_with fail
  go_ret
  exact ⟨rfl, HG4.out⟩

end Go.Proofs.YtggonakdlloloaaDoor.J

/-
  digraph: lists made of raw steps, pure and in memory.
-/
namespace Go.Proofs.YtggonakdlloloaaDoor.J
open Go.RowKit Go.Maps Go.Shelf D

/-- The lists that the first k raw steps make. -/
def mkL (n m : Nat) (P : List It) (k : Nat) : Nat → List Nat := fun a => ((P.take k).filter fun p => decide (pickN p.1 n = a)).map fun p => pickN p.2 m
theorem mkL_zero (n m : Nat) (P : List It) (a : Nat) : mkL n m P 0 a = [] := rfl
theorem mkL_succ (n m : Nat) (P : List It) (k : Nat) (hk : k < P.length) (a : Nat) : mkL n m P (k + 1) a = if a = pickN (P.getD k (0, 0)).1 n then mkL n m P k a ++ [pickN (P.getD k (0, 0)).2 m] else mkL n m P k a := by
  have e : P.getD k (0, 0) = P[k] := by rw [List.getD_eq_getElem?_getD, List.getElem?_eq_getElem hk]; rfl
  unfold mkL
  rw [e, List.take_succ_eq_append_getElem hk, List.filter_append, List.map_append]
  by_cases h : a = pickN P[k].1 n
  · rw [if_pos h]
    simp [h]
  · rw [if_neg h]
    have h2 : ¬ pickN P[k].1 n = a := fun e => h e.symm
    simp [h2]
theorem mkL_len (n m : Nat) (P : List It) (k a : Nat) : (mkL n m P k a).length ≤ k := by
  unfold mkL
  rw [List.length_map]
  have h1 := List.length_filter_le (fun p : It => decide (pickN p.1 n = a)) (P.take k)
  rw [List.length_take] at h1
  omega
theorem mkL_lt (n m : Nat) (hm : 0 < m) (P : List It) (k a x : Nat) (h : x ∈ mkL n m P k a) : x < m := by
  unfold mkL at h
  obtain ⟨p, _, rfl⟩ := List.mem_map.1 h
  exact pickN_lt _ hm

/-- Raw steps within a machine's numbers. -/
def InR (P : List It) : Prop := ∀ i, i < P.length → (-9223372036854775808 ≤ (P.getD i (0, 0)).1 ∧ (P.getD i (0, 0)).1 ≤ 9223372036854775807) ∧ (-9223372036854775808 ≤ (P.getD i (0, 0)).2 ∧ (P.getD i (0, 0)).2 ≤ 9223372036854775807)

/-- A row that was made holds empty lists. -/
theorem CqP.made {X : World} {B rb n : Nat} (h : ValAt X rb n 28 (fun _ => .slice none 0 0)) (hB : B ≤ rb) (hn : n ≤ maxLen) : CqP X B (some ⟨rb, 0, none⟩) n n (fun _ => []) (fun _ => none) (fun _ => 0) := by
  refine ⟨⟨by rw [rowsC_length, Nat.mul_one], .inr ⟨rb, n, _, rfl, hB, h, Nat.le_refl _, hn, by simp, ?_⟩⟩, fun j _ => World.ownsRow_nil _ _ _ _, fun _ _ _ _ _ => .inl rfl⟩
  rw [Nat.mul_one, List.take_of_length_le (by simp)]
  rfl
theorem CqP.ext {X : World} {B : Nat} {ka : Option Addr} {kc K : Nat} {Q Q' : Nat → List Nat} {ua : Nat → Option Addr} {uc : Nat → Nat} (h : CqP X B ka kc K Q ua uc) (e : ∀ i, i < K → Q i = Q' i) : CqP X B ka kc K Q' ua uc := by
  refine ⟨?_, fun j hj => by rw [← e j hj]; exact h.inn j hj, fun i j hi hj hne => by rw [← e i hi, ← e j hj]; exact h.sep i j hi hj hne⟩
  have : rowsC K Q' ua uc = rowsC K Q ua uc := by
    unfold rowsC
    exact List.map_congr_left fun i hi => by rw [e i (List.mem_range.1 hi)]
  rw [this]
  exact h.out

/-- What made, what own tells. -/
def MadeTold (w : World) (n : Nat) (Q : Nat → List Nat) (e : Ending) (y : World) : Prop := ∃ kb ua uc, e = .returned (.slice (some ⟨kb, 0, none⟩) n n) ∧ CqP y w.heap.size (some ⟨kb, 0, none⟩) n n Q ua uc ∧ w.grownBy y none

end Go.Proofs.YtggonakdlloloaaDoor.J

/-
  digraph: the law's made.
-/
namespace Go.Proofs.YtggonakdlloloaaDoor.J
open Go.RowKit Go.Maps Go.Shelf D

attribute [local go_sem] Oper.semAt_some

set_option maxRecDepth 100000 in
set_option maxHeartbeats 2000000 in
theorem dmade_any (w : World) (z : Int) (hlo : -9223372036854775808 ≤ z) (hhi : z ≤ 9223372036854775807) (n : Nat) (hn : n = pickN z 40 + 1) (pa : Option Addr) (pc pn : Nat) (P : List It) (hpn : pn = P.length) (hP : ItsAt w pa P) (hR : InR P) :
    Calls Tryd.prog 17 #[.int .i64 z, .slice pa pn pc] w fun e y => MadeTold w n (mkL n n P (min pn 400)) e y := by
  have HPN : Hid (pn = P.length) := hpn
  have HPA := show Hid _ from hP
  have HRG := show Hid _ from hR
  have hnb : n ≤ 40 := by
    have := pickN_lt z (show 0 < 40 by decide)
    omega
  have hn0 : 0 < n := by omega
  have HPZ : Hid (Calls Tryd.prog 15 #[.int .i64 z, .int .i64 40] w fun e w' => e = .returned (.int .i64 ((pickN z 40 : Nat) : Int)) ∧ w' = w) := dpick_any z hlo hhi 40 (by decide) (by decide) w
  obtain ⟨z1, hz1'⟩ : ∃ v, v = pickN z 40 := ⟨_, rfl⟩
  rw [← hz1'] at HPZ hn
  clear hz1'
  have HNZ : Hid (n = z1 + 1) := hn
  have hw1 : IntKind.i64.wrap ((1 : Int) + (z1 : Int)) = (n : Int) := by rw [IntKind.wrap_i64]; omega
  clear hn
  obtain ⟨i0, hi0, hz0, hz1, hz2⟩ := info_parts infoInt
  obtain ⟨i1, hi1, hy0, hy1, hy2⟩ := info_parts infoRowsS
  have HPK : Hid (∀ (c : Int) (X : World), -9223372036854775808 ≤ c → c ≤ 9223372036854775807 → Calls Tryd.prog 15 #[.int .i64 c, .int .i64 (n : Int)] X fun e w' => e = .returned (.int .i64 ((pickN c n : Nat) : Int)) ∧ w' = X) := fun c X h1 h2 => dpick_any c h1 h2 n (by omega) (by omega) X
  have HPM : Hid (∀ (c : Int) (X : World), -9223372036854775808 ≤ c → c ≤ 9223372036854775807 → Calls Tryd.prog 15 #[.int .i64 c, .int .i64 (n : Int)] X fun e w' => e = .returned (.int .i64 ((pickN c n : Nat) : Int)) ∧ w' = X) := fun c X h1 h2 => dpick_any c h1 h2 n (by omega) (by omega) X
  have E15 : Hid (∀ args w, (callFunc 15 args).run Tryd.prog w = .ok (.enter 15 args) w) := enters_of Tryd.func15 (by kernel_rfl) rfl
  clear hP hR hpn
  go_enter Tryd.func17, Tryd.ntmps17
  go_wp2_with fail
  refine Calls.mono HPZ.out ?_
  rintro e w1 ⟨rfl, hw1'⟩
  have hw2' := hw1'.symm
  subst hw2'
  go_wp2_with (at_make; refine wpList_make_full _ rfl _ _ 22 rfl w.heap.size 28 i1 (.slice none 0 0) 1 Tryd.underlying22 hi1 hy0 hy1 .i64 .i64 _ _ n rfl rfl (by simp) (by simp) (by rw [hy2]; omega) (by unfold maxLen; omega) (by simp) ?_)
  intro w5 hown hgrow
  have hval : ValAt w5 w.heap.size n 28 (fun _ => .slice none 0 0) := made_rowK (B := w.heap.size) rfl (by simpa [Value.cells] using hown)
  obtain ⟨kb, hkb⟩ : ∃ b, b = w.heap.size := ⟨_, rfl⟩
  rw [← hkb] at hval
  rw [← hkb]
  have HC0 : Hid (CqP w5 w.heap.size (some ⟨kb, 0, none⟩) n n (mkL n n P 0) (fun _ => none) (fun _ => 0)) := (CqP.made hval (by omega) (by unfold maxLen; omega)).ext fun i _ => (mkL_zero _ _ _ _).symm
  have HG0 := show Hid _ from hgrow
  have HKB : Hid (w.heap.size ≤ kb) := by show _ ≤ _; omega
  clear hown hgrow hval hkb
  go_wp2_with fail
  go_loopg [7] (min pn 400) (fun gk v7 wr => ∃ (k : Nat) (ua : Nat → Option Addr) (uc : Nat → Nat), k ≤ min pn 400 ∧ gk = min pn 400 - k ∧ v7 = .int .i64 k ∧ CqP wr w.heap.size (some ⟨kb, 0, none⟩) n n (mkL n n P k) ua uc ∧ w.grownBy wr none)
  case atStart => exact ⟨0, _, _, Nat.zero_le _, rfl, rfl, HC0.out, HG0.out⟩
  case round =>
    clear HC0 HG0
    obtain ⟨k, ua, uc, hk, hgk, rfl, hC, hG⟩ := hrel
    have HGK : Hid (gk = min pn 400 - k) := hgk
    have HC := show Hid _ from hC
    have HG := show Hid _ from hG
    clear hgk hC hG
    by_cases hlt : k < min pn 400
    · have hk4 : k < 400 := by omega
      have hkp : k < pn := by omega
      have hkd : decide (k < pn) = true := decide_eq_true hkp
      have hkd2 : decide (k < 400) = true := decide_eq_true hk4
      have hkd3 : decide ((k : Int) < 400) = true := decide_eq_true (by omega)
      have hk0 : (0 : Int) ≤ (k : Int) := by omega
      have hk1 : (k : Int) < (pn : Int) := by omega
      have hkl : k < P.length := by rw [← HPN.out]; exact hkp
      obtain ⟨pb, po, rfl, hcp⟩ : ∃ pb po, pa = some ⟨pb, po, none⟩ ∧ w.cell? ⟨pb, po + k * 2, none⟩ = some (.int .i64 (P.getD k (0, 0)).1) ∧ w.cell? ⟨pb, po + k * 2 + 1, none⟩ = some (.int .i64 (P.getD k (0, 0)).2) := by
        rcases HPA.out with h | ⟨pb, po, e, h⟩
        · rw [h] at hkl; cases hkl
        · exact ⟨pb, po, e, h k hkl⟩
      have hrg := HRG.out k hkl
      have HML : Hid (∀ a, mkL n n P (k + 1) a = if a = pickN (P.getD k (0, 0)).1 n then mkL n n P k a ++ [pickN (P.getD k (0, 0)).2 n] else mkL n n P k a) := fun a => mkL_succ n n P k hkl a
      obtain ⟨x, hx⟩ : ∃ x, x = (P.getD k (0, 0)).1 := ⟨_, rfl⟩
      obtain ⟨y, hy⟩ : ∃ y, y = (P.getD k (0, 0)).2 := ⟨_, rfl⟩
      rw [← hx, ← hy] at hcp hrg HML
      have HPX := show Hid _ from HPK.out x wr hrg.1.1 hrg.1.2
      have HPY : Hid (∀ X, Calls Tryd.prog 15 #[.int .i64 y, .int .i64 (n : Int)] X fun e w' => e = .returned (.int .i64 ((pickN y n : Nat) : Int)) ∧ w' = X) := fun X => HPM.out y X hrg.2.1 hrg.2.2
      have c0 := HG.out.cell hcp.1 (by simp)
      have c1 := HG.out.cell hcp.2 (by simp)
      have hjn : pickN x n < n := pickN_lt x (by omega)
      obtain ⟨j, hj⟩ : ∃ j, j = pickN x n := ⟨_, rfl⟩
      obtain ⟨l, hl⟩ : ∃ l, l = pickN y n := ⟨_, rfl⟩
      rw [← hj] at HPX HML hjn
      rw [← hl] at HPY HML
      clear hx hy hj hl hcp hrg hkl
      go_wp2_with fail
      refine Calls.mono HPX.out ?_
      rintro e V ⟨rfl, hV⟩
      subst hV
      clear c0 HPX
      obtain ⟨Q, hQ⟩ : ∃ Q, Q = mkL n n P k := ⟨_, rfl⟩
      have HQB : Hid ((Q j).length ≤ 400) := by
        rw [hQ]
        exact Nat.le_trans (mkL_len _ _ _ _ _) (by omega)
      rw [← hQ] at HC HML
      clear hQ
      have hj0 : (0 : Int) ≤ (j : Int) := by omega
      have hj1 : (j : Int) < (n : Int) := by omega
      obtain ⟨kb', kcap, hkb, hkcell⟩ := owns_at HC.out.out (by omega)
      simp only [Value.slice.injEq, Option.some.injEq, Addr.mk.injEq, and_true, true_and] at hkb
      obtain ⟨rfl, -⟩ := hkb
      have cj := hkcell j _ (rowsC_at _ _ _ hjn)
      obtain ⟨fa, hfa⟩ : ∃ a, a = ua j := ⟨_, rfl⟩
      obtain ⟨fc, hfc⟩ : ∃ a, a = uc j := ⟨_, rfl⟩
      obtain ⟨m, hm⟩ : ∃ m, m = (Q j).length := ⟨_, rfl⟩
      rw [← hfa, ← hfc, ← hm] at cj
      have HOW : Hid (∀ Y, V.grownBy Y none → Y.ownsRow w.heap.size 3 1 (.slice fa m fc) m (natV (Q j))) := fun Y hY => by
        have h1 := (HC.out.kept hY).inn j hjn
        rw [← hfa, ← hfc, ← hm] at h1
        exact h1
      have HPS : Hid (∀ Y, V.grownBy Y none → w.heap.size ≤ Y.heap.size) := fun Y hY => Nat.le_trans HG.out.size hY.size
      have HFIN : Hid (∀ (Y W : World) (g c : Nat), V.grownBy Y none → Y.grownBy W (Value.slice fa m fc).ownBlock → W.ownsRow w.heap.size 3 1 (.slice (some ⟨g, 0, none⟩) (m + 1) c) (m + 1) (natV (Q j) ++ [.int .i64 (l : Int)]) → ((Value.slice fa m fc).ownBlock = some g ∨ g = Y.heap.size) → (W.cell? ⟨kb, j, none⟩ = some (.slice fa m fc) ∧ W.frozen? ⟨kb, j, none⟩ = false) ∧ CqP (W.setCell ⟨kb, j, none⟩ (.slice (some ⟨g, 0, none⟩) (m + 1) c)) w.heap.size (some ⟨kb, 0, none⟩) n n (mkL n n P (k + 1)) (updC ua j (some ⟨g, 0, none⟩)) (updC uc j c) ∧ w.grownBy (W.setCell ⟨kb, j, none⟩ (.slice (some ⟨g, 0, none⟩) (m + 1) c)) none) := fun Y W g c hY hg ho hat => by
        have hq := HC.out.kept hY
        have hin := hq.inn j hjn
        rw [hfa, hfc, hm] at hg hat
        rw [hm] at ho
        obtain ⟨q1, q2⟩ := hq.add hjn hg ho hat
        rw [hfa, hfc, hm]
        have hs : W.grownBy (W.setCell ⟨kb, j, none⟩ (.slice (some ⟨g, 0, none⟩) ((Q j).length + 1) c)) (some kb) := grown_setCell _ _ _
        refine ⟨q1, q2.ext fun i _ => ?_, grown_new (grown_row (grown_trans HG.out hY) hin (Nat.le_refl _) hg) hs HKB.out⟩
        rw [HML.out i]
        by_cases e : i = j
        · rw [e, updC_same, if_pos rfl]
        · rw [updC_other _ _ e, if_neg e]
      obtain ⟨xs, hxs⟩ : ∃ xs, xs = natV (Q j) := ⟨_, rfl⟩
      rw [← hxs] at HOW HFIN
      have p3 : ∀ o, (V.alloc o).cell? ⟨kb, j, none⟩ = some (.slice fa m fc) := fun o => (World.grownBy_alloc _ o none).cell cj (by simp)
      have c2 : ∀ o, (V.alloc o).cell? ⟨pb, po + k * 2 + 1, none⟩ = some (.int .i64 y) := fun o => (World.grownBy_alloc _ o none).cell c1 (by simp)
      have hmb : m ≤ 400 := by rw [hm]; exact HQB.out
      clear hfa hfc hm hxs hkcell
      go_wp2_with fail
      go_region_law (first
        | (refine step_call rfl 15 #[.tmp 41, .tmp 42] #[3, 3] rfl #[.int .i64 y, .int .i64 (n : Int)] (by first | (simp [Act.eval]; done) | simp [Act.eval, Act.put]) E15.out (HPY.out _) ?_; rintro e w1 ⟨rfl, hw1⟩; subst hw1; refine ⟨_, rfl, ?_⟩)
        | (refine step_append_liesW _ rfl (.tmp 36) (.tmp 44) 28 rfl w.heap.size 3 i0 (.int .i64 0) 1 8 Tryd.underlying28 hi0 hz0 hz1 hz2 rfl (by decide) (.slice fa m fc) m xs (by simp [Act.eval]) (HOW.out _ (grown_trans (World.grownBy_alloc _ _ none) (grown_drewN _ _))) ⟨V.heap.size, 0, none⟩ 1 1 [.int .i64 (l : Int)] (by simp [Act.eval]) rfl (World.news_of_block (heap_alloc_last V _)) (by simp [Value.oneCell']) (by decide) (by unfold maxLen; omega) (by omega) (HPS.out _ (grown_trans (World.grownBy_alloc _ _ none) (grown_drewN _ _))) ?_; intro g9 c9 wB hoB hgB hat; obtain ⟨⟨q1, q2⟩, q3, q4⟩ := HFIN.out _ wB g9 c9 (grown_trans (World.grownBy_alloc _ _ none) (grown_drewN _ _)) hgB hoB hat; have HQ3 := show Hid _ from q3; have HQ4 := show Hid _ from q4; clear q3 q4 hoB hgB hat)
        | fail)
      all_goals go_wp2_with fail
      all_goals go_roundg (min pn 400 - (k + 1))
      all_goals first
        | exact (show ∃ (k' : Nat), _ from ⟨k + 1, _, _, by omega, rfl, by go_num, HQ3.out, HQ4.out⟩)
        | (have := HGK.out; omega)
    · have hkn : k = min pn 400 := by omega
      have HF : Hid (MadeTold w n (mkL n n P (min pn 400)) (.returned (.slice (some ⟨kb, 0, none⟩) n n)) wr) := ⟨kb, ua, uc, rfl, by rw [← hkn]; exact HC.out, HG.out⟩
      by_cases hkp : k < pn
      · have h4 : k = 400 := by omega
        have hkd : decide (k < pn) = true := decide_eq_true hkp
        have hkd2 : decide (k < 400) = false := decide_eq_false (by omega)
        have hkd3 : decide ((k : Int) < 400) = false := decide_eq_false (by omega)
        clear hkn h4
        go_wp2_with fail
        go_ret
        exact HF.out
      · have hkd : decide (k < pn) = false := decide_eq_false hkp
        clear hkn
        go_wp2_with fail
        go_ret
        exact HF.out

end Go.Proofs.YtggonakdlloloaaDoor.J

/-
  digraph: the law's own.
-/
namespace Go.Proofs.YtggonakdlloloaaDoor.J
open Go.RowKit Go.Maps Go.Shelf D

attribute [local go_sem] Oper.semAt_some

set_option maxRecDepth 100000 in
set_option maxHeartbeats 2000000 in
theorem down_any (w : World) (n : Nat) (hn0 : 0 < n) (hn : n ≤ 40) (pa : Option Addr) (pc pn : Nat) (P : List It) (hpn : pn = P.length) (hP : ItsAt w pa P) (hR : InR P) :
    Calls Tryd.prog 19 #[.int .i64 (n : Int), .slice pa pn pc] w fun e y => MadeTold w n (mkL n 1024 P (min pn 400)) e y := by
  have HPN : Hid (pn = P.length) := hpn
  have HPA := show Hid _ from hP
  have HRG := show Hid _ from hR
  obtain ⟨i0, hi0, hz0, hz1, hz2⟩ := info_parts infoInt
  obtain ⟨i1, hi1, hy0, hy1, hy2⟩ := info_parts infoRowsS
  have HPK : Hid (∀ (c : Int) (X : World), -9223372036854775808 ≤ c → c ≤ 9223372036854775807 → Calls Tryd.prog 15 #[.int .i64 c, .int .i64 (n : Int)] X fun e w' => e = .returned (.int .i64 ((pickN c n : Nat) : Int)) ∧ w' = X) := fun c X h1 h2 => dpick_any c h1 h2 n (by omega) (by omega) X
  have HPM : Hid (∀ (c : Int) (X : World), -9223372036854775808 ≤ c → c ≤ 9223372036854775807 → Calls Tryd.prog 15 #[.int .i64 c, .int .i64 1024] X fun e w' => e = .returned (.int .i64 ((pickN c 1024 : Nat) : Int)) ∧ w' = X) := fun c X h1 h2 => dpick_any c h1 h2 1024 (by omega) (by omega) X
  have E15 : Hid (∀ args w, (callFunc 15 args).run Tryd.prog w = .ok (.enter 15 args) w) := enters_of Tryd.func15 (by kernel_rfl) rfl
  clear hP hR hpn
  go_enter Tryd.func19, Tryd.ntmps19
  go_wp2_with (at_make; refine wpList_make_full _ rfl _ _ 22 rfl w.heap.size 28 i1 (.slice none 0 0) 1 Tryd.underlying22 hi1 hy0 hy1 .i64 .i64 _ _ n rfl rfl (by simp) (by simp) (by rw [hy2]; omega) (by unfold maxLen; omega) (by simp) ?_)
  intro w5 hown hgrow
  have hval : ValAt w5 w.heap.size n 28 (fun _ => .slice none 0 0) := made_rowK (B := w.heap.size) rfl (by simpa [Value.cells] using hown)
  obtain ⟨kb, hkb⟩ : ∃ b, b = w.heap.size := ⟨_, rfl⟩
  rw [← hkb] at hval
  rw [← hkb]
  have HC0 : Hid (CqP w5 w.heap.size (some ⟨kb, 0, none⟩) n n (mkL n 1024 P 0) (fun _ => none) (fun _ => 0)) := (CqP.made hval (by omega) (by unfold maxLen; omega)).ext fun i _ => (mkL_zero _ _ _ _).symm
  have HG0 := show Hid _ from hgrow
  have HKB : Hid (w.heap.size ≤ kb) := by show _ ≤ _; omega
  clear hown hgrow hval hkb
  go_wp2_with fail
  go_loopg [6] (min pn 400) (fun gk v7 wr => ∃ (k : Nat) (ua : Nat → Option Addr) (uc : Nat → Nat), k ≤ min pn 400 ∧ gk = min pn 400 - k ∧ v7 = .int .i64 k ∧ CqP wr w.heap.size (some ⟨kb, 0, none⟩) n n (mkL n 1024 P k) ua uc ∧ w.grownBy wr none)
  case atStart => exact ⟨0, _, _, Nat.zero_le _, rfl, rfl, HC0.out, HG0.out⟩
  case round =>
    clear HC0 HG0
    obtain ⟨k, ua, uc, hk, hgk, rfl, hC, hG⟩ := hrel
    have HGK : Hid (gk = min pn 400 - k) := hgk
    have HC := show Hid _ from hC
    have HG := show Hid _ from hG
    clear hgk hC hG
    by_cases hlt : k < min pn 400
    · have hk4 : k < 400 := by omega
      have hkp : k < pn := by omega
      have hkd : decide (k < pn) = true := decide_eq_true hkp
      have hkd2 : decide (k < 400) = true := decide_eq_true hk4
      have hkd3 : decide ((k : Int) < 400) = true := decide_eq_true (by omega)
      have hk0 : (0 : Int) ≤ (k : Int) := by omega
      have hk1 : (k : Int) < (pn : Int) := by omega
      have hkl : k < P.length := by rw [← HPN.out]; exact hkp
      obtain ⟨pb, po, rfl, hcp⟩ : ∃ pb po, pa = some ⟨pb, po, none⟩ ∧ w.cell? ⟨pb, po + k * 2, none⟩ = some (.int .i64 (P.getD k (0, 0)).1) ∧ w.cell? ⟨pb, po + k * 2 + 1, none⟩ = some (.int .i64 (P.getD k (0, 0)).2) := by
        rcases HPA.out with h | ⟨pb, po, e, h⟩
        · rw [h] at hkl; cases hkl
        · exact ⟨pb, po, e, h k hkl⟩
      have hrg := HRG.out k hkl
      have HML : Hid (∀ a, mkL n 1024 P (k + 1) a = if a = pickN (P.getD k (0, 0)).1 n then mkL n 1024 P k a ++ [pickN (P.getD k (0, 0)).2 1024] else mkL n 1024 P k a) := fun a => mkL_succ n 1024 P k hkl a
      obtain ⟨x, hx⟩ : ∃ x, x = (P.getD k (0, 0)).1 := ⟨_, rfl⟩
      obtain ⟨y, hy⟩ : ∃ y, y = (P.getD k (0, 0)).2 := ⟨_, rfl⟩
      rw [← hx, ← hy] at hcp hrg HML
      have HPX := show Hid _ from HPK.out x wr hrg.1.1 hrg.1.2
      have HPY : Hid (∀ X, Calls Tryd.prog 15 #[.int .i64 y, .int .i64 1024] X fun e w' => e = .returned (.int .i64 ((pickN y 1024 : Nat) : Int)) ∧ w' = X) := fun X => HPM.out y X hrg.2.1 hrg.2.2
      have c0 := HG.out.cell hcp.1 (by simp)
      have c1 := HG.out.cell hcp.2 (by simp)
      have hjn : pickN x n < n := pickN_lt x (by omega)
      obtain ⟨j, hj⟩ : ∃ j, j = pickN x n := ⟨_, rfl⟩
      obtain ⟨l, hl⟩ : ∃ l, l = pickN y 1024 := ⟨_, rfl⟩
      rw [← hj] at HPX HML hjn
      rw [← hl] at HPY HML
      clear hx hy hj hl hcp hrg hkl
      go_wp2_with fail
      refine Calls.mono HPX.out ?_
      rintro e V ⟨rfl, hV⟩
      subst hV
      clear c0 HPX
      obtain ⟨Q, hQ⟩ : ∃ Q, Q = mkL n 1024 P k := ⟨_, rfl⟩
      have HQB : Hid ((Q j).length ≤ 400) := by
        rw [hQ]
        exact Nat.le_trans (mkL_len _ _ _ _ _) (by omega)
      rw [← hQ] at HC HML
      clear hQ
      have hj0 : (0 : Int) ≤ (j : Int) := by omega
      have hj1 : (j : Int) < (n : Int) := by omega
      obtain ⟨kb', kcap, hkb, hkcell⟩ := owns_at HC.out.out (by omega)
      simp only [Value.slice.injEq, Option.some.injEq, Addr.mk.injEq, and_true, true_and] at hkb
      obtain ⟨rfl, -⟩ := hkb
      have cj := hkcell j _ (rowsC_at _ _ _ hjn)
      obtain ⟨fa, hfa⟩ : ∃ a, a = ua j := ⟨_, rfl⟩
      obtain ⟨fc, hfc⟩ : ∃ a, a = uc j := ⟨_, rfl⟩
      obtain ⟨m, hm⟩ : ∃ m, m = (Q j).length := ⟨_, rfl⟩
      rw [← hfa, ← hfc, ← hm] at cj
      have HOW : Hid (∀ Y, V.grownBy Y none → Y.ownsRow w.heap.size 3 1 (.slice fa m fc) m (natV (Q j))) := fun Y hY => by
        have h1 := (HC.out.kept hY).inn j hjn
        rw [← hfa, ← hfc, ← hm] at h1
        exact h1
      have HPS : Hid (∀ Y, V.grownBy Y none → w.heap.size ≤ Y.heap.size) := fun Y hY => Nat.le_trans HG.out.size hY.size
      have HFIN : Hid (∀ (Y W : World) (g c : Nat), V.grownBy Y none → Y.grownBy W (Value.slice fa m fc).ownBlock → W.ownsRow w.heap.size 3 1 (.slice (some ⟨g, 0, none⟩) (m + 1) c) (m + 1) (natV (Q j) ++ [.int .i64 (l : Int)]) → ((Value.slice fa m fc).ownBlock = some g ∨ g = Y.heap.size) → (W.cell? ⟨kb, j, none⟩ = some (.slice fa m fc) ∧ W.frozen? ⟨kb, j, none⟩ = false) ∧ CqP (W.setCell ⟨kb, j, none⟩ (.slice (some ⟨g, 0, none⟩) (m + 1) c)) w.heap.size (some ⟨kb, 0, none⟩) n n (mkL n 1024 P (k + 1)) (updC ua j (some ⟨g, 0, none⟩)) (updC uc j c) ∧ w.grownBy (W.setCell ⟨kb, j, none⟩ (.slice (some ⟨g, 0, none⟩) (m + 1) c)) none) := fun Y W g c hY hg ho hat => by
        have hq := HC.out.kept hY
        have hin := hq.inn j hjn
        rw [hfa, hfc, hm] at hg hat
        rw [hm] at ho
        obtain ⟨q1, q2⟩ := hq.add hjn hg ho hat
        rw [hfa, hfc, hm]
        have hs : W.grownBy (W.setCell ⟨kb, j, none⟩ (.slice (some ⟨g, 0, none⟩) ((Q j).length + 1) c)) (some kb) := grown_setCell _ _ _
        refine ⟨q1, q2.ext fun i _ => ?_, grown_new (grown_row (grown_trans HG.out hY) hin (Nat.le_refl _) hg) hs HKB.out⟩
        rw [HML.out i]
        by_cases e : i = j
        · rw [e, updC_same, if_pos rfl]
        · rw [updC_other _ _ e, if_neg e]
      obtain ⟨xs, hxs⟩ : ∃ xs, xs = natV (Q j) := ⟨_, rfl⟩
      rw [← hxs] at HOW HFIN
      have p3 : ∀ o, (V.alloc o).cell? ⟨kb, j, none⟩ = some (.slice fa m fc) := fun o => (World.grownBy_alloc _ o none).cell cj (by simp)
      have c2 : ∀ o, (V.alloc o).cell? ⟨pb, po + k * 2 + 1, none⟩ = some (.int .i64 y) := fun o => (World.grownBy_alloc _ o none).cell c1 (by simp)
      have hmb : m ≤ 400 := by rw [hm]; exact HQB.out
      clear hfa hfc hm hxs hkcell
      go_wp2_with fail
      go_region_law (first
        | (refine step_call rfl 15 #[.tmp 37, .const (.int .i64 1024)] #[3, 3] rfl #[.int .i64 y, .int .i64 1024] (by first | (simp [Act.eval]; done) | simp [Act.eval, Act.put]) E15.out (HPY.out _) ?_; rintro e w1 ⟨rfl, hw1⟩; subst hw1; refine ⟨_, rfl, ?_⟩)
        | (refine step_append_liesW _ rfl (.tmp 32) (.tmp 39) 28 rfl w.heap.size 3 i0 (.int .i64 0) 1 8 Tryd.underlying28 hi0 hz0 hz1 hz2 rfl (by decide) (.slice fa m fc) m xs (by simp [Act.eval]) (HOW.out _ (grown_trans (World.grownBy_alloc _ _ none) (grown_drewN _ _))) ⟨V.heap.size, 0, none⟩ 1 1 [.int .i64 (l : Int)] (by simp [Act.eval]) rfl (World.news_of_block (heap_alloc_last V _)) (by simp [Value.oneCell']) (by decide) (by unfold maxLen; omega) (by omega) (HPS.out _ (grown_trans (World.grownBy_alloc _ _ none) (grown_drewN _ _))) ?_; intro g9 c9 wB hoB hgB hat; obtain ⟨⟨q1, q2⟩, q3, q4⟩ := HFIN.out _ wB g9 c9 (grown_trans (World.grownBy_alloc _ _ none) (grown_drewN _ _)) hgB hoB hat; have HQ3 := show Hid _ from q3; have HQ4 := show Hid _ from q4; clear q3 q4 hoB hgB hat)
        | fail)
      all_goals go_wp2_with fail
      all_goals go_roundg (min pn 400 - (k + 1))
      all_goals first
        | exact (show ∃ (k' : Nat), _ from ⟨k + 1, _, _, by omega, rfl, by go_num, HQ3.out, HQ4.out⟩)
        | (have := HGK.out; omega)
    · have hkn : k = min pn 400 := by omega
      have HF : Hid (MadeTold w n (mkL n 1024 P (min pn 400)) (.returned (.slice (some ⟨kb, 0, none⟩) n n)) wr) := ⟨kb, ua, uc, rfl, by rw [← hkn]; exact HC.out, HG.out⟩
      by_cases hkp : k < pn
      · have h4 : k = 400 := by omega
        have hkd : decide (k < pn) = true := decide_eq_true hkp
        have hkd2 : decide (k < 400) = false := decide_eq_false (by omega)
        have hkd3 : decide ((k : Int) < 400) = false := decide_eq_false (by omega)
        clear hkn h4
        go_wp2_with fail
        go_ret
        exact HF.out
      · have hkd : decide (k < pn) = false := decide_eq_false hkp
        clear hkn
        go_wp2_with fail
        go_ret
        exact HF.out

end Go.Proofs.YtggonakdlloloaaDoor.J

/-
  digraph: the law's reach: a worklist, pure; rows of marks, in memory.
-/
namespace Go.Proofs.YtggonakdlloloaaDoor.J
open Go.RowKit Go.Maps Go.Shelf D

/-- A worklist from node i: what is marked, what is still to be gone on from; node n is under way, k of its steps are done. -/
structure RcP (N : Nat) (E : Nat → List Nat) (i : Nat) (V : Nat → Bool) (W : List Nat) (U : List (Nat × Nat)) : Prop where
  beg : V i = true
  snd : ∀ x, V x = true → x < N ∧ Rch E i x
  nd : W.Nodup
  wrk : ∀ x ∈ W, V x = true
  und : ∀ u ∈ U, V u.1 = true ∧ ∀ y ∈ (E u.1).take u.2, V y = true
  fin : ∀ x, V x = true → x ∈ W ∨ x ∈ U.map Prod.fst ∨ ∀ y ∈ E x, V y = true
theorem RcP.start {N : Nat} {E : Nat → List Nat} {i : Nat} (hi : i < N) : RcP N E i (markT (fun _ => false) i) [i] [] := by
  have key : ∀ x, markT (fun _ => false) i x = true → x = i := fun x h => by
    unfold markT at h
    by_cases e : x = i
    · exact e
    · simp [e] at h
  refine ⟨by simp [markT], fun x h => ?_, List.pairwise_singleton _ _, fun x h => ?_, fun u h => (by cases h), fun x h => .inl ?_⟩
  · rw [key x h]; exact ⟨hi, .refl _⟩
  · rw [List.mem_singleton.1 h]; simp [markT]
  · rw [key x h]; exact List.mem_singleton.2 rfl
section
variable {N : Nat} {E : Nat → List Nat} {i : Nat} {V : Nat → Bool} {W : List Nat}
theorem RcP.skip {n k : Nat} (h : RcP N E i V W [(n, k)]) (hk : k < (E n).length) (hm : V ((E n).getD k 0) = true) : RcP N E i V W [(n, k + 1)] := by
  refine ⟨h.beg, h.snd, h.nd, h.wrk, fun u hu => ?_, fun x hx => by simpa using h.fin x hx⟩
  rw [List.mem_singleton.1 hu]
  obtain ⟨h1, h2⟩ := h.und _ (List.mem_singleton.2 rfl)
  refine ⟨h1, fun y hy => ?_⟩
  rw [List.take_succ_eq_append_getElem hk] at hy
  rcases List.mem_append.1 hy with h3 | h3
  · exact h2 y h3
  · rw [List.mem_singleton.1 h3]
    rwa [List.getD_eq_getElem?_getD, List.getElem?_eq_getElem hk] at hm
theorem RcP.push {n k : Nat} (h : RcP N E i V W [(n, k)]) (hk : k < (E n).length) (hm : V ((E n).getD k 0) = false) (hN : (E n).getD k 0 < N) : RcP N E i (markT V ((E n).getD k 0)) (W ++ [(E n).getD k 0]) [(n, k + 1)] := by
  have hmem : (E n).getD k 0 ∈ E n := by rw [List.getD_eq_getElem?_getD, List.getElem?_eq_getElem hk]; exact List.getElem_mem hk
  have e3 : (E n)[k] = (E n).getD k 0 := by rw [List.getD_eq_getElem?_getD, List.getElem?_eq_getElem hk]; rfl
  obtain ⟨t, ht⟩ : ∃ t, t = (E n).getD k 0 := ⟨_, rfl⟩
  rw [← ht] at hm hN hmem e3 ⊢
  have up : ∀ x, V x = true → markT V t x = true := fun x hx => by unfold markT; split <;> simp [hx]
  have self : markT V t t = true := by simp [markT]
  obtain ⟨h1, h2⟩ := h.und _ (List.mem_singleton.2 rfl)
  refine ⟨up _ h.beg, fun x hx => ?_, ?_, fun x hx => ?_, fun u hu => ?_, fun x hx => ?_⟩
  · unfold markT at hx
    by_cases e : x = t
    · rw [e]; exact ⟨hN, (h.snd n h1).2.trans (.one hmem)⟩
    · rw [if_neg e] at hx; exact h.snd x hx
  · refine List.nodup_append.2 ⟨h.nd, List.pairwise_singleton _ _, fun a ha b hb e => ?_⟩
    have := h.wrk a ha
    rw [e, List.mem_singleton.1 hb, hm] at this
    cases this
  · rcases List.mem_append.1 hx with h3 | h3
    · exact up _ (h.wrk x h3)
    · rw [List.mem_singleton.1 h3]; exact self
  · rw [List.mem_singleton.1 hu]
    refine ⟨up _ h1, fun y hy => ?_⟩
    rw [List.take_succ_eq_append_getElem hk] at hy
    rcases List.mem_append.1 hy with h3 | h3
    · exact up _ (h2 y h3)
    · rw [List.mem_singleton.1 h3, e3]; exact self
  · by_cases e : x = t
    · exact .inl (List.mem_append_right _ (List.mem_singleton.2 e))
    · unfold markT at hx
      rw [if_neg e] at hx
      rcases h.fin x hx with h3 | h3 | h3
      · exact .inl (List.mem_append_left _ h3)
      · exact .inr (.inl (by simpa using h3))
      · exact .inr (.inr fun y hy => up _ (h3 y hy))
theorem RcP.next {n k : Nat} (h : RcP N E i V W [(n, k)]) (hk : (E n).length ≤ k) : RcP N E i V W [] := by
  obtain ⟨_, h2⟩ := h.und _ (List.mem_singleton.2 rfl)
  have e : (E n).take k = E n := List.take_of_length_le hk
  simp only at h2
  rw [e] at h2
  refine ⟨h.beg, h.snd, h.nd, h.wrk, fun u hu => (by cases hu), fun x hx => ?_⟩
  rcases h.fin x hx with h3 | h3 | h3
  · exact .inl h3
  · have e2 : x = n := by simpa using h3
    rw [e2]; exact .inr (.inr h2)
  · exact .inr (.inr h3)
theorem RcP.done (h : RcP N E i V [] []) (x : Nat) : V x = true ↔ Rch E i x := by
  refine ⟨fun hx => (h.snd x hx).2, fun hx => ?_⟩
  have key : ∀ a b, Rch E a b → V a = true → V b = true := fun a b hab => by
    induction hab with
    | refl _ => exact id
    | step h1 _ ih =>
      intro ha
      rcases h.fin _ ha with h3 | h3 | h3
      · cases h3
      · simp at h3
      · exact ih (h3 _ h1)
  exact key i x hx h.beg
theorem RcP.len {U : List (Nat × Nat)} (h : RcP N E i V W U) : W.length ≤ N := nodup_len N W h.nd fun x hx => (h.snd x (h.wrk x hx)).1
end

/-- Rows of marks: the first k are there. -/
structure RhP (X : World) (B rb N : Nat) (g : Nat → Nat) (R : Nat → Nat → Bool) (k : Nat) : Prop where
  row : ValAt X rb N 39 (fun i => if i < k then .slice (some ⟨g i, 0, none⟩) N N else .slice none 0 0)
  inn : ∀ i, i < k → ValAt X (g i) N 4 (fun j => .bool (R i j))
  inj : ∀ i j, i < k → j < k → i ≠ j → g i ≠ g j
  lo : B ≤ rb ∧ ∀ i, i < k → B ≤ g i
theorem valAt_ne {X : World} {a b n m : Nat} {t u : TypeId} {c d : Nat → Value} (h : ValAt X a n t c) (k : ValAt X b m u d) (hne : t ≠ u) : a ≠ b := ne_type h k hne
section
variable {X Y : World} {B rb N k : Nat} {g : Nat → Nat} {R : Nat → Nat → Bool}
theorem RhP.kept (h : RhP X B rb N g R k) (hg : X.grownBy Y none) : RhP Y B rb N g R k := ⟨h.row.kept hg, fun i hi => (h.inn i hi).kept hg, h.inj, h.lo⟩
theorem RhP.other {b n : Nat} {e : TypeId} {c : Nat → Value} (h : RhP X B rb N g R k) (hb : ValAt X b n e c) (he : e ≠ 39 ∧ e ≠ 4) (hg : X.grownBy Y (some b)) : RhP Y B rb N g R k :=
  ⟨h.row.at hg (valAt_ne h.row hb fun h => he.1 h.symm), fun i hi => (h.inn i hi).at hg (valAt_ne (h.inn i hi) hb fun h => he.2 h.symm), h.inj, h.lo⟩
theorem RhP.own {B' n : Nat} {v : Value} {xs : List Value} (h : RhP X B rb N g R k) (ho : X.ownsRow B' 3 1 v n xs) (hg : X.grownBy Y v.ownBlock) : RhP Y B rb N g R k :=
  ⟨box_row h.row ho (by decide) hg, fun i hi => box_row (h.inn i hi) ho (by decide) hg, h.inj, h.lo⟩
/-- A row more, with no marks. -/
theorem RhP.put {gb : Nat} (h : RhP X B rb N g R k) (hg : X.grownBy Y none) (hn : ValAt Y gb N 4 (fun _ => .bool false)) (hgb : X.heap.size ≤ gb) (hB : B ≤ X.heap.size) : RhP (Y.setCell ⟨rb, k, none⟩ (.slice (some ⟨gb, 0, none⟩) N N)) B rb N (upd g k gb) (updC R k (fun _ => false)) (k + 1) := by
  have hY := h.kept hg
  have hs : Y.grownBy (Y.setCell ⟨rb, k, none⟩ (.slice (some ⟨gb, 0, none⟩) N N)) (some rb) := grown_setCell _ _ _
  refine ⟨(hY.row.set k _).ext fun i _ => ?_, fun i hi => ?_, fun i j hi hj hne => ?_, h.lo.1, fun i hi => ?_⟩
  · unfold J.put
    by_cases e : i = k
    · subst e
      rw [if_pos rfl, if_pos (by omega), upd_same]
    · rw [if_neg e, upd_other _ _ e]
      show (if i < k then Value.slice (some ⟨g i, 0, none⟩) N N else .slice none 0 0) = _
      by_cases e2 : i < k
      · rw [if_pos e2, if_pos (by omega)]
      · rw [if_neg e2, if_neg (by omega)]
  · by_cases e : i = k
    · subst e
      rw [upd_same, updC_same]
      exact hn.at hs (valAt_ne hn hY.row (by decide))
    · rw [upd_other _ _ e, updC_other _ _ e]
      have h1 := hY.inn i (by omega)
      exact h1.at hs (valAt_ne h1 hY.row (by decide))
  · by_cases e : i = k
    · subst e
      have e2 : j ≠ i := fun h => hne h.symm
      rw [upd_same, upd_other _ _ e2]
      have h1 := (h.inn j (by omega)).lt
      omega
    · by_cases e2 : j = k
      · subst e2
        rw [upd_same, upd_other _ _ e]
        have h1 := (h.inn i (by omega)).lt
        omega
      · rw [upd_other _ _ e, upd_other _ _ e2]
        exact h.inj i j (by omega) (by omega) hne
  · by_cases e : i = k
    · subst e; rw [upd_same]; omega
    · rw [upd_other _ _ e]; exact h.lo.2 i (by omega)
theorem RhP.ext {R' : Nat → Nat → Bool} (h : RhP X B rb N g R k) (e : ∀ i, i < k → ∀ j, j < N → R i j = R' i j) : RhP X B rb N g R' k :=
  ⟨h.row, fun i hi => (h.inn i hi).ext fun j hj => by rw [e i hi j hj], h.inj, h.lo⟩
end

/-- What reach tells. -/
def RchTold (w : World) (N : Nat) (E : Nat → List Nat) (e : Ending) (y : World) : Prop := ∃ rb g R, e = .returned (.slice (some ⟨rb, 0, none⟩) N N) ∧ RhP y w.heap.size rb N g R N ∧ (∀ i, i < N → ∀ j, R i j = true ↔ Rch E i j) ∧ w.grownBy y none

end Go.Proofs.YtggonakdlloloaaDoor.J

/-
  digraph: the law's lent: lists in memory of their own.
-/
namespace Go.Proofs.YtggonakdlloloaaDoor.J
open Go.RowKit Go.Maps Go.Shelf D

attribute [local go_sem] Oper.semAt_some

/-- Rows of numbers, as the cells that hold them. -/
def rowsZ (K : Nat) (Q : Nat → List Int) (ua : Nat → Option Addr) (uc : Nat → Nat) : List Value := (List.range K).map fun j => .slice (ua j) (Q j).length (uc j)
theorem rowsZ_at {K j : Nat} (Q : Nat → List Int) (ua : Nat → Option Addr) (uc : Nat → Nat) (hj : j < K) : (rowsZ K Q ua uc)[j]? = some (.slice (ua j) (Q j).length (uc j)) := by unfold rowsZ; simp [hj]
theorem rowsZ_snoc (K : Nat) (Q : Nat → List Int) (ua : Nat → Option Addr) (uc : Nat → Nat) (a : Option Addr) (c : Nat) : rowsZ (K + 1) Q (updC ua K a) (updC uc K c) = rowsZ K Q ua uc ++ [.slice a (Q K).length c] := by
  unfold rowsZ
  rw [List.range_succ, List.map_append]
  congr 1
  · refine List.map_congr_left fun j hj => ?_
    have : j ≠ K := by have := List.mem_range.1 hj; omega
    rw [updC_other _ _ this, updC_other _ _ this]
  · simp [updC_same]

/-- Lists under way: K of them. -/
structure LtP (X : World) (B : Nat) (ka : Option Addr) (kc K : Nat) (Q : Nat → List Int) (ua : Nat → Option Addr) (uc : Nat → Nat) : Prop where
  out : X.ownsRow B 28 1 (.slice ka K kc) K (rowsZ K Q ua uc)
  inn : ∀ j, j < K → X.ownsRow B 3 1 (.slice (ua j) (Q j).length (uc j)) (Q j).length ((Q j).map (Value.int .i64))
theorem add_off (b off j : Nat) : (⟨b, off, none⟩ : Addr).add j = ⟨b, off + j, none⟩ := by
  by_cases h0 : j = 0
  · simp [Addr.add, h0]
  · simp [Addr.add, h0]
theorem owned_ints {X : World} {B n c : Nat} {a : Option Addr} {l : List Int} (h : X.ownsRow B 3 1 (.slice a n c) n (l.map (Value.int .i64))) (hn : n = l.length) : IntsAt X a l := by
  by_cases e : l = []
  · exact .inl e
  · obtain ⟨g, c2, hg, hc⟩ := owns_at h (by rw [hn]; exact List.length_pos_iff.2 e)
    simp only [Value.slice.injEq] at hg
    refine .inr ⟨g, 0, hg.1, fun j hj => ?_⟩
    rw [Nat.zero_add]
    refine hc j _ ?_
    rw [List.getElem?_map, List.getD_eq_getElem?_getD, List.getElem?_eq_getElem hj]; rfl
theorem ints_src {X : World} {a : Option Addr} {l : List Int} (h : IntsAt X a l) : ∀ ad, a = some ad → ∀ j u, (l.map (Value.int .i64))[j]? = some u → X.cell? (ad.add j) = some u := by
  intro ad ha j u hu
  rw [List.getElem?_map] at hu
  cases hl : l[j]? with
  | none => rw [hl] at hu; cases hu
  | some x =>
    rw [hl] at hu
    have hj := (List.getElem?_eq_some_iff.1 hl).1
    rcases h with h | ⟨b, off, e, h⟩
    · rw [h] at hj; cases hj
    · rw [ha] at e
      have e2 : ad = ⟨b, off, none⟩ := by simpa using e
      have h3 := h j hj
      rw [List.getD_eq_getElem?_getD, hl] at h3
      rw [e2, add_off, h3]
      simpa using hu
theorem ints_one (l : List Int) : ∀ u ∈ l.map (Value.int .i64), u.oneCell' = true := fun u hu => by
  obtain ⟨x, _, rfl⟩ := List.mem_map.1 hu
  rfl
theorem LtP.ls {X : World} {B : Nat} {ka : Option Addr} {kc K : Nat} {Q : Nat → List Int} {ua : Nat → Option Addr} {uc : Nat → Nat} (h : LtP X B ka kc K Q ua uc) : LsAt X ka K Q ua uc := by
  refine ⟨?_, fun i hi => owned_ints (h.inn i hi) rfl⟩
  by_cases e : K = 0
  · exact .inl e
  · obtain ⟨g, c, hg, hc⟩ := owns_at h.out (by omega)
    simp only [Value.slice.injEq] at hg
    exact .inr ⟨g, hg.1, fun i hi => hc i _ (rowsZ_at Q ua uc hi)⟩
theorem LtP.kept {X Y : World} {B : Nat} {ka : Option Addr} {kc K : Nat} {Q : Nat → List Int} {ua : Nat → Option Addr} {uc : Nat → Nat} (h : LtP X B ka kc K Q ua uc) (hg : X.grownBy Y none) : LtP Y B ka kc K Q ua uc := ⟨keep0 h.out hg, fun j hj => keep0 (h.inn j hj) hg⟩
/-- A list more. -/
theorem LtP.push {X Y : World} {B : Nat} {ka ka' : Option Addr} {kc kc' K : Nat} {Q : Nat → List Int} {ua : Nat → Option Addr} {uc : Nat → Nat} {a : Option Addr} {c : Nat} (h : LtP X B ka kc K Q ua uc) (hr : X.ownsRow B 3 1 (.slice a (Q K).length c) (Q K).length ((Q K).map (Value.int .i64))) (hg : X.grownBy Y (Value.slice ka K kc).ownBlock) (ho : Y.ownsRow B 28 1 (.slice ka' (K + 1) kc') (K + 1) (rowsZ K Q ua uc ++ [.slice a (Q K).length c])) : LtP Y B ka' kc' (K + 1) Q (updC ua K a) (updC uc K c) := by
  refine ⟨by rw [rowsZ_snoc]; exact ho, fun j hj => ?_⟩
  by_cases e : j = K
  · subst e
    rw [updC_same, updC_same]
    exact row_row hr h.out (by decide) hg
  · rw [updC_other _ _ e, updC_other _ _ e]
    exact row_row (h.inn j (by omega)) h.out (by decide) hg

/-- What lent tells. -/
def LentTold (w : World) (N : Nat) (Q : Nat → List Int) (e : Ending) (y : World) : Prop := ∃ ka kc ua uc, e = .returned (.slice ka N kc) ∧ LtP y w.heap.size ka kc N Q ua uc ∧ w.grownBy y none

set_option maxRecDepth 100000 in
set_option maxHeartbeats 2000000 in
theorem dlent_any (w : World) (N : Nat) (la : Option Addr) (lc : Nat) (Q : Nat → List Int) (va : Nat → Option Addr) (vc : Nat → Nat) (hL : LsAt w la N Q va vc) (hnil : ∀ i, i < N → va i = none → (Q i).length = 0 ∧ vc i = 0) (hN : N ≤ 5864062014805) (hQ : ∀ i, i < N → (Q i).length ≤ 17592186044416) :
    Calls Tryd.prog 8 #[.slice la N lc] w fun e y => LentTold w N Q e y := by
  have HL := show Hid _ from hL
  have HNIL : Hid (∀ i, i < N → va i = none → (Q i).length = 0 ∧ vc i = 0) := hnil
  have HQ : Hid (∀ i, i < N → (Q i).length ≤ 17592186044416) := hQ
  obtain ⟨i0, hi0, hz0, hz1, hz2⟩ := info_parts infoInt
  obtain ⟨i1, hi1, hy0, hy1, hy2⟩ := info_parts infoRowsS
  clear hL hnil hQ
  go_enter Tryd.func8, Tryd.ntmps8
  go_wp2_with fail
  go_loopg [3, 4] N (fun gk v3 v4 wr => ∃ (k : Nat) (ka : Option Addr) (kc : Nat) (ua : Nat → Option Addr) (uc : Nat → Nat), k ≤ N ∧ gk = N - k ∧ v3 = .slice ka k kc ∧ v4 = .int .i64 k ∧ LtP wr w.heap.size ka kc k Q ua uc ∧ w.grownBy wr none)
  case atStart => exact ⟨0, none, 0, fun _ => none, fun _ => 0, Nat.zero_le _, rfl, rfl, rfl, ⟨World.ownsRow_nil _ _ _ _, fun j h => absurd h (Nat.not_lt_zero _)⟩, grown_refl _ _⟩
  case round =>
    obtain ⟨k, ka, kc, ua, uc, hk, hgk, rfl, rfl, hP, hg⟩ := hrel
    have HGK : Hid (gk = N - k) := hgk
    have HP := show Hid _ from hP
    have HG := show Hid _ from hg
    clear hgk hP hg
    by_cases hlt : k < N
    · have hkd : decide (k < N) = true := decide_eq_true hlt
      have hk0 : (0 : Int) ≤ (k : Int) := by omega
      have hk1 : (k : Int) < (N : Int) := by omega
      obtain ⟨lb, rfl, c0⟩ : ∃ lb, la = some ⟨lb, 0, none⟩ ∧ w.cell? ⟨lb, k, none⟩ = some (.slice (va k) (Q k).length (vc k)) := by
        rcases HL.out.1 with h | ⟨lb, e, h⟩
        · omega
        · exact ⟨lb, e, h k hlt⟩
      have c1 := HG.out.cell c0 (by simp)
      obtain ⟨a1, ha1⟩ : ∃ v, v = va k := ⟨_, rfl⟩
      obtain ⟨n1, hn1⟩ : ∃ v, v = (Q k).length := ⟨_, rfl⟩
      obtain ⟨cp1, hc1⟩ : ∃ v, v = vc k := ⟨_, rfl⟩
      rw [← ha1, ← hn1, ← hc1] at c1
      have c2 : ∀ o, (wr.alloc o).cell? ⟨lb, k, none⟩ = some (.slice a1 n1 cp1) := fun o => (World.grownBy_alloc wr o none).cell c1 (by simp)
      have HN1 : Hid (n1 = (Q k).length) := hn1
      have hnb : n1 ≤ 17592186044416 := by rw [hn1]; exact HQ.out k hlt
      have HSR : Hid (∀ o, ∀ ad, a1 = some ad → ∀ j u, ((Q k).map (Value.int .i64))[j]? = some u → (wr.alloc o).cell? (ad.add j) = some u) := fun o => ints_src (by
        rw [ha1]
        exact (HL.out.2 k hlt).kept (grown_trans HG.out (World.grownBy_alloc _ _ none)))
      have HNL : Hid (a1 = none → n1 = 0 ∧ cp1 = 0) := by rw [ha1, hn1, hc1]; exact HNIL.out k hlt
      have HE0 : Hid ((wr.alloc (.cells #[] 3)).ownsRow w.heap.size 3 1 (.slice (some ⟨wr.heap.size, 0, none⟩) 0 0) 0 []) := ⟨rfl, .inr ⟨wr.heap.size, 0, #[], rfl, HG.out.size, heap_alloc_last wr _, Nat.le_refl _, Nat.zero_le _, rfl, rfl⟩⟩
      have HLL : Hid (((Q k).map (Value.int .i64)).length = n1 * 1) := by
        show _ = _
        rw [List.length_map, HN1.out, Nat.mul_one]
      have HSZ : Hid (∀ o, w.heap.size ≤ (wr.alloc o).heap.size) := fun o => Nat.le_trans HG.out.size (World.grownBy_alloc wr o none).size
      obtain ⟨xs, hxs⟩ : ∃ xs, xs = (Q k).map (Value.int .i64) := ⟨_, rfl⟩
      have HXS : Hid (xs = (Q k).map (Value.int .i64)) := hxs
      have HON : Hid (∀ u ∈ xs, u.oneCell' = true) := by rw [hxs]; exact ints_one _
      rw [← hxs] at HSR HLL
      clear c0 c1 ha1 hn1 hc1 hxs
      go_wp2_with (at_builtin; first
        | (refine wpList_append_srcW rfl (.tmp 12) (.tmp 16) 28 rfl w.heap.size 3 i0 (.int .i64 0) 1 8 Tryd.underlying28 hi0 hz0 hz1 hz2 rfl (by decide) (.slice (some ⟨wr.heap.size, 0, none⟩) 0 0) 0 [] rfl HE0.out a1 n1 cp1 xs rfl HNL.out HLL.out (HSR.out _) HON.out (by unfold maxLen; omega) (by omega) (HSZ.out _) ?_; intro v6 wA hoA hgA; rw [Nat.zero_add, List.nil_append] at hoA; obtain ⟨a6, c6, rfl⟩ := owns_slice hoA; have HGA : Hid (wr.grownBy wA none) := grown_new (World.grownBy_alloc _ _ none) hgA (Nat.le_refl _); have HRA : Hid (wA.ownsRow w.heap.size 3 1 (.slice a6 n1 c6) n1 xs) := hoA; have HPA := show Hid _ from (HP.out.kept HGA.out).kept (World.grownBy_alloc wA (.cells #[.slice a6 n1 c6] 28) none); have HNW : Hid (∀ j z, [Value.slice a6 n1 c6][j]? = some z → (wA.alloc (.cells #[.slice a6 n1 c6] 28)).cell? ((⟨wA.heap.size, 0, none⟩ : Addr).add j) = some z) := news_new wA _ _; have HS2 : Hid (w.heap.size ≤ (wA.alloc (.cells #[.slice a6 n1 c6] 28)).heap.size) := Nat.le_trans (Nat.le_trans HG.out.size HGA.out.size) (World.grownBy_alloc wA _ none).size; clear hoA hgA c2)
        | (refine wpList_append_srcW rfl (.tmp 11) (.tmp 18) 22 rfl w.heap.size 28 i1 (.slice none 0 0) 1 24 Tryd.underlying22 hi1 hy0 hy1 hy2 rfl (by decide) (.slice ka k kc) k (rowsZ k Q ua uc) rfl HPA.out.out (some ⟨wA.heap.size, 0, none⟩) 1 1 [.slice a6 n1 c6] rfl (fun h => by cases h) rfl (fun ad e => by cases e; exact HNW.out) (by simp [Value.oneCell']) (by unfold maxLen; omega) (by omega) HS2.out ?_; intro v7 wB hoB hgB; obtain ⟨ka7, kc7, rfl⟩ := owns_slice hoB; rw [HN1.out] at hoB; have HPB : Hid (LtP wB w.heap.size ka7 kc7 (k + 1) Q (updC ua k a6) (updC uc k c6)) := HPA.out.push (by rw [← HN1.out, ← HXS.out]; exact HRA.out.alloc _) hgB hoB; have HGB : Hid (w.grownBy wB none) := grown_row (grown_trans (grown_trans HG.out HGA.out) (World.grownBy_alloc _ _ none)) HPA.out.out (Nat.le_refl _) hgB; clear hoB hgB)
        | fail)
      go_roundg (N - (k + 1))
      case measure => have := HGK.out; omega
      case rel => exact ⟨k + 1, ka7, kc7, _, _, by omega, rfl, rfl, by go_num, HPB.out, HGB.out⟩
    · have hkn : N = k := by omega
      subst hkn
      have hkd : decide (N < N) = false := decide_eq_false (by omega)
      go_wp2_with fail
      go_ret
      exact ⟨ka, kc, ua, uc, rfl, HP.out, HG.out⟩

end Go.Proofs.YtggonakdlloloaaDoor.J

/-
  digraph: the law's reach.
-/
namespace Go.Proofs.YtggonakdlloloaaDoor.J
open Go.RowKit Go.Maps Go.Shelf D

attribute [local go_sem] Oper.semAt_some

end Go.Proofs.YtggonakdlloloaaDoor.J

/-
  digraph: what DigraphLeast asks, pure, and of the document's sets.
-/
namespace Go.Proofs.YtggonakdlloloaaDoor.J
open Go.RowKit Go.Maps Go.Shelf D

/-- Hidden just as it is said. -/
theorem hidM {p : Prop} (h : p) : Hid p := h

/-- What the first k nodes have of those to which a way leads. -/
def accM (O : Nat → List Nat) (R : Nat → Bool) : Nat → Nat
  | 0 => 0
  | k + 1 => if R k = true then (B.addS 1024 (accM O R k) (intL (O k))).1 else accM O R k
theorem mask_ext {a b : Nat} (ha : a < 2 ^ 1024) (hb : b < 2 ^ 1024) (h : ∀ i, i < 1024 → (a.testBit i = true ↔ b.testBit i = true)) : a = b := by
  apply Nat.eq_of_testBit_eq
  intro i
  by_cases hi : i < 1024
  · have := h i hi
    cases h1 : a.testBit i with
    | true => rw [this.1 h1]
    | false =>
      cases h2 : b.testBit i with
      | true => rw [this.2 h2] at h1; cases h1
      | false => rfl
  · rw [bit_above ha hi, bit_above hb hi]

section
variable {n : Nat} {E : Nat → List Nat} {O : Nat → List Nat} {mk : Nat → Nat}
end
/-- Rows of marks stay where a block below them turns. -/
theorem RhP.below {X Y : World} {B rb N k b : Nat} {g : Nat → Nat} {R : Nat → Nat → Bool} (h : RhP X B rb N g R k) (hg : X.grownBy Y (some b)) (hb : b < B) : RhP Y B rb N g R k :=
  ⟨h.row.at hg (by have := h.lo.1; omega), fun i hi => (h.inn i hi).at hg (by have := h.lo.2 i hi; omega), h.inj, h.lo⟩
/-- .. where a row that lies below them turns. -/
theorem RhP.low {X Y : World} {B rb N k : Nat} {g : Nat → Nat} {R : Nat → Nat → Bool} {v : Value} (h : RhP X B rb N g R k) (hg : X.grownBy Y v.ownBlock) (hl : ∀ b, v.ownBlock = some b → b < B) : RhP Y B rb N g R k := by
  cases hv : v.ownBlock with
  | none => rw [hv] at hg; exact h.kept hg
  | some b => rw [hv] at hg; exact h.below hg (hl b hv)
theorem CqP.low {X Y : World} {B : Nat} {ka : Option Addr} {kc K : Nat} {Q : Nat → List Nat} {ua : Nat → Option Addr} {uc : Nat → Nat} {v : Value} (h : CqP X B ka kc K Q ua uc) (hg : X.grownBy Y v.ownBlock) (hl : ∀ b, v.ownBlock = some b → b < B) : CqP Y B ka kc K Q ua uc := by
  cases hv : v.ownBlock with
  | none => rw [hv] at hg; exact h.kept hg
  | some b => rw [hv] at hg; exact h.below hg (hl b hv)

end Go.Proofs.YtggonakdlloloaaDoor.J

/-
  digraph: a relation turned, pure; several nodes come to a list at once.
-/
namespace Go.Proofs.YtggonakdlloloaaDoor.J
open Go.RowKit Go.Maps Go.Shelf D

section
variable {X Y : World} {B : Nat} {ka : Option Addr} {kc K : Nat} {Q : Nat → List Nat} {ua : Nat → Option Addr} {uc : Nat → Nat}
/-- Nodes come to one of the lists. -/
theorem CqP.addL {f g c ln : Nat} {kb : Nat} {L : List Nat} (hL : ln = L.length) (h : CqP X B (some ⟨kb, 0, none⟩) kc K Q ua uc) (hf : f < K) (hg : X.grownBy Y (Value.slice (ua f) (Q f).length (uc f)).ownBlock) (ho : Y.ownsRow B 3 1 (.slice (some ⟨g, 0, none⟩) ((Q f).length + ln) c) ((Q f).length + ln) (natV (Q f) ++ natV L)) (hat : (Value.slice (ua f) (Q f).length (uc f)).ownBlock = some g ∨ g = X.heap.size) :
    (Y.cell? ⟨kb, f, none⟩ = some (.slice (ua f) (Q f).length (uc f)) ∧ Y.frozen? ⟨kb, f, none⟩ = false) ∧ CqP (Y.setCell ⟨kb, f, none⟩ (.slice (some ⟨g, 0, none⟩) ((Q f).length + ln) c)) B (some ⟨kb, 0, none⟩) kc K (updC Q f (Q f ++ L)) (updC ua f (some ⟨g, 0, none⟩)) (updC uc f c) := by
  have hs : Y.grownBy (Y.setCell ⟨kb, f, none⟩ (.slice (some ⟨g, 0, none⟩) ((Q f).length + ln) c)) (some kb) := grown_setCell _ _ _
  have hout := row_row h.out (h.inn f hf) (by decide) hg
  have hlen : (Q f ++ L).length = (Q f).length + ln := by rw [List.length_append, hL]
  rcases hout.2 with ⟨hx, _⟩ | ⟨g', cap, cur, hv, hB, hh, hn, hm, hsz, ht⟩
  · cases hx
  · simp only [Value.slice.injEq, Option.some.injEq, Addr.mk.injEq, and_true] at hv
    obtain ⟨rfl, _, rfl⟩ := hv
    have key : ∀ k, k < K → k ≠ f → (Value.slice (ua k) (Q k).length (uc k)).ownBlock = none ∨ (Value.slice (ua k) (Q k).length (uc k)).ownBlock ≠ some g := fun k hk e => by
      rcases hat with h1 | h1
      · rw [← h1]; exact h.sep k f hk hf e
      · cases hb : (Value.slice (ua k) (Q k).length (uc k)).ownBlock with
        | none => exact .inl rfl
        | some b =>
          right
          intro h2
          have h3 := ((h.inn k hk).lt b hb).2
          have h4 : b = g := by simpa using h2
          omega
    refine ⟨⟨?_, frozen_of_row _ _ _ _ _ hh⟩, ?_, fun k hk => ?_, fun k l hk hl e => ?_⟩
    · have h3 := rowsC_at (K := K) Q ua uc hf
      rw [← ht, List.getElem?_take, if_pos (by omega)] at h3
      rw [cell_of_row _ _ _ _ _ _ hh]
      simpa using h3
    · refine ⟨by rw [rowsC_length]; omega, .inr ⟨kb, kc, cur.setIfInBounds f (.slice (some ⟨g, 0, none⟩) ((Q f).length + ln) c), rfl, hB, heap_setCell_same _ _ _ _ _ _ hh, hn, hm, by simpa using hsz, ?_⟩⟩
      rw [Array.toList_setIfInBounds, List.take_set, ht]
      apply List.ext_getElem?
      intro i
      rw [List.getElem?_set]
      by_cases hi : i < K
      · rw [rowsC_at _ _ _ hi, rowsC_at _ _ _ hi, rowsC_length]
        by_cases e : f = i
        · subst e
          rw [if_pos rfl, if_pos hi, updC_same, updC_same, updC_same, hlen]
        · have e2 : i ≠ f := fun h => e h.symm
          rw [if_neg e, updC_other _ _ e2, updC_other _ _ e2, updC_other _ _ e2]
      · have h1 : f ≠ i := by omega
        rw [if_neg h1, List.getElem?_eq_none (by rw [rowsC_length]; omega), List.getElem?_eq_none (by rw [rowsC_length]; omega)]
    · by_cases e : k = f
      · subst e
        rw [updC_same, updC_same, updC_same, hlen, natV_append]
        exact ho.kept hs (owns_nebox ho hh (by decide))
      · rw [updC_other _ _ e, updC_other _ _ e, updC_other _ _ e]
        have h1 := (h.inn k hk).kept hg (h.sep k f hk hf e)
        exact h1.kept hs (owns_nebox h1 hh (by decide))
    · by_cases e1 : k = f
      · subst e1
        have e2 : l ≠ k := fun h => e h.symm
        rw [updC_same, updC_same, updC_same, updC_other _ _ e2, updC_other _ _ e2, updC_other _ _ e2]
        right
        rcases key l hl e2 with h1 | h1
        · rw [h1]; simp [Value.ownBlock]
        · exact fun h2 => h1 h2.symm
      · rw [updC_other _ _ e1, updC_other _ _ e1, updC_other _ _ e1]
        by_cases e2 : l = f
        · subst e2
          rw [updC_same, updC_same, updC_same]
          exact key k hk e1
        · rw [updC_other _ _ e2, updC_other _ _ e2, updC_other _ _ e2]
          exact h.sep k l hk hl e
end

/-- A node by its other number; and back. -/
def tau (n k x : Nat) : Nat := (x + k) % n
def sig (n k y : Nat) : Nat := (y + (n - k)) % n
section
variable {n k : Nat}
theorem tau_lt (hn : 0 < n) (x : Nat) : tau n k x < n := Nat.mod_lt _ hn
theorem sig_lt (hn : 0 < n) (y : Nat) : sig n k y < n := Nat.mod_lt _ hn
theorem tau_val (hk : k < n) {x : Nat} (hx : x < n) : tau n k x = if x + k < n then x + k else x + k - n := by
  unfold tau
  by_cases h : x + k < n
  · rw [if_pos h, Nat.mod_eq_of_lt h]
  · rw [if_neg h, Nat.mod_eq_sub_mod (by omega), Nat.mod_eq_of_lt (by omega)]
theorem sig_val (hk : k < n) {y : Nat} (hy : y < n) : sig n k y = if k ≤ y then y - k else y + (n - k) := by
  unfold sig
  by_cases h : k ≤ y
  · rw [if_pos h, Nat.mod_eq_sub_mod (by omega), Nat.mod_eq_of_lt (by omega)]
    omega
  · rw [if_neg h, Nat.mod_eq_of_lt (by omega)]
theorem sig_tau (hk : k < n) {x : Nat} (hx : x < n) : sig n k (tau n k x) = x := by
  have h1 := tau_val hk hx
  rw [sig_val hk (tau_lt (by omega) x), h1]
  split <;> split <;> omega
theorem tau_sig (hk : k < n) {y : Nat} (hy : y < n) : tau n k (sig n k y) = y := by
  have h1 := sig_val hk hy
  rw [tau_val hk (sig_lt (by omega) y), h1]
  split <;> split <;> omega
theorem tau_inj (hk : k < n) {x y : Nat} (hx : x < n) (hy : y < n) (h : tau n k x = tau n k y) : x = y := by rw [← sig_tau hk hx, h, sig_tau hk hy]

/-- What is laid for a node, from its last step down to step m. -/
def flD (n k : Nat) (E : Nat → List Nat) (x m : Nat) : List Nat := (((E x).drop m).reverse).flatMap fun t => [tau n k t, tau n k t]
theorem flD_start (E : Nat → List Nat) (x m : Nat) (h : (E x).length ≤ m) : flD n k E x m = [] := by
  unfold flD
  rw [List.drop_eq_nil_of_le h]
  rfl
theorem flD_step (E : Nat → List Nat) (x m : Nat) (h : m < (E x).length) : flD n k E x m = flD n k E x (m + 1) ++ [tau n k ((E x).getD m 0), tau n k ((E x).getD m 0)] := by
  unfold flD
  have e : (E x).getD m 0 = (E x)[m] := by rw [List.getD_eq_getElem?_getD, List.getElem?_eq_getElem h]; rfl
  rw [List.drop_eq_getElem_cons h, List.reverse_cons, List.flatMap_append, e]
  simp
theorem flD_len (E : Nat → List Nat) (x m : Nat) : (flD n k E x m).length ≤ 2 * (E x).length := by
  unfold flD
  have key : ∀ l : List Nat, (l.flatMap fun t => [tau n k t, tau n k t]).length = 2 * l.length := fun l => by
    induction l with
    | nil => rfl
    | cons a l ih => rw [List.flatMap_cons, List.length_append, ih]; simp; omega
  rw [key, List.length_reverse, List.length_drop]
  omega
theorem flD_mem (E : Nat → List Nat) (x t : Nat) : t ∈ flD n k E x 0 ↔ ∃ y ∈ E x, t = tau n k y := by
  unfold flD
  simp [List.mem_flatMap]

/-- The turned relation: each node by its other number. -/
structure TurnP (n k : Nat) (E F : Nat → List Nat) : Prop where
  hk : k < n
  hE : ∀ x, x < n → ∀ y ∈ E x, y < n
  hF : ∀ x, x < n → ∀ t, t ∈ F (tau n k x) ↔ ∃ y ∈ E x, t = tau n k y
variable {E F : Nat → List Nat}
theorem TurnP.lt (h : TurnP n k E F) : ∀ y, y < n → ∀ t ∈ F y, t < n := fun y hy t ht => by
  have hn : 0 < n := by have := h.hk; omega
  rw [← tau_sig h.hk hy] at ht
  obtain ⟨z, _, rfl⟩ := (h.hF _ (sig_lt hn y) t).1 ht
  exact tau_lt hn z
theorem TurnP.go (h : TurnP n k E F) {x y : Nat} (hr : Rch E x y) : x < n → y < n ∧ Rch F (tau n k x) (tau n k y) := by
  induction hr with
  | refl _ => exact fun hx => ⟨hx, .refl _⟩
  | step h1 _ ih =>
    intro hx
    obtain ⟨h2, h3⟩ := ih (h.hE _ hx _ h1)
    exact ⟨h2, .step ((h.hF _ hx _).2 ⟨_, h1, rfl⟩) h3⟩
theorem TurnP.back (h : TurnP n k E F) {a b : Nat} (hr : Rch F a b) : ∀ x, x < n → a = tau n k x → ∃ y, y < n ∧ b = tau n k y ∧ Rch E x y := by
  induction hr with
  | refl _ => exact fun x hx e => ⟨x, hx, e, .refl _⟩
  | step h1 _ ih =>
    intro x hx e
    rw [e] at h1
    obtain ⟨y, hy, e2⟩ := (h.hF x hx _).1 h1
    obtain ⟨z, h3, h4, h5⟩ := ih y (h.hE x hx y hy) e2
    exact ⟨z, h3, h4, .step hy h5⟩
theorem TurnP.iff (h : TurnP n k E F) {x y : Nat} (hx : x < n) (hy : y < n) : Rch E x y ↔ Rch F (tau n k x) (tau n k y) := by
  constructor
  · exact fun hr => (h.go hr hx).2
  · intro hr
    obtain ⟨z, h1, h2, h3⟩ := h.back hr x hx rfl
    rw [tau_inj h.hk hy h1 h2]
    exact h3
theorem TurnP.gets (h : TurnP n k E F) {O P : Nat → List Int} (hO : ∀ x, x < n → P (tau n k x) = O x) {x : Nat} (hx : x < n) (b : Nat) : Gets F P (tau n k x) b ↔ Gets E O x b := by
  constructor
  · rintro ⟨y, h1, h2⟩
    obtain ⟨z, h3, h4, h5⟩ := h.back h1 x hx rfl
    rw [h4, hO z h3] at h2
    exact ⟨z, h5, h2⟩
  · rintro ⟨y, h1, h2⟩
    obtain ⟨h3, h4⟩ := h.go h1 hx
    exact ⟨_, h4, by rw [hO y h3]; exact h2⟩
theorem nodup_sub : ∀ (l m : List Nat), l.Nodup → (∀ x ∈ l, x ∈ m) → l.length ≤ m.length
  | [], _, _, _ => Nat.zero_le _
  | x :: l, m, hn, h => by
    have h1 := List.nodup_cons.1 hn
    have hx := h x (List.mem_cons_self ..)
    have h2 := nodup_sub l (m.erase x) h1.2 fun y hy => (List.mem_erase_of_ne (fun e => h1.1 (by rw [← e]; exact hy))).2 (h y (List.mem_cons_of_mem _ hy))
    rw [List.length_erase_of_mem hx] at h2
    have h3 : 0 < m.length := List.length_pos_of_mem hx
    simp only [List.length_cons]
    omega
theorem lsts_le {ls ls' : Nat → Nat} (h : ∀ x, x < n → IsLeast n E x (ls x)) (h' : ∀ x, x < n → IsLeast n F x (ls' x)) (t : Nat → Nat) (ht : ∀ x, x < n → t x < n) (hr : ∀ x y, x < n → y < n → Rch F (t x) (t y) → Rch E x y) : (lsts ls n).length ≤ (lsts ls' n).length := by
  have h1 := nodup_sub ((lsts ls n).map fun l => ls' (t l)) (lsts ls' n) ?_ ?_
  · rwa [List.length_map] at h1
  · have hn : (lsts ls n).Nodup := by unfold lsts; exact List.nodup_range.filter _
    unfold List.Nodup at hn ⊢
    refine List.pairwise_map.2 (hn.imp_of_mem fun {x y} hx hy hxy e => hxy ?_)
    obtain ⟨hx1, hx2⟩ := mem_lsts.1 hx
    obtain ⟨hy1, hy2⟩ := mem_lsts.1 hy
    obtain ⟨_, a1, a2, _⟩ := h' (t x) (ht x hx1)
    obtain ⟨_, b1, b2, _⟩ := h' (t y) (ht y hy1)
    rw [e] at a1 a2
    have c1 := hr x y hx1 hy1 (a1.trans b2)
    have c2 := hr y x hy1 hx1 (b1.trans a2)
    have d1 := h x hx1
    have d2 := h y hy1
    rw [hx2] at d1
    rw [hy2] at d2
    exact Nat.le_antisymm (d1.2.2.2 y c1 c2) (d2.2.2.2 x c2 c1)
  · intro y hy
    obtain ⟨l, hl, rfl⟩ := List.mem_map.1 hy
    have hlN := (mem_lsts.1 hl).1
    exact mem_lsts.2 ⟨(h' _ (ht l hlN)).1, (ls_idem h' (ht l hlN)).2⟩
/-- As many components. -/
theorem TurnP.count (h : TurnP n k E F) {ls ls' : Nat → Nat} (h1 : ∀ x, x < n → IsLeast n E x (ls x)) (h2 : ∀ x, x < n → IsLeast n F x (ls' x)) : (cmpL ls n).length = (cmpL ls' n).length := by
  have hn : 0 < n := by have := h.hk; omega
  rw [cmpL_length, cmpL_length]
  refine Nat.le_antisymm (lsts_le h1 h2 (tau n k) (fun x _ => tau_lt hn x) fun x y hx hy hr => (h.iff hx hy).2 hr) (lsts_le h2 h1 (sig n k) (fun x _ => sig_lt hn x) fun x y hx hy hr => ?_)
  have := (h.iff (sig_lt hn x) (sig_lt hn y)).1 hr
  rwa [tau_sig h.hk hx, tau_sig h.hk hy] at this
end

end Go.Proofs.YtggonakdlloloaaDoor.J
