import Derived.Test.YtjijagnpcmonbaaDoorQjijokkhlijnj
import Derived.Test.YtjijagnpcmonbaaDoorQkddklddcacnj
import Derived.Test.YtjijagnpcmonbaaDoorQlcmcachabgbb
import Derived.Test.YtjijagnpcmonbaaDoorQkkaofihompij
import Derived.Test.YtjijagnpcmonbaaDoorQcgfnjmbccaak
import Derived.Deep.RegionHeld3
import Derived.BigQuiet
import Derived.Test.YtjijagnpcmonbaaDoorQpgpgcbohfefb
import Derived.Deep.RegionLaw
import Derived.Deep.DrawnRows
import Derived.Test.YtjijagnpcmonbaaDoorQpomjhialmahj
import Derived.Test.YtjijagnpcmonbaaDoorQcodadiljfchl

/-
  digraph: Solve.
-/
namespace Go.Proofs.YtjijagnpcmonbaaDoor.J
open Go.RowKit Go.Maps Go.Shelf D

attribute [local go_sem] Oper.semAt_some

theorem infoShP : (Tryd.prog.info? 42).map (fun i => (i.zero, i.size, i.bytes)) = some (some (.pointer none), 1, 8) := by kernel_rfl
theorem infoRowsS : (Tryd.prog.info? 28).map (fun i => (i.zero, i.size, i.bytes)) = some (some (.slice none 0 0), 1, 24) := by kernel_rfl

/-- A set's members, as numbers. -/
def memN (m : Nat) : List Nat := (List.range 1024).filter fun i => m.testBit i
theorem mems_intL (m : Nat) : B.mems 1024 m = intL (memN m) := rfl
theorem mems_natV (m : Nat) : (B.mems 1024 m).map (Value.int .i64) = natV (memN m) := by
  rw [mems_intL]
  unfold intL natV
  rw [List.map_map]
  rfl
theorem members_d (b sz m : Nat) (w : World) (h : B.SetM w (some ⟨b, 0, none⟩) sz m) (hT : B.Tab w) (h0 : 0 < w.heap.size) :
    Calls Tryd.prog 25 #[.pointer (some ⟨b, 0, none⟩)] w fun e w' => ∃ a c, e = .returned (.slice a (memN m).length c) ∧ w'.ownsRow w.heap.size 3 1 (.slice a (memN m).length c) (memN m).length (natV (memN m)) ∧ w.grownBy w' none := by
  refine (callsIn_wide.1 (B.members_in 3 (Nat.le_refl _) B.cnt B.countIs cnt_le (some ⟨b, 0, none⟩) sz m w h hT h0)).mono ?_
  rintro e w' ⟨v, rfl, ho, hb⟩
  rw [mems_natV, mems_intL, intL_length] at ho
  obtain ⟨a, c, rfl⟩ := owns_cut ho
  exact ⟨a, c, rfl, ho, below_grown hb⟩
theorem tab_kept {w X : World} (hT : B.Tab w) (hg : w.grownBy X none) : B.Tab X := fun j hj => hg.cell (hT j hj) (by simp)

/-- Lists under way in a row that was made: the first k are there. -/
structure RwP (X : World) (B rb N : Nat) (Q : Nat → List Nat) (ua : Nat → Option Addr) (uc : Nat → Nat) (k : Nat) : Prop where
  val : ValAt X rb N 28 (fun i => if i < k then .slice (ua i) (Q i).length (uc i) else .slice none 0 0)
  inn : ∀ i, i < k → X.ownsRow B 3 1 (.slice (ua i) (Q i).length (uc i)) (Q i).length (natV (Q i))
  sep : ∀ i j, i < k → j < k → i ≠ j → (Value.slice (ua i) (Q i).length (uc i)).ownBlock = none ∨ (Value.slice (ua i) (Q i).length (uc i)).ownBlock ≠ (Value.slice (ua j) (Q j).length (uc j)).ownBlock
  lo : B ≤ rb
theorem RwP.kept {X Y : World} {B rb N : Nat} {Q : Nat → List Nat} {ua : Nat → Option Addr} {uc : Nat → Nat} {k : Nat} (h : RwP X B rb N Q ua uc k) (hg : X.grownBy Y none) : RwP Y B rb N Q ua uc k := ⟨h.val.kept hg, fun i hi => keep0 (h.inn i hi) hg, h.sep, h.lo⟩
theorem own_ne_val {X : World} {B g len s n : Nat} {t e : TypeId} {c : Nat → Value} {v : Value} {xs : List Value} (ho : X.ownsRow B e s v n xs) (h : ValAt X g len t c) (hne : e ≠ t) : v.ownBlock = none ∨ v.ownBlock ≠ some g := by
  rcases ho.2 with ⟨rfl, _⟩ | ⟨g', cap, cur, rfl, _, hh, _⟩
  · exact .inl rfl
  · refine .inr fun e2 => ?_
    have e3 : g' = g := by simpa [Value.ownBlock] using e2
    exact ne_type hh h hne e3
theorem RwP.put {X Y : World} {B rb N : Nat} {Q : Nat → List Nat} {ua : Nat → Option Addr} {uc : Nat → Nat} {k : Nat} {a : Option Addr} {c : Nat} (h : RwP X B rb N Q ua uc k) (hg : X.grownBy Y none) (hB : B ≤ X.heap.size) (ho : Y.ownsRow X.heap.size 3 1 (.slice a (Q k).length c) (Q k).length (natV (Q k))) :
    RwP (Y.setCell ⟨rb, k, none⟩ (.slice a (Q k).length c)) B rb N Q (updC ua k a) (updC uc k c) (k + 1) := by
  have hY := h.kept hg
  have hs : Y.grownBy (Y.setCell ⟨rb, k, none⟩ (.slice a (Q k).length c)) (some rb) := grown_setCell _ _ _
  refine ⟨(hY.val.set k _).ext fun i _ => ?_, fun i hi => ?_, fun i j hi hj hne => ?_, h.lo⟩
  · unfold J.put
    by_cases e : i = k
    · subst e
      rw [if_pos rfl, if_pos (by omega), updC_same, updC_same]
    · rw [if_neg e, updC_other _ _ e, updC_other _ _ e]
      show (if i < k then Value.slice (ua i) (Q i).length (uc i) else .slice none 0 0) = _
      by_cases e2 : i < k
      · rw [if_pos e2, if_pos (by omega)]
      · rw [if_neg e2, if_neg (by omega)]
  · by_cases e : i = k
    · subst e
      rw [updC_same, updC_same]
      exact (owns_lower ho hB).kept hs (own_ne_val ho hY.val (by decide))
    · rw [updC_other _ _ e, updC_other _ _ e]
      have h1 := hY.inn i (by omega)
      exact h1.kept hs (own_ne_val h1 hY.val (by decide))
  · by_cases e : i = k
    · subst e
      have e2 : j ≠ i := fun h => hne h.symm
      rw [updC_same, updC_same, updC_other _ _ e2, updC_other _ _ e2]
      cases hv : (Value.slice a (Q i).length c).ownBlock with
      | none => exact .inl rfl
      | some g =>
        refine .inr fun e3 => ?_
        have h1 := (ho.lt g hv).1
        have h2 := ((h.inn j (by omega)).lt g e3.symm).2
        omega
    · by_cases e2 : j = k
      · subst e2
        rw [updC_same, updC_same, updC_other _ _ e, updC_other _ _ e]
        cases hv : (Value.slice (ua i) (Q i).length (uc i)).ownBlock with
        | none => exact .inl rfl
        | some g =>
          refine .inr fun e3 => ?_
          have h1 := (ho.lt g e3.symm).1
          have h2 := ((h.inn i (by omega)).lt g hv).2
          omega
      · rw [updC_other _ _ e, updC_other _ _ e, updC_other _ _ e2, updC_other _ _ e2]
        exact h.sep i j (by omega) (by omega) hne
theorem RwP.done {X : World} {B rb N : Nat} {Q : Nat → List Nat} {ua : Nat → Option Addr} {uc : Nat → Nat} (h : RwP X B rb N Q ua uc N) (hN : N ≤ maxLen) : CqP X B (some ⟨rb, 0, none⟩) N N Q ua uc := by
  refine ⟨⟨by rw [rowsC_length, Nat.mul_one], .inr ⟨rb, N, _, rfl, h.lo, h.val, Nat.le_refl _, hN, by simp, ?_⟩⟩, h.inn, h.sep⟩
  rw [Nat.mul_one, List.take_of_length_le (by simp)]
  unfold rowsC
  exact List.map_congr_left fun i hi => if_pos (List.mem_range.1 hi)

/-- Shares stay where a block of something else turns. -/
theorem SiAt.other {w X Y : World} {N p1 sm p2 p3 k : Nat} {oa ea : Option Addr} {oc ec : Nat} {C : Nat → Bool} {sh bs tk mk : Nat → Nat} {cs : Array Value} (h : SiAt w X N p1 sm p2 p3 oa ea oc ec C sh bs tk mk) (hk : X.heap[k]? = some (.cells cs 28 (0, 0))) (hg : X.grownBy Y (some k)) (hw : w.heap.size ≤ k) : SiAt w Y N p1 sm p2 p3 oa ea oc ec C sh bs tk mk := by
  have key : ∀ {j : Nat} {cs' : Array Value} {t' : TypeId}, X.heap[j]? = some (.cells cs' t' (0, 0)) → t' ≠ 28 → Y.heap[j]? = some (.cells cs' t' (0, 0)) := fun {j cs' t'} h1 h2 => (hg.block j (Array.getElem?_eq_some_iff.1 h1).1 (by simpa using ne_type h1 hk h2)).trans h1
  refine ⟨grown_new h.grown hg hw, key h.b1 (by decide), key h.b2 (by decide), key h.b3 (by decide), key h.val (by decide), h.lo, fun x hx hC => ?_⟩
  have h1 := h.each x hx hC
  obtain ⟨cs2, hcs2⟩ := h1.tak
  exact ⟨key h1.cel (by decide), setM_block h1.set fun _ h2 => key h2 (by decide), ⟨cs2, key hcs2 (by decide)⟩, h1.los⟩

/-- What Solve tells. -/
def SolTold (N : Nat) (E : Nat → List Nat) (own : Nat → List Int) (w : World) (e : Ending) (y : World) : Prop := ∃ (rb : Nat) (mk : Nat → Nat) (ua : Nat → Option Addr) (uc : Nat → Nat), e = .returned (.tuple #[.slice (some ⟨rb, 0, none⟩) N N, .int .i64 0]) ∧ (∀ x, x < N → mk x < 2 ^ 1024 ∧ ∀ b, (mk x).testBit b = true ↔ Gets E own x b) ∧ CqP y w.heap.size (some ⟨rb, 0, none⟩) N N (fun x => memN (mk x)) ua uc ∧ w.grownBy y none

set_option maxRecDepth 100000 in
set_option maxHeartbeats 4000000 in
theorem sol_ok (w : World) (N : Nat) (ea oa : Option Addr) (ec oc : Nat) (E : Nat → List Nat) (own : Nat → List Int) (eua oua : Nat → Option Addr) (euc ouc : Nat → Nat) (hL : LsAt w ea N (fun i => intL (E i)) eua euc) (hO : LsAt w oa N own oua ouc) (hN : N ≤ 5864062014805) (hQ : ∀ i, i < N → (E i).length ≤ 17592186044416) (hol : ∀ x, x < N → (own x).length ≤ 17592186044416) (hE : ∀ x, x < N → ∀ y ∈ E x, y < N) (hob : ∀ x, x < N → ∀ v ∈ own x, 0 ≤ v ∧ v < 1024) (hT : B.Tab w) (h0 : 0 < w.heap.size) :
    Calls Tryd.prog 10 #[.slice ea N ec, .slice oa N oc] w fun e y => SolTold N E own w e y := by
  obtain ⟨Y1, hY1⟩ : ∃ Y, Y = (w.alloc (.cells #[.slice ea N ec] 22)).alloc (.cells #[.slice oa N oc] 22) := ⟨_, rfl⟩
  have hg1 : w.grownBy Y1 none := by rw [hY1]; exact grown_trans (World.grownBy_alloc _ _ none) (World.grownBy_alloc _ _ none)
  have HY1 : Hid (Y1 = (w.alloc (.cells #[.slice ea N ec] 22)).alloc (.cells #[.slice oa N oc] 22)) := hY1
  have HG1 := show Hid _ from hg1
  have HB3 : Hid (Y1.heap[w.heap.size]? = some (.cells #[.slice ea N ec] 22 (0, 0))) := by
    show _ = _
    rw [hY1]; exact box_kept (heap_alloc_last w _) (World.grownBy_alloc _ _ none)
  have HB2 : Hid (Y1.heap[w.heap.size + 1]? = some (.cells #[.slice oa N oc] 22 (0, 0))) := by
    show _ = _
    have h1 := heap_alloc_last (w.alloc (.cells #[.slice ea N ec] 22)) (.cells #[.slice oa N oc] 22)
    rw [hY1]; simpa using h1
  have hLY := hL.kept hg1
  have hOY := hO.kept hg1
  have HBE := show Hid _ from below_any (N : Int) ea N ec (fun i => intL (E i)) eua euc Y1 hLY (by omega) (fun i hi => by rw [intL_length]; exact hQ i hi) true (by
    refine ⟨fun _ i hi x hx => ?_, fun _ => rfl⟩
    unfold intL at hx
    obtain ⟨y, hy, rfl⟩ := List.mem_map.1 hx
    have := hE i hi y hy
    omega)
  have HBO := show Hid _ from below_any 1024 oa N oc own oua ouc Y1 hOY (by omega) hol true ⟨fun _ => hob, fun _ => rfl⟩
  have HEA : Hid (∀ (X : World) (p1 sm p2 p3 : Nat), Y1.heap.size ≤ X.heap.size → SiAt Y1 X N p1 sm p2 p3 oa ea oc ec (fun _ => false) (fun _ => 0) (fun _ => 0) (fun _ => 0) (fun _ => 0) → Calls Tryd.prog 15 #[.slice ea N ec, .func (.func 20) #[] #[.pointer (some ⟨p1, 0, none⟩), .pointer (some ⟨p2, 0, none⟩), .pointer (some ⟨p3, 0, none⟩)]] X fun e y => e = .returned (.tuple #[]) ∧ ∃ C sh bs tk mk, SiAt Y1 y N p1 sm p2 p3 oa ea oc ec C sh bs tk mk ∧ SolP E own C (fun x => mk (sh x)) ∧ ∀ x, x < N → C x = true) := fun X p1 sm p2 p3 hX hS0 => by
    refine (each_anyS (fun X C => ∃ sh bs tk mk, SiAt Y1 X N p1 sm p2 p3 oa ea oc ec C sh bs tk mk ∧ SolP E own C (fun x => mk (sh x)) ∧ ∀ x, C x = true → x < N) X N ea ec E eua euc p1 p2 p3 hN hE hQ (fun X' Y' C ⟨sh, bs, tk, mk, h1, h2, h3⟩ hk => ⟨sh, bs, tk, mk, h1.skept hX hk, h2, h3⟩) (fun X' C ⟨sh, bs, tk, mk, h1, _⟩ => hLY.kept h1.grown) (fun X' C c a cap ⟨sh, bs, tk, mk, h1, h2, h3⟩ hc hi hab => ?_) ⟨_, _, _, _, hS0, SolP.start, fun x h => (by cases h)⟩).mono ?_
    · refine (solveF_any Y1 X' N p1 sm p2 p3 X.heap.size oa ea oc ec C sh bs tk mk h1 E own oua eua ouc euc hOY hLY hN hol hQ hE hob c hc a cap hi fun rb ro e => (hab rb ro e).2).mono ?_
      rintro e y ⟨rfl, ⟨sh', bs', tk', mk', M, g1, g2, g3⟩, g4⟩
      have hst := h2.step hc g3
      have hlt : ∀ x, addC C c x = true → x < N := fun x hx => by
        rcases (addC_iff _ _ _).1 hx with h5 | h5
        · exact h3 x h5
        · exact (hc.lt x h5).1
      refine ⟨rfl, ⟨sh', bs', tk', mk', g1, fun x hx b => ?_, hlt⟩, g4⟩
      have h5 : (if x ∈ c then M else mk (sh x)).testBit b = true ↔ Gets E own x b := hst x hx b
      rw [← g2 x (hlt x hx) hx] at h5
      exact h5
    · rintro e y ⟨rfl, C, ⟨sh, bs, tk, mk, h1, h2, _⟩, h4⟩
      exact ⟨rfl, C, sh, bs, tk, mk, h1, h2, h4⟩
  have HTB : Hid (∀ X, Y1.grownBy X none → B.Tab X ∧ 0 < X.heap.size) := fun X hX => ⟨tab_kept hT (grown_trans hg1 hX), Nat.lt_of_lt_of_le h0 (grown_trans hg1 hX).size⟩
  obtain ⟨i0, hi0, hz0, hz1, hz2⟩ := info_parts infoShP
  obtain ⟨i1, hi1, hy0, hy1, hy2⟩ := info_parts infoRowsS
  have hnn : ((N : Int) != (N : Int)) = false := bne_self_eq_false _
  have b3 : Y1.cell? ⟨w.heap.size, 0, none⟩ = some (.slice ea N ec) := by rw [cell_of_row _ _ _ _ _ _ HB3.out]; rfl
  have b2 : Y1.cell? ⟨w.heap.size + 1, 0, none⟩ = some (.slice oa N oc) := by rw [cell_of_row _ _ _ _ _ _ HB2.out]; rfl
  have HP : Hid (w.heap.size + 1 < Y1.heap.size) := (Array.getElem?_eq_some_iff.1 HB2.out).1
  clear hL hO hQ hol hE hob hT h0 hg1 hLY hOY
  go_enter Tryd.func10, Tryd.ntmps10
  rw [hY1] at b2 b3
  clear hY1
  go_wp2_with fail
  rw [← HY1.out]
  clear b2 b3
  have b3 : Y1.cell? ⟨w.heap.size, 0, none⟩ = some (.slice ea N ec) := by rw [cell_of_row _ _ _ _ _ _ HB3.out]; rfl
  have b2 : Y1.cell? ⟨w.heap.size + 1, 0, none⟩ = some (.slice oa N oc) := by rw [cell_of_row _ _ _ _ _ _ HB2.out]; rfl
  refine Calls.mono HBE.out ?_
  rintro e y ⟨rfl, hy⟩
  subst hy
  clear HBE
  go_wp2_with fail
  refine Calls.mono HBO.out ?_
  rintro e Y ⟨rfl, hY⟩
  subst hY
  clear HBO HY1
  go_wp2_with (at_make; refine wpList_make_full _ rfl _ _ 41 rfl Y.heap.size 42 i0 (.pointer none) 1 Tryd.underlying41 hi0 hz0 hz1 .i64 .i64 _ _ N rfl rfl (by simp) (by simp) (by rw [hz2]; omega) (by unfold maxLen; omega) (by simp) ?_)
  intro w3 hown hgrow
  have hval : ValAt w3 Y.heap.size N 42 (fun _ => .pointer none) := made_rowK (B := Y.heap.size) rfl (by simpa [Value.cells] using hown)
  obtain ⟨sm, hsm⟩ : ∃ b, b = Y.heap.size := ⟨_, rfl⟩
  have hsm2 : Y.heap.size ≤ sm := by omega
  rw [← hsm] at hval
  rw [← hsm]
  have hga : w3.grownBy (w3.alloc (.cells #[.slice (some ⟨sm, 0, none⟩) N N] 41)) none := World.grownBy_alloc _ _ none
  have hgA := grown_trans hgrow hga
  have HE0 := show Hid _ from HEA.out (w3.alloc (.cells #[.slice (some ⟨sm, 0, none⟩) N N] 41)) w3.heap.size sm (w.heap.size + 1) w.heap.size hgA.size ⟨hgA, heap_alloc_last w3 _, box_kept HB2.out hgA, box_kept HB3.out hgA, (hval.kept hga).ext fun i _ => by simp, hsm2, fun x _ h => (by cases h)⟩
  have b4 : (w3.alloc (.cells #[.slice (some ⟨sm, 0, none⟩) N N] 41)).cell? ⟨w.heap.size, 0, none⟩ = some (.slice ea N ec) := hgA.cell b3 (by simp)
  clear hown hgrow hval hsm hga hgA HEA b2 b3 HB2 HB3
  go_wp2_with fail
  refine Calls.mono HE0.out ?_
  rintro e w4 ⟨rfl, C, sh, bs, tk, mk, hS, hP, hall⟩
  have HS := show Hid _ from hS
  obtain ⟨mk2, hmk2⟩ : ∃ f : Nat → Nat, f = fun x => mk (sh x) := ⟨_, rfl⟩
  have HMK : Hid (∀ x, mk (sh x) = mk2 x) := fun x => by rw [hmk2]
  have HBIT : Hid (∀ x, x < N → mk2 x < 2 ^ 1024 ∧ ∀ b, (mk2 x).testBit b = true ↔ Gets E own x b) := fun x hx => by
    rw [hmk2]
    exact ⟨(hS.each x hx (hall x hx)).set.2.1, hP x (hall x hx)⟩
  have HALL : Hid (∀ x, x < N → C x = true) := hall
  obtain ⟨p1, hp1⟩ : ∃ b, b = w3.heap.size := ⟨_, rfl⟩
  rw [← hp1] at HS ⊢
  clear hS hP hall HE0 hp1 b4 hmk2
  have b3 : w4.cell? ⟨w.heap.size, 0, none⟩ = some (.slice ea N ec) := by rw [cell_of_row _ _ _ _ _ _ HS.out.b3]; rfl
  go_wp2_with (at_make; refine wpList_make_full _ rfl _ _ 22 rfl w4.heap.size 28 i1 (.slice none 0 0) 1 Tryd.underlying22 hi1 hy0 hy1 .i64 .i64 _ _ N rfl rfl (by simp) (by simp) (by rw [hy2]; omega) (by unfold maxLen; omega) (by simp) ?_)
  intro w5 hown hgrow
  have hval : ValAt w5 w4.heap.size N 28 (fun _ => .slice none 0 0) := made_rowK (B := w4.heap.size) rfl (by simpa [Value.cells] using hown)
  obtain ⟨rb, hrb⟩ : ∃ b, b = w4.heap.size := ⟨_, rfl⟩
  rw [← hrb] at hval
  rw [← hrb]
  have hrY : Y.heap.size ≤ rb := by rw [hrb]; exact HS.out.grown.size
  have hrw : w.heap.size ≤ rb := by have := HP.out; omega
  have HS5 : Hid (SiAt Y w5 N p1 sm (w.heap.size + 1) w.heap.size oa ea oc ec C sh bs tk mk) := HS.out.skept (Nat.le_refl _) (.none_ hgrow)
  have HR5 : Hid (RwP w5 w.heap.size rb N (fun x => memN (mk2 x)) (fun _ => none) (fun _ => 0) 0) := ⟨hval.ext fun i _ => by simp, fun i h => absurd h (Nat.not_lt_zero _), fun i j h => absurd h (Nat.not_lt_zero _), hrw⟩
  have b1 : w5.cell? ⟨p1, 0, none⟩ = some (.slice (some ⟨sm, 0, none⟩) N N) := by rw [cell_of_row _ _ _ _ _ _ HS5.out.b1]; rfl
  have HRY : Hid (Y.heap.size ≤ rb ∧ w.heap.size ≤ rb) := ⟨hrY, hrw⟩
  clear hown hgrow hval hrb b3 HS hrY hrw
  go_wp2_with fail
  clear b1
  go_loopg [38] N (fun gk v38 wr => ∃ (k : Nat) (ua : Nat → Option Addr) (uc : Nat → Nat), k ≤ N ∧ gk = N - k ∧ v38 = .int .i64 k ∧ SiAt Y wr N p1 sm (w.heap.size + 1) w.heap.size oa ea oc ec C sh bs tk mk ∧ RwP wr w.heap.size rb N (fun x => memN (mk2 x)) ua uc k)
  case atStart => exact ⟨0, _, _, Nat.zero_le _, rfl, rfl, HS5.out, HR5.out⟩
  case round =>
    clear HS5 HR5
    obtain ⟨k, ua, uc, hk, hgk, rfl, hS, hR⟩ := hrel
    have HGK : Hid (gk = N - k) := hgk
    have HS := show Hid _ from hS
    have HR := show Hid _ from hR
    clear hgk hS hR
    by_cases hlt : k < N
    · have hkd : decide (k < N) = true := decide_eq_true hlt
      have hk0 : (0 : Int) ≤ (k : Int) := by omega
      have hk1 : (k : Int) < (N : Int) := by omega
      have zl := HS.out.val.cell k hlt
      rw [if_pos (HALL.out k hlt)] at zl
      have hsh := HS.out.each k hlt (HALL.out k hlt)
      have z0 : wr.cell? ⟨sh k, 0, none⟩ = some (.pointer (some ⟨bs (sh k), 0, none⟩)) := by rw [cell_of_row _ _ _ _ _ _ hsh.cel]; rfl
      obtain ⟨st, hst⟩ : ∃ v, v = sh k := ⟨_, rfl⟩
      rw [← hst] at zl z0
      obtain ⟨bst, hbst⟩ : ∃ v, v = bs st := ⟨_, rfl⟩
      rw [← hbst] at z0
      obtain ⟨ql, hql⟩ : ∃ v, v = (memN (mk2 k)).length := ⟨_, rfl⟩
      have HMB : Hid (Calls Tryd.prog 25 #[.pointer (some ⟨bst, 0, none⟩)] wr fun e w' => ∃ a c, e = .returned (.slice a ql c) ∧ w'.ownsRow wr.heap.size 3 1 (.slice a ql c) ql (natV (memN (mk2 k))) ∧ wr.grownBy w' none) := by
        have h5 := HTB.out wr HS.out.grown
        have h6 := hsh.set
        rw [HMK.out k, ← hst, ← hbst] at h6
        have h7 := members_d bst 1024 (mk2 k) wr h6 h5.1 h5.2
        rw [← hql] at h7
        exact h7
      have HQL : Hid (ql = (memN (mk2 k)).length) := hql
      clear hsh hst hbst hql
      go_wp2_with fail
      refine Calls.mono HMB.out ?_
      rintro e w6 ⟨a, c, rfl, ho, hg⟩
      have hS6 := HS.out.skept (Nat.le_refl _) (.none_ hg)
      have hR6 := HR.out.kept hg
      have y0 := hR6.val.cell k hlt
      have y1 := hR6.val.free k
      rw [if_neg (Nat.lt_irrefl k)] at y0
      have HSN : Hid (SiAt Y (w6.setCell ⟨rb, k, none⟩ (.slice a ql c)) N p1 sm (w.heap.size + 1) w.heap.size oa ea oc ec C sh bs tk mk) := hS6.other hR6.val (grown_setCell _ _ _) HRY.out.1
      have HRN : Hid (RwP (w6.setCell ⟨rb, k, none⟩ (.slice a ql c)) w.heap.size rb N (fun x => memN (mk2 x)) (updC ua k a) (updC uc k c) (k + 1)) := by
        have h1 := HR.out.put (a := a) (c := c) hg (Nat.le_trans HG1.out.size HS.out.grown.size) (by
          show w6.ownsRow wr.heap.size 3 1 (.slice a (memN (mk2 k)).length c) (memN (mk2 k)).length (natV (memN (mk2 k)))
          rw [← HQL.out]
          exact ho)
        rw [← HQL.out] at h1
        exact h1
      clear ho hg hS6 hR6 HMB zl z0
      go_wp2_with fail
      go_roundg (N - (k + 1))
      case measure => have := HGK.out; omega
      case rel => exact ⟨k + 1, _, _, by omega, rfl, by go_num, HSN.out, HRN.out⟩
    · have hkn : N = k := by omega
      subst hkn
      have hkd : decide (N < N) = false := decide_eq_false (by omega)
      have HF : Hid (CqP wr w.heap.size (some ⟨rb, 0, none⟩) N N (fun x => memN (mk2 x)) ua uc) := HR.out.done (by unfold maxLen; omega)
      have HGF : Hid (w.grownBy wr none) := grown_trans HG1.out HS.out.grown
      go_wp2_with fail
      go_ret2
      exact ⟨rb, mk2, ua, uc, rfl, HBIT.out, HF.out, HGF.out⟩

end Go.Proofs.YtjijagnpcmonbaaDoor.J

/-
  digraph: the law's pick and awake.
-/
namespace Go.Proofs.YtjijagnpcmonbaaDoor.J
open Go.RowKit Go.Maps Go.Shelf D

attribute [local go_sem] Oper.semAt_some

/-- Which of n things a raw number speaks of. -/
def pickN (c : Int) (n : Nat) : Nat := ((if c < 0 then -(c + 1) else c) % (n : Int)).toNat
/-- Lists of nodes, as they are read. -/
theorem CqP.ls {X : World} {B : Nat} {ka : Option Addr} {kc K : Nat} {Q : Nat → List Nat} {ua : Nat → Option Addr} {uc : Nat → Nat} (h : CqP X B ka kc K Q ua uc) : LsAt X ka K (fun i => intL (Q i)) ua uc := by
  refine ⟨?_, fun i hi => ?_⟩
  · by_cases e : K = 0
    · exact .inl e
    · obtain ⟨g, c, hg, hc⟩ := owns_at h.out (by omega)
      simp only [Value.slice.injEq] at hg
      refine .inr ⟨g, hg.1, fun i hi => ?_⟩
      rw [intL_length]
      exact hc i _ (rowsC_at Q ua uc hi)
  · by_cases e : Q i = []
    · exact .inl (show intL (Q i) = [] by rw [e]; rfl)
    · obtain ⟨g, c, hg, hc⟩ := owns_at (h.inn i hi) (List.length_pos_iff.2 e)
      simp only [Value.slice.injEq] at hg
      refine .inr ⟨g, 0, hg.1, fun j hj => ?_⟩
      rw [intL_length] at hj
      rw [intL_at, Nat.zero_add]
      exact hc j _ (natV_at (Q i) j hj)

/-- A literal row of numbers. -/
theorem ints_lit {X : World} {b : Nat} (l : List Nat) (h : X.heap[b]? = some (.cells (natV l).toArray 3 (0, 0))) : IntsAt X (some ⟨b, 0, none⟩) (intL l) := by
  refine .inr ⟨b, 0, rfl, fun j hj => ?_⟩
  rw [intL_length] at hj
  rw [intL_at, cell_of_row _ _ _ _ _ _ h, Nat.zero_add]
  simpa using natV_at l j hj
/-- Literal rows, and the row of them. -/
theorem ls_lit {X : World} {k : Nat} (L : List (List Nat)) (U : List (Option Addr)) (C : List Nat) (h : X.heap[k]? = some (.cells ((List.range L.length).map fun i => Value.slice (U.getD i none) (L.getD i []).length (C.getD i 0)).toArray 28 (0, 0))) (hi : ∀ i, i < L.length → L.getD i [] = [] ∨ ∃ b, U.getD i none = some ⟨b, 0, none⟩ ∧ X.heap[b]? = some (.cells (natV (L.getD i [])).toArray 3 (0, 0))) : LsAt X (some ⟨k, 0, none⟩) L.length (fun i => intL (L.getD i [])) (fun i => U.getD i none) (fun i => C.getD i 0) := by
  refine ⟨.inr ⟨k, rfl, fun i hl => ?_⟩, fun i hl => ?_⟩
  · rw [intL_length, cell_of_row _ _ _ _ _ _ h]
    simp [hl]
  · rcases hi i hl with h1 | ⟨b, h1, h2⟩
    · exact .inl (show intL (L.getD i []) = [] by rw [h1]; rfl)
    · show IntsAt X (U.getD i none) (intL (L.getD i []))
      rw [h1]; exact ints_lit _ h2

theorem ga_new {w : World} {o : Obj} {k : Nat} (h : k = w.heap.size) : (w.alloc o).heap[k]? = some o := by
  subst h; exact heap_alloc_last w o
theorem ga_old {w : World} {o x : Obj} {k : Nat} (h : w.heap[k]? = some x) : (w.alloc o).heap[k]? = some x :=
  ((World.grownBy_alloc w o none).block k (Array.getElem?_eq_some_iff.1 h).1 (by simp)).trans h
theorem LsAt.ext {X : World} {a : Option Addr} {N : Nat} {Q Q' : Nat → List Int} {ua ua' : Nat → Option Addr} {uc uc' : Nat → Nat} (h : LsAt X a N Q ua uc) (e : ∀ i, i < N → Q i = Q' i ∧ ua i = ua' i ∧ uc i = uc' i) : LsAt X a N Q' ua' uc' := by
  refine ⟨?_, fun i hi => ?_⟩
  · rcases h.1 with h1 | ⟨k, e1, h1⟩
    · exact .inl h1
    · refine .inr ⟨k, e1, fun i hi => ?_⟩
      obtain ⟨e2, e3, e4⟩ := e i hi
      rw [← e2, ← e3, ← e4]
      exact h1 i hi
  · obtain ⟨e2, e3, e4⟩ := e i hi
    rw [← e2, ← e3]
    exact h.2 i hi

/-- The example's rows. -/
theorem exE_rows (i : Nat) : exE i = ([[1], [2], [1], []] : List (List Nat)).getD i [] := by
  match i with
  | 0 => rfl
  | 1 => rfl
  | 2 => rfl
  | 3 => rfl
  | n + 4 => simp [exE]
theorem exO_rows (i : Nat) : exO i = intL (([[5], [7, 6], [], [8]] : List (List Nat)).getD i []) := by
  match i with
  | 0 => rfl
  | 1 => rfl
  | 2 => rfl
  | 3 => rfl
  | n + 4 => simp [exO, intL]
theorem ex_mem (mk : Nat → Nat) (h : ∀ x, x < 4 → mk x < 2 ^ 1024 ∧ ∀ b, (mk x).testBit b = true ↔ Gets exE exO x b) (i : Nat) (hi : i < 4) : memN (mk i) = ([[5, 6, 7], [6, 7], [6, 7], [8]] : List (List Nat)).getD i [] := by
  have hb := (h i hi).2
  have key : ∀ l : List Nat, l.Pairwise (· < ·) → (∀ b ∈ l, b < 9) → (∀ b, (mk i).testBit b = true ↔ b ∈ l) → memN (mk i) = l := fun l hp hl hm => by
    have h1 : memN (mk i) = (List.range 1024).filter fun b => decide (b ∈ l) := by
      unfold memN
      refine List.filter_congr fun b _ => ?_
      have := hm b
      by_cases e : b ∈ l
      · rw [this.2 e]; simp [e]
      · simp only [e, iff_false] at this; simp [e, this]
    rw [h1]
    have e : List.range 1024 = List.range' 0 9 ++ List.range' 9 1015 := by rw [List.range_eq_range', List.range'_append_1]
    rw [e, List.filter_append]
    have h2 : (List.range' 9 1015).filter (fun b => decide (b ∈ l)) = [] := by
      rw [List.filter_eq_nil_iff]
      intro b hb h
      have := hl b (by simpa using h)
      have := (List.mem_range'_1.1 hb).1
      omega
    rw [h2, List.append_nil]
    exact List.Perm.eq_of_pairwise (le := (· < ·)) (fun a b _ _ h1 h2 => by omega) ((List.pairwise_lt_range' (step := 1)).filter _) hp ((List.perm_ext_iff_of_nodup (((List.pairwise_lt_range' (step := 1)).imp fun h => Nat.ne_of_lt h).filter _) (hp.imp fun h => Nat.ne_of_lt h)).2 fun a => by
      simp only [List.mem_filter, List.mem_range'_1, decide_eq_true_eq]
      exact ⟨fun h => h.2, fun h => ⟨⟨Nat.zero_le _, by have := hl a h; omega⟩, h⟩⟩)
  refine key _ ?_ ?_ fun b => (hb b).trans (ex_gets i b hi)
  · match i, hi with
    | 0, _ => decide
    | 1, _ => decide
    | 2, _ => decide
    | 3, _ => decide
  · match i, hi with
    | 0, _ => decide
    | 1, _ => decide
    | 2, _ => decide
    | 3, _ => decide

/-- The example's relation, as it lies. -/
theorem ex_lsE {X : World} {b1 b2 b3 k : Nat} (h1 : X.heap[b1]? = some (.cells #[.int .i64 1] 3 (0, 0))) (h2 : X.heap[b2]? = some (.cells #[.int .i64 2] 3 (0, 0))) (h3 : X.heap[b3]? = some (.cells #[.int .i64 1] 3 (0, 0))) (hk : X.heap[k]? = some (.cells #[.slice (some ⟨b1, 0, none⟩) 1 1, .slice (some ⟨b2, 0, none⟩) 1 1, .slice (some ⟨b3, 0, none⟩) 1 1, .slice none 0 0] 28 (0, 0))) : LsAt X (some ⟨k, 0, none⟩) 4 (fun i => intL (exE i)) (fun i => [some ⟨b1, 0, none⟩, some ⟨b2, 0, none⟩, some ⟨b3, 0, none⟩, none].getD i none) (fun i => [1, 1, 1, 0].getD i 0) := by
  refine (ls_lit [[1], [2], [1], []] [some ⟨b1, 0, none⟩, some ⟨b2, 0, none⟩, some ⟨b3, 0, none⟩, none] [1, 1, 1, 0] hk fun i hi => ?_).ext fun i _ => ⟨by rw [exE_rows], rfl, rfl⟩
  match i, hi with
  | 0, _ => exact .inr ⟨b1, rfl, h1⟩
  | 1, _ => exact .inr ⟨b2, rfl, h2⟩
  | 2, _ => exact .inr ⟨b3, rfl, h3⟩
  | 3, _ => exact .inl rfl
theorem ex_lsO {X : World} {b1 b2 b3 k : Nat} (h1 : X.heap[b1]? = some (.cells #[.int .i64 5] 3 (0, 0))) (h2 : X.heap[b2]? = some (.cells #[.int .i64 7, .int .i64 6] 3 (0, 0))) (h3 : X.heap[b3]? = some (.cells #[.int .i64 8] 3 (0, 0))) (hk : X.heap[k]? = some (.cells #[.slice (some ⟨b1, 0, none⟩) 1 1, .slice (some ⟨b2, 0, none⟩) 2 2, .slice none 0 0, .slice (some ⟨b3, 0, none⟩) 1 1] 28 (0, 0))) : LsAt X (some ⟨k, 0, none⟩) 4 exO (fun i => [some ⟨b1, 0, none⟩, some ⟨b2, 0, none⟩, none, some ⟨b3, 0, none⟩].getD i none) (fun i => [1, 2, 0, 1].getD i 0) := by
  refine (ls_lit [[5], [7, 6], [], [8]] [some ⟨b1, 0, none⟩, some ⟨b2, 0, none⟩, none, some ⟨b3, 0, none⟩] [1, 2, 0, 1] hk fun i hi => ?_).ext fun i _ => ⟨by rw [exO_rows], rfl, rfl⟩
  match i, hi with
  | 0, _ => exact .inr ⟨b1, rfl, h1⟩
  | 1, _ => exact .inr ⟨b2, rfl, h2⟩
  | 2, _ => exact .inl rfl
  | 3, _ => exact .inr ⟨b3, rfl, h3⟩
theorem ex_ls3 {X : World} {b1 b2 b3 k : Nat} (h1 : X.heap[b1]? = some (.cells #[.int .i64 0] 3 (0, 0))) (h2 : X.heap[b2]? = some (.cells #[.int .i64 1, .int .i64 2] 3 (0, 0))) (h3 : X.heap[b3]? = some (.cells #[.int .i64 3] 3 (0, 0))) (hk : X.heap[k]? = some (.cells #[.slice (some ⟨b1, 0, none⟩) 1 1, .slice (some ⟨b2, 0, none⟩) 2 2, .slice (some ⟨b3, 0, none⟩) 1 1] 28 (0, 0))) : LsAt X (some ⟨k, 0, none⟩) 3 (fun i => intL (([[0], [1, 2], [3]] : List (List Nat)).getD i [])) (fun i => [some ⟨b1, 0, none⟩, some ⟨b2, 0, none⟩, some ⟨b3, 0, none⟩].getD i none) (fun i => [1, 2, 1].getD i 0) := by
  refine ls_lit [[0], [1, 2], [3]] [some ⟨b1, 0, none⟩, some ⟨b2, 0, none⟩, some ⟨b3, 0, none⟩] [1, 2, 1] hk fun i hi => ?_
  match i, hi with
  | 0, _ => exact .inr ⟨b1, rfl, h1⟩
  | 1, _ => exact .inr ⟨b2, rfl, h2⟩
  | 2, _ => exact .inr ⟨b3, rfl, h3⟩
theorem ex_ls4 {X : World} {b1 b2 b3 b4 k : Nat} (h1 : X.heap[b1]? = some (.cells #[.int .i64 5, .int .i64 6, .int .i64 7] 3 (0, 0))) (h2 : X.heap[b2]? = some (.cells #[.int .i64 6, .int .i64 7] 3 (0, 0))) (h3 : X.heap[b3]? = some (.cells #[.int .i64 6, .int .i64 7] 3 (0, 0))) (h4 : X.heap[b4]? = some (.cells #[.int .i64 8] 3 (0, 0))) (hk : X.heap[k]? = some (.cells #[.slice (some ⟨b1, 0, none⟩) 3 3, .slice (some ⟨b2, 0, none⟩) 2 2, .slice (some ⟨b3, 0, none⟩) 2 2, .slice (some ⟨b4, 0, none⟩) 1 1] 28 (0, 0))) : LsAt X (some ⟨k, 0, none⟩) 4 (fun i => intL (([[5, 6, 7], [6, 7], [6, 7], [8]] : List (List Nat)).getD i [])) (fun i => [some ⟨b1, 0, none⟩, some ⟨b2, 0, none⟩, some ⟨b3, 0, none⟩, some ⟨b4, 0, none⟩].getD i none) (fun i => [3, 2, 2, 1].getD i 0) := by
  refine ls_lit [[5, 6, 7], [6, 7], [6, 7], [8]] [some ⟨b1, 0, none⟩, some ⟨b2, 0, none⟩, some ⟨b3, 0, none⟩, some ⟨b4, 0, none⟩] [3, 2, 2, 1] hk fun i hi => ?_
  match i, hi with
  | 0, _ => exact .inr ⟨b1, rfl, h1⟩
  | 1, _ => exact .inr ⟨b2, rfl, h2⟩
  | 2, _ => exact .inr ⟨b3, rfl, h3⟩
  | 3, _ => exact .inr ⟨b4, rfl, h4⟩

theorem exE_lt (x : Nat) (_ : x < 4) (y : Nat) (hy : y ∈ exE x) : y < 4 := by
  match x, hy with
  | 0, hy => have : y = 1 := by simpa [exE] using hy
             omega
  | 1, hy => have : y = 2 := by simpa [exE] using hy
             omega
  | 2, hy => have : y = 1 := by simpa [exE] using hy
             omega
  | n + 3, hy => simp [exE] at hy
theorem exE_len (x : Nat) : (exE x).length ≤ 17592186044416 := by
  match x with
  | 0 => decide
  | 1 => decide
  | 2 => decide
  | n + 3 => simp [exE]
theorem exO_len (x : Nat) : (exO x).length ≤ 17592186044416 := by
  match x with
  | 0 => decide
  | 1 => decide
  | 2 => decide
  | 3 => decide
  | n + 4 => simp [exO]
theorem exO_lt (x : Nat) (v : Int) (hv : v ∈ exO x) : 0 ≤ v ∧ v < 1024 := by
  match x, hv with
  | 0, hv => have : v = 5 := by simpa [exO] using hv
             omega
  | 1, hv => have : v = 7 ∨ v = 6 := by simpa [exO] using hv
             omega
  | 2, hv => simp [exO] at hv
  | 3, hv => have : v = 8 := by simpa [exO] using hv
             omega
  | n + 4, hv => simp [exO] at hv

set_option maxRecDepth 100000 in
set_option maxHeartbeats 2000000 in
theorem dawake_any (w : World) (hT : B.Tab w) (h0 : 0 < w.heap.size) : Calls Tryd.prog 9 #[] w fun e w' => e = .returned (.bool true) ∧ w.grownBy w' none := by
  have HTB : Hid (∀ X, w.grownBy X none → B.Tab X ∧ 0 < X.heap.size) := fun X hX => ⟨tab_kept hT hX, Nat.lt_of_lt_of_le h0 hX.size⟩
  clear hT h0
  go_enter Tryd.func9, Tryd.ntmps9
  go_wp2_with fail
  refine Calls.mono (comp_ok _ 4 _ 4 exE _ _ (ex_lsE (b1 := w.heap.size) (b2 := w.heap.size + 1) (b3 := w.heap.size + 1 + 1) (by repeat (first | (refine ga_new ?_; simp; done) | apply ga_old)) (by repeat (first | (refine ga_new ?_; simp; done) | apply ga_old)) (by repeat (first | (refine ga_new ?_; simp; done) | apply ga_old)) (by repeat (first | (refine ga_new ?_; simp; done) | apply ga_old))) (by decide) (fun i _ => exE_len i) exE_lt) ?_
  rintro e w1 ⟨ls, ka, kc, K, Q, ua, uc, rfl, hK, hQ, hls, hL, hg⟩
  have hg1 : w.grownBy w1 none := grown_trans (grown_trans (grown_trans (grown_trans (World.grownBy_alloc _ _ none) (World.grownBy_alloc _ _ none)) (World.grownBy_alloc _ _ none)) (World.grownBy_alloc _ _ none)) hg
  have hc := ex_cmp ls hls
  rw [hc] at hK hQ
  have hK3 : K = 3 := hK
  subst hK3
  have HL1 : Hid (LsAt w1 ka 3 (fun i => intL (([[0], [1, 2], [3]] : List (List Nat)).getD i [])) ua uc) := hL.ls.ext fun i hi => ⟨by rw [hQ i hi], rfl, rfl⟩
  have HG1 := show Hid _ from hg1
  clear hK hQ hls hL hg hg1 hc
  go_wp2_with fail
  refine Calls.mono (sol_ok _ 4 _ _ 4 4 exE exO _ _ _ _ (ex_lsE (b1 := w1.heap.size) (b2 := w1.heap.size + 1) (b3 := w1.heap.size + 1 + 1) (by repeat (first | (refine ga_new ?_; simp; done) | apply ga_old)) (by repeat (first | (refine ga_new ?_; simp; done) | apply ga_old)) (by repeat (first | (refine ga_new ?_; simp; done) | apply ga_old)) (by repeat (first | (refine ga_new ?_; simp; done) | apply ga_old))) (ex_lsO (b1 := w1.heap.size + 1 + 1 + 1 + 1) (b2 := w1.heap.size + 1 + 1 + 1 + 1 + 1) (b3 := w1.heap.size + 1 + 1 + 1 + 1 + 1 + 1) (by repeat (first | (refine ga_new ?_; simp; done) | apply ga_old)) (by repeat (first | (refine ga_new ?_; simp; done) | apply ga_old)) (by repeat (first | (refine ga_new ?_; simp; done) | apply ga_old)) (by repeat (first | (refine ga_new ?_; simp; done) | apply ga_old))) (by decide) (fun i _ => exE_len i) (fun i _ => exO_len i) exE_lt (fun x _ => exO_lt x) (HTB.out _ (grown_trans HG1.out (grown_trans (grown_trans (grown_trans (grown_trans (grown_trans (grown_trans (grown_trans (World.grownBy_alloc _ _ none) (World.grownBy_alloc _ _ none)) (World.grownBy_alloc _ _ none)) (World.grownBy_alloc _ _ none)) (World.grownBy_alloc _ _ none)) (World.grownBy_alloc _ _ none)) (World.grownBy_alloc _ _ none)) (World.grownBy_alloc _ _ none)))).1 (HTB.out _ (grown_trans HG1.out (grown_trans (grown_trans (grown_trans (grown_trans (grown_trans (grown_trans (grown_trans (World.grownBy_alloc _ _ none) (World.grownBy_alloc _ _ none)) (World.grownBy_alloc _ _ none)) (World.grownBy_alloc _ _ none)) (World.grownBy_alloc _ _ none)) (World.grownBy_alloc _ _ none)) (World.grownBy_alloc _ _ none)) (World.grownBy_alloc _ _ none)))).2) ?_
  rintro e w2 ⟨rb, mk, ua2, uc2, rfl, hm, hL, hg⟩
  have hg2 : w1.grownBy w2 none := grown_trans (grown_trans (grown_trans (grown_trans (grown_trans (grown_trans (grown_trans (grown_trans (World.grownBy_alloc _ _ none) (World.grownBy_alloc _ _ none)) (World.grownBy_alloc _ _ none)) (World.grownBy_alloc _ _ none)) (World.grownBy_alloc _ _ none)) (World.grownBy_alloc _ _ none)) (World.grownBy_alloc _ _ none)) (World.grownBy_alloc _ _ none)) hg
  have HL2 : Hid (LsAt w2 (some ⟨rb, 0, none⟩) 4 (fun i => intL (([[5, 6, 7], [6, 7], [6, 7], [8]] : List (List Nat)).getD i [])) ua2 uc2) := hL.ls.ext fun i hi => ⟨by rw [ex_mem mk hm i hi], rfl, rfl⟩
  have HL1b : Hid (LsAt w2 ka 3 (fun i => intL (([[0], [1, 2], [3]] : List (List Nat)).getD i [])) ua uc) := HL1.out.kept hg2
  have HG2 : Hid (w.grownBy w2 none) := grown_trans HG1.out hg2
  clear hm hL hg hg2 HL1 HG1
  go_wp2_with fail
  refine Calls.mono (lists_same _ _ _ _ 3 _ _ _ _ _ _ (HL1b.out.kept (grown_trans (grown_trans (grown_trans (World.grownBy_alloc _ _ none) (World.grownBy_alloc _ _ none)) (World.grownBy_alloc _ _ none)) (World.grownBy_alloc _ _ none))) (ex_ls3 (b1 := w2.heap.size) (b2 := w2.heap.size + 1) (b3 := w2.heap.size + 1 + 1) (by repeat (first | (refine ga_new ?_; simp; done) | apply ga_old)) (by repeat (first | (refine ga_new ?_; simp; done) | apply ga_old)) (by repeat (first | (refine ga_new ?_; simp; done) | apply ga_old)) (by repeat (first | (refine ga_new ?_; simp; done) | apply ga_old))) (by decide) (fun i => ?_)) ?_
  · rw [intL_length]
    match i with
    | 0 => decide
    | 1 => decide
    | 2 => decide
    | n + 3 => simp
  rintro e w3 ⟨rfl, hg⟩
  have hg3 : w2.grownBy w3 none := grown_trans (grown_trans (grown_trans (grown_trans (World.grownBy_alloc _ _ none) (World.grownBy_alloc _ _ none)) (World.grownBy_alloc _ _ none)) (World.grownBy_alloc _ _ none)) hg
  have HL2b : Hid (LsAt w3 (some ⟨rb, 0, none⟩) 4 (fun i => intL (([[5, 6, 7], [6, 7], [6, 7], [8]] : List (List Nat)).getD i [])) ua2 uc2) := HL2.out.kept hg3
  have HG3 : Hid (w.grownBy w3 none) := grown_trans HG2.out hg3
  clear hg hg3 HL2 HG2 HL1b
  go_wp2_with fail
  refine Calls.mono (lists_same _ _ _ _ 4 _ _ _ _ _ _ (HL2b.out.kept (grown_trans (grown_trans (grown_trans (grown_trans (World.grownBy_alloc _ _ none) (World.grownBy_alloc _ _ none)) (World.grownBy_alloc _ _ none)) (World.grownBy_alloc _ _ none)) (World.grownBy_alloc _ _ none))) (ex_ls4 (b1 := w3.heap.size) (b2 := w3.heap.size + 1) (b3 := w3.heap.size + 1 + 1) (b4 := w3.heap.size + 1 + 1 + 1) (by repeat (first | (refine ga_new ?_; simp; done) | apply ga_old)) (by repeat (first | (refine ga_new ?_; simp; done) | apply ga_old)) (by repeat (first | (refine ga_new ?_; simp; done) | apply ga_old)) (by repeat (first | (refine ga_new ?_; simp; done) | apply ga_old)) (by repeat (first | (refine ga_new ?_; simp; done) | apply ga_old))) (by decide) (fun i => ?_)) ?_
  · rw [intL_length]
    match i with
    | 0 => decide
    | 1 => decide
    | 2 => decide
    | 3 => decide
    | n + 4 => simp
  rintro e w4 ⟨rfl, hg⟩
  have HG4 : Hid (w.grownBy w4 none) := grown_trans HG3.out (grown_trans (grown_trans (grown_trans (grown_trans (grown_trans (World.grownBy_alloc _ _ none) (World.grownBy_alloc _ _ none)) (World.grownBy_alloc _ _ none)) (World.grownBy_alloc _ _ none)) (World.grownBy_alloc _ _ none)) hg)
  clear hg HL2b HG3
  go_wp2_with fail
  go_ret
  exact ⟨rfl, HG4.out⟩

end Go.Proofs.YtjijagnpcmonbaaDoor.J

/-
  digraph: lists made of raw steps, pure and in memory.
-/
namespace Go.Proofs.YtjijagnpcmonbaaDoor.J
open Go.RowKit Go.Maps Go.Shelf D

/-- The lists that the first k raw steps make. -/
def mkL (n m : Nat) (P : List It) (k : Nat) : Nat → List Nat := fun a => ((P.take k).filter fun p => decide (pickN p.1 n = a)).map fun p => pickN p.2 m
/-- Raw steps within a machine's numbers. -/
def InR (P : List It) : Prop := ∀ i, i < P.length → (-9223372036854775808 ≤ (P.getD i (0, 0)).1 ∧ (P.getD i (0, 0)).1 ≤ 9223372036854775807) ∧ (-9223372036854775808 ≤ (P.getD i (0, 0)).2 ∧ (P.getD i (0, 0)).2 ≤ 9223372036854775807)

/-- A row that was made holds empty lists. -/
theorem CqP.made {X : World} {B rb n : Nat} (h : ValAt X rb n 28 (fun _ => .slice none 0 0)) (hB : B ≤ rb) (hn : n ≤ maxLen) : CqP X B (some ⟨rb, 0, none⟩) n n (fun _ => []) (fun _ => none) (fun _ => 0) := by
  refine ⟨⟨by rw [rowsC_length, Nat.mul_one], .inr ⟨rb, n, _, rfl, hB, h, Nat.le_refl _, hn, by simp, ?_⟩⟩, fun j _ => World.ownsRow_nil _ _ _ _, fun _ _ _ _ _ => .inl rfl⟩
  rw [Nat.mul_one, List.take_of_length_le (by simp)]
  rfl
theorem CqP.ext {X : World} {B : Nat} {ka : Option Addr} {kc K : Nat} {Q Q' : Nat → List Nat} {ua : Nat → Option Addr} {uc : Nat → Nat} (h : CqP X B ka kc K Q ua uc) (e : ∀ i, i < K → Q i = Q' i) : CqP X B ka kc K Q' ua uc := by
  refine ⟨?_, fun j hj => by rw [← e j hj]; exact h.inn j hj, fun i j hi hj hne => by rw [← e i hi, ← e j hj]; exact h.sep i j hi hj hne⟩
  have : rowsC K Q' ua uc = rowsC K Q ua uc := by
    unfold rowsC
    exact List.map_congr_left fun i hi => by rw [e i (List.mem_range.1 hi)]
  rw [this]
  exact h.out

/-- What made, what own tells. -/
def MadeTold (w : World) (n : Nat) (Q : Nat → List Nat) (e : Ending) (y : World) : Prop := ∃ kb ua uc, e = .returned (.slice (some ⟨kb, 0, none⟩) n n) ∧ CqP y w.heap.size (some ⟨kb, 0, none⟩) n n Q ua uc ∧ w.grownBy y none

end Go.Proofs.YtjijagnpcmonbaaDoor.J

/-
  digraph: three rows of numbers beside each other, and marks below them.
-/
namespace Go.Proofs.YtjijagnpcmonbaaDoor.J
open Go.RowKit Go.Maps Go.Shelf D

/-- Rows of numbers, each in a block of its own. -/
structure TrP (X : World) (B n : Nat) (Q : Nat → List Nat) (ua : Nat → Option Addr) (uc : Nat → Nat) : Prop where
  inn : ∀ j, j < n → X.ownsRow B 3 1 (.slice (ua j) (Q j).length (uc j)) (Q j).length (natV (Q j))
  sep : ∀ i j, i < n → j < n → i ≠ j → (Value.slice (ua i) (Q i).length (uc i)).ownBlock = none ∨ (Value.slice (ua i) (Q i).length (uc i)).ownBlock ≠ (Value.slice (ua j) (Q j).length (uc j)).ownBlock
section
variable {X Y : World} {B n : Nat} {Q : Nat → List Nat} {ua : Nat → Option Addr} {uc : Nat → Nat}
theorem TrP.kept (h : TrP X B n Q ua uc) (hg : X.grownBy Y none) : TrP Y B n Q ua uc := ⟨fun j hj => keep0 (h.inn j hj) hg, h.sep⟩
/-- A block below B turns. -/
theorem TrP.below {b : Nat} (h : TrP X B n Q ua uc) (hg : X.grownBy Y (some b)) (hb : b < B) : TrP Y B n Q ua uc := ⟨fun j hj => (h.inn j hj).kept hg (by
  cases hv : (Value.slice (ua j) (Q j).length (uc j)).ownBlock with
  | none => exact .inl rfl
  | some g =>
    right
    intro e2
    have := ((h.inn j hj).lt g hv).1
    have e3 : g = b := by simpa using e2
    omega), h.sep⟩
/-- One of the rows turns. -/
theorem TrP.turn {f c' m : Nat} {a' : Option Addr} {L' : List Nat} (h : TrP X B n Q ua uc) (hf : f < n) (hm : m = L'.length) (hg : X.grownBy Y (Value.slice (ua f) (Q f).length (uc f)).ownBlock) (ho : Y.ownsRow B 3 1 (.slice a' m c') m (natV L')) (hat : ∀ g, (Value.slice a' m c').ownBlock = some g → (Value.slice (ua f) (Q f).length (uc f)).ownBlock = some g ∨ X.heap.size ≤ g) : TrP Y B n (updC Q f L') (updC ua f a') (updC uc f c') := by
  subst hm
  have key : ∀ k, k < n → k ≠ f → ∀ g, (Value.slice a' L'.length c').ownBlock = some g → (Value.slice (ua k) (Q k).length (uc k)).ownBlock ≠ some g := fun k hk e g hgg h2 => by
    rcases hat g hgg with h1 | h1
    · rcases h.sep k f hk hf e with h3 | h3
      · rw [h3] at h2; cases h2
      · exact h3 (h2.trans h1.symm)
    · have := ((h.inn k hk).lt g h2).2
      omega
  refine ⟨fun j hj => ?_, fun i j hi hj e => ?_⟩
  · by_cases e : j = f
    · subst e
      rw [updC_same, updC_same, updC_same]
      exact ho
    · rw [updC_other _ _ e, updC_other _ _ e, updC_other _ _ e]
      exact (h.inn j hj).kept hg (h.sep j f hj hf e)
  · by_cases e1 : i = f
    · subst e1
      have e2 : j ≠ i := fun h => e h.symm
      rw [updC_same, updC_same, updC_same, updC_other _ _ e2, updC_other _ _ e2, updC_other _ _ e2]
      cases hv : (Value.slice a' L'.length c').ownBlock with
      | none => exact .inl rfl
      | some g => exact .inr fun h2 => key j hj e2 g hv h2.symm
    · rw [updC_other _ _ e1, updC_other _ _ e1, updC_other _ _ e1]
      by_cases e2 : j = f
      · subst e2
        rw [updC_same, updC_same, updC_same]
        cases hv : (Value.slice (ua i) (Q i).length (uc i)).ownBlock with
        | none => exact .inl rfl
        | some g =>
          refine .inr fun h2 => ?_
          exact key i hi e1 g h2.symm hv
      · rw [updC_other _ _ e2, updC_other _ _ e2, updC_other _ _ e2]
        exact h.sep i j hi hj e
theorem updC_self {α : Type} (f : Nat → α) (k : Nat) : updC f k (f k) = f := by
  funext i
  by_cases e : i = k
  · subst e; rw [updC_same]
  · rw [updC_other _ _ e]
/-- A row is cut. -/
theorem TrP.cut {f m : Nat} (h : TrP X B n Q ua uc) (hf : f < n) (hm : m ≤ (Q f).length) : TrP X B n (updC Q f ((Q f).take m)) ua uc := by
  have hnil := (owns_bounds (h.inn f hf)).2
  have h1 := owns_take (m := m) (h.inn f hf) hm (fun e => by have := (hnil e).1; omega)
  have e : (natV (Q f)).take (m * 1) = natV ((Q f).take m) := by unfold natV; rw [Nat.mul_one, List.map_take]
  rw [e] at h1
  have hml : m = ((Q f).take m).length := by rw [List.length_take]; omega
  have h2 := h.turn (Y := X) (L' := (Q f).take m) hf hml ⟨rfl, rfl, rfl, Nat.le_refl _, fun _ _ _ => rfl⟩ h1 (fun g hg => .inl (by
    cases hu : ua f with
    | none => rw [hu] at hg; simp [Value.ownBlock] at hg
    | some a => rw [hu] at hg; simpa [Value.ownBlock] using hg))
  have e1 : updC ua f (ua f) = ua := updC_self ua f
  have e2 : updC uc f (uc f) = uc := updC_self uc f
  rw [e1, e2] at h2
  exact h2
end
/-- Numbers and rows of them stay where marks turn. -/
theorem LsAt.marks {X Y : World} {a : Option Addr} {N sb m : Nat} {Q : Nat → List Int} {ua : Nat → Option Addr} {uc : Nat → Nat} {c : Nat → Bool} (h : LsAt X a N Q ua uc) (hb : ValAt X sb m 4 (fun i => .bool (c i))) (hg : X.grownBy Y (some sb)) : LsAt Y a N Q ua uc := by
  have key : ∀ (k j : Nat) (v : Value), X.cell? ⟨k, j, none⟩ = some v → (∀ b, v ≠ .bool b) → Y.cell? ⟨k, j, none⟩ = some v := fun k j v hv hne => by
    refine hg.cell hv ?_
    intro e
    have e2 : k = sb := by simpa using e
    subst e2
    rw [cell_of_row _ _ _ _ _ _ hb] at hv
    by_cases hj : j < m
    · have : v = .bool (c j) := by simpa [hj] using hv.symm
      exact hne _ this
    · simp [hj] at hv
  refine ⟨?_, fun i hi => ?_⟩
  · rcases h.1 with h1 | ⟨k, e, h1⟩
    · exact .inl h1
    · exact .inr ⟨k, e, fun i hi => key _ _ _ (h1 i hi) (fun b e => by cases e)⟩
  · rcases h.2 i hi with h1 | ⟨k, o, e, h1⟩
    · exact .inl h1
    · exact .inr ⟨k, o, e, fun j hj => key _ _ _ (h1 j hj) (fun b e => by cases e)⟩
theorem grown_newS {w X Y : World} {sb g : Nat} (h : w.grownBy X (some sb)) (k : X.grownBy Y (some g)) (hg : w.heap.size ≤ g) : w.grownBy Y (some sb) :=
  ⟨k.os.trans h.os, k.tape.trans h.tape, k.output.trans h.output, Nat.le_trans h.size k.size, fun i hi hne => (k.block i (Nat.lt_of_lt_of_le hi h.size) (by
    intro e
    have : i = g := by simpa using e
    omega)).trans (h.block i hi hne)⟩
theorem grown_rowS {w X Y : World} {sb B e s n : Nat} {v : Value} {xs : List Value} (h : w.grownBy X (some sb)) (ho : X.ownsRow B e s v n xs) (hB : w.heap.size ≤ B) (hg : X.grownBy Y v.ownBlock) : w.grownBy Y (some sb) := by
  cases hv : v.ownBlock with
  | none => rw [hv] at hg; exact grown_trans h (grown_but _ hg)
  | some g => rw [hv] at hg; exact grown_newS h hg (Nat.le_trans hB (ho.lt g hv).1)
theorem grown_keepS {w X Y : World} {sb : Nat} (h : w.grownBy X (some sb)) (k : X.grownBy Y none) : w.grownBy Y (some sb) := grown_trans h (grown_but _ k)
theorem TrP.ext {X : World} {B n : Nat} {Q Q' : Nat → List Nat} {ua : Nat → Option Addr} {uc : Nat → Nat} (h : TrP X B n Q ua uc) (e : ∀ j, j < n → Q j = Q' j) : TrP X B n Q' ua uc :=
  ⟨fun j hj => by rw [← e j hj]; exact h.inn j hj, fun i j hi hj hne => by rw [← e i hi, ← e j hj]; exact h.sep i j hi hj hne⟩
/-- How much is left to be gone: of what was not seen, of what stands on the stack. -/
def wU (E : Nat → List Nat) (S : Nat → Bool) : Nat → Nat
  | 0 => 0
  | n + 1 => wU E S n + (if S n = true then 0 else (E n).length + 1)
def wS (E : Nat → List Nat) (st : List (Nat × Nat)) : Nat := (st.map fun f => (E f.1).length - f.2 + 1).sum
theorem wU_out (E : Nat → List Nat) (S : Nat → Bool) (x : Nat) : ∀ n, n ≤ x → wU E (markT S x) n = wU E S n
  | 0, _ => rfl
  | n + 1, h => by
    have e : markT S x n = S n := by unfold markT; rw [if_neg (by omega)]
    simp only [wU, wU_out E S x n (by omega), e]
theorem wU_mark (E : Nat → List Nat) (S : Nat → Bool) (x : Nat) (hS : S x = false) : ∀ n, x < n → wU E (markT S x) n + ((E x).length + 1) = wU E S n
  | 0, h => by omega
  | n + 1, h => by
    by_cases e : x = n
    · subst e
      have e1 : markT S x x = true := by simp [markT]
      simp [wU, wU_out E S x x (Nat.le_refl _), e1, hS]
    · have e1 : markT S x n = S n := by unfold markT; rw [if_neg (fun h => e h.symm)]
      have ih := wU_mark E S x hS n (by omega)
      simp only [wU, e1]
      omega

end Go.Proofs.YtjijagnpcmonbaaDoor.J

/-
  digraph: lists of numbers in memory whose outer row may lie in the midst of a block.
-/
namespace Go.Proofs.YtjijagnpcmonbaaDoor.J
open Go.RowKit Go.Maps Go.Shelf

attribute [local go_sem] Oper.semAt_some

/-- Lists of numbers in memory, wherever they lie. -/
def LwAt (X : World) (a : Option Addr) (N : Nat) (Q : Nat → List Int) (ua : Nat → Option Addr) (uc : Nat → Nat) : Prop := (N = 0 ∨ ∃ k off, a = some ⟨k, off, none⟩ ∧ ∀ i, i < N → X.cell? ⟨k, off + i, none⟩ = some (.slice (ua i) (Q i).length (uc i))) ∧ ∀ i, i < N → IntsAt X (ua i) (Q i)
section
variable {X Y : World} {a : Option Addr} {N : Nat} {Q : Nat → List Int} {ua : Nat → Option Addr} {uc : Nat → Nat}
theorem LsAt.lw (h : LsAt X a N Q ua uc) : LwAt X a N Q ua uc := ⟨h.1.imp id fun ⟨k, e, h1⟩ => ⟨k, 0, e, fun i hi => by rw [Nat.zero_add]; exact h1 i hi⟩, h.2⟩
theorem LwAt.kept (h : LwAt X a N Q ua uc) (hg : X.grownBy Y none) : LwAt Y a N Q ua uc := by
  refine ⟨?_, fun i hi => (h.2 i hi).kept hg⟩
  rcases h.1 with h | ⟨k, o, e, h1⟩
  · exact .inl h
  · exact .inr ⟨k, o, e, fun i hi => hg.cell (h1 i hi) (by simp)⟩
theorem LwAt.marks {sb m : Nat} {c : Nat → Bool} (h : LwAt X a N Q ua uc) (hb : ValAt X sb m 4 (fun i => .bool (c i))) (hg : X.grownBy Y (some sb)) : LwAt Y a N Q ua uc := by
  have key : ∀ (k j : Nat) (v : Value), X.cell? ⟨k, j, none⟩ = some v → (∀ b, v ≠ .bool b) → Y.cell? ⟨k, j, none⟩ = some v := fun k j v hv hne => by
    refine hg.cell hv ?_
    intro e
    have e2 : k = sb := by simpa using e
    subst e2
    rw [cell_of_row _ _ _ _ _ _ hb] at hv
    by_cases hj : j < m
    · have : v = .bool (c j) := by simpa [hj] using hv.symm
      exact hne _ this
    · simp [hj] at hv
  refine ⟨?_, fun i hi => ?_⟩
  · rcases h.1 with h1 | ⟨k, o, e, h1⟩
    · exact .inl h1
    · exact .inr ⟨k, o, e, fun i hi => key _ _ _ (h1 i hi) (fun b e => by cases e)⟩
  · rcases h.2 i hi with h1 | ⟨k, o, e, h1⟩
    · exact .inl h1
    · exact .inr ⟨k, o, e, fun j hj => key _ _ _ (h1 j hj) (fun b e => by cases e)⟩
end

set_option maxRecDepth 100000 in
theorem lists_w (a1 a2 : Option Addr) (c1 c2 n : Nat) (Q : Nat → List Int) (u1 u2 : Nat → Option Addr) (k1 k2 : Nat → Nat) (w : World) (h1 : LwAt w a1 n Q u1 k1) (h2 : LwAt w a2 n Q u2 k2) (hn : n ≤ 1048576) (hQ : ∀ i, i < n → (Q i).length ≤ 17592186044416) :
    Calls Tryd.prog 8 #[.slice a1 n c1, .slice a2 n c2] w fun e y => e = .returned (.bool true) ∧ w.grownBy y none := by
  have H1 : Hid (∀ X, w.grownBy X none → LwAt X a1 n Q u1 k1 ∧ LwAt X a2 n Q u2 k2) := fun X hX => ⟨h1.kept hX, h2.kept hX⟩
  have HQ : Hid (∀ i, i < n → (Q i).length ≤ 17592186044416) := hQ
  have hnn : ((n : Int) != (n : Int)) = false := bne_self_eq_false _
  clear h1 h2 hQ
  go_enter Tryd.func8, Tryd.ntmps8
  go_wp2_with fail
  go_loopg [5] n (fun gk v5 wr => ∃ (j : Nat), j ≤ n ∧ gk = n - j ∧ v5 = .int .i64 j ∧ w.grownBy wr none)
  case atStart => exact ⟨0, Nat.zero_le _, rfl, rfl, grown_refl _ _⟩
  case round =>
    obtain ⟨j, hj, hgj, rfl, hg⟩ := hrel
    have HGJ : Hid (gk = n - j) := hgj
    have HG : Hid (w.grownBy wr none) := hg
    clear hgj hg
    by_cases hjl : j < n
    · obtain ⟨ab, ao, rfl, hc1⟩ : ∃ ab ao, a1 = some ⟨ab, ao, none⟩ ∧ wr.cell? ⟨ab, ao + j, none⟩ = some (.slice (u1 j) (Q j).length (k1 j)) := by
        rcases (H1.out wr HG.out).1.1 with h | ⟨k, ko, e, h⟩
        · omega
        · exact ⟨k, ko, e, h j hjl⟩
      obtain ⟨bb, bo, rfl, hc2⟩ : ∃ ab ao, a2 = some ⟨ab, ao, none⟩ ∧ wr.cell? ⟨ab, ao + j, none⟩ = some (.slice (u2 j) (Q j).length (k2 j)) := by
        rcases (H1.out wr HG.out).2.1 with h | ⟨k, ko, e, h⟩
        · omega
        · exact ⟨k, ko, e, h j hjl⟩
      have HIN : Hid (∀ X, wr.grownBy X none → Calls Tryd.prog 13 #[.slice (u1 j) (Q j).length (k1 j), .slice (u2 j) (Q j).length (k2 j)] X fun e y => e = .returned (.bool true) ∧ X.grownBy y none) := fun X hX => ints_same _ _ _ _ (Q j) X (((H1.out wr HG.out).1.2 j hjl).kept hX) (((H1.out wr HG.out).2.2 j hjl).kept hX) (HQ.out j hjl)
      obtain ⟨ql, hql⟩ : ∃ q, q = (Q j).length := ⟨_, rfl⟩
      rw [← hql] at HIN hc1 hc2
      have hj0 : (0 : Int) ≤ (j : Int) := by omega
      have hj1 : (j : Int) < (n : Int) := by omega
      have hjd : decide (j < n) = true := decide_eq_true hjl
      clear hql
      go_wp2_with fail
      have HUP : Hid (wr.grownBy wr.drew none) := grown_drewN wr 1
      have HKS : Hid (∀ X, wr.grownBy X none → X.cell? ⟨ab, ao + j, none⟩ = some (.slice (u1 j) ql (k1 j)) ∧ X.cell? ⟨bb, bo + j, none⟩ = some (.slice (u2 j) ql (k2 j))) := fun X hX => ⟨hX.cell hc1 (by simp), hX.cell hc2 (by simp)⟩
      go_region_held3 (fun X => X.cell? ⟨ab, ao + j, none⟩ = some (.slice (u1 j) ql (k1 j)) ∧ X.cell? ⟨bb, bo + j, none⟩ = some (.slice (u2 j) ql (k2 j))) (first | exact HKS.out _ HUP.out | exact HKS.out _ HG4.out | go_keep)
        ((first
          | (go_at_call 13; refine Calls.mono (HIN.out _ HUP.out) ?_; rintro e w3 ⟨rfl, hg3⟩; have HG4 : Hid (wr.grownBy w3 none) := grown_trans HUP.out hg3; clear hg3)
          | fail))
      have HG3 : Hid (w.grownBy w3 none) := grown_trans HG.out HG4.out
      clear hc1 hc2 HIN
      go_wp2_with fail
      go_roundg (n - (j + 1))
      case measure => have := HGJ.out; omega
      case rel => exact ⟨j + 1, by omega, rfl, by go_num, HG3.out⟩
    · have hjn : n = j := by omega
      subst hjn
      have hjd : decide (n < n) = false := decide_eq_false (by omega)
      go_wp2_with fail
      go_ret
      exact ⟨rfl, HG.out⟩


end Go.Proofs.YtjijagnpcmonbaaDoor.J

/-
  digraph: the law's made.
-/
namespace Go.Proofs.YtjijagnpcmonbaaDoor.J
open Go.RowKit Go.Maps Go.Shelf D

attribute [local go_sem] Oper.semAt_some

end Go.Proofs.YtjijagnpcmonbaaDoor.J

/-
  digraph: the law's own.
-/
namespace Go.Proofs.YtjijagnpcmonbaaDoor.J
open Go.RowKit Go.Maps Go.Shelf D

attribute [local go_sem] Oper.semAt_some

end Go.Proofs.YtjijagnpcmonbaaDoor.J

/-
  digraph: the law's lent: lists in memory of their own.
-/
namespace Go.Proofs.YtjijagnpcmonbaaDoor.J
open Go.RowKit Go.Maps Go.Shelf D

attribute [local go_sem] Oper.semAt_some

/-- Rows of numbers, as the cells that hold them. -/
def rowsZ (K : Nat) (Q : Nat → List Int) (ua : Nat → Option Addr) (uc : Nat → Nat) : List Value := (List.range K).map fun j => .slice (ua j) (Q j).length (uc j)
theorem rowsZ_at {K j : Nat} (Q : Nat → List Int) (ua : Nat → Option Addr) (uc : Nat → Nat) (hj : j < K) : (rowsZ K Q ua uc)[j]? = some (.slice (ua j) (Q j).length (uc j)) := by unfold rowsZ; simp [hj]
theorem rowsZ_snoc (K : Nat) (Q : Nat → List Int) (ua : Nat → Option Addr) (uc : Nat → Nat) (a : Option Addr) (c : Nat) : rowsZ (K + 1) Q (updC ua K a) (updC uc K c) = rowsZ K Q ua uc ++ [.slice a (Q K).length c] := by
  unfold rowsZ
  rw [List.range_succ, List.map_append]
  congr 1
  · refine List.map_congr_left fun j hj => ?_
    have : j ≠ K := by have := List.mem_range.1 hj; omega
    rw [updC_other _ _ this, updC_other _ _ this]
  · simp [updC_same]

/-- Lists under way: K of them. -/
structure LtP (X : World) (B : Nat) (ka : Option Addr) (kc K : Nat) (Q : Nat → List Int) (ua : Nat → Option Addr) (uc : Nat → Nat) : Prop where
  out : X.ownsRow B 28 1 (.slice ka K kc) K (rowsZ K Q ua uc)
  inn : ∀ j, j < K → X.ownsRow B 3 1 (.slice (ua j) (Q j).length (uc j)) (Q j).length ((Q j).map (Value.int .i64))
theorem add_off (b off j : Nat) : (⟨b, off, none⟩ : Addr).add j = ⟨b, off + j, none⟩ := by
  by_cases h0 : j = 0
  · simp [Addr.add, h0]
  · simp [Addr.add, h0]
theorem owned_ints {X : World} {B n c : Nat} {a : Option Addr} {l : List Int} (h : X.ownsRow B 3 1 (.slice a n c) n (l.map (Value.int .i64))) (hn : n = l.length) : IntsAt X a l := by
  by_cases e : l = []
  · exact .inl e
  · obtain ⟨g, c2, hg, hc⟩ := owns_at h (by rw [hn]; exact List.length_pos_iff.2 e)
    simp only [Value.slice.injEq] at hg
    refine .inr ⟨g, 0, hg.1, fun j hj => ?_⟩
    rw [Nat.zero_add]
    refine hc j _ ?_
    rw [List.getElem?_map, List.getD_eq_getElem?_getD, List.getElem?_eq_getElem hj]; rfl
theorem ints_src {X : World} {a : Option Addr} {l : List Int} (h : IntsAt X a l) : ∀ ad, a = some ad → ∀ j u, (l.map (Value.int .i64))[j]? = some u → X.cell? (ad.add j) = some u := by
  intro ad ha j u hu
  rw [List.getElem?_map] at hu
  cases hl : l[j]? with
  | none => rw [hl] at hu; cases hu
  | some x =>
    rw [hl] at hu
    have hj := (List.getElem?_eq_some_iff.1 hl).1
    rcases h with h | ⟨b, off, e, h⟩
    · rw [h] at hj; cases hj
    · rw [ha] at e
      have e2 : ad = ⟨b, off, none⟩ := by simpa using e
      have h3 := h j hj
      rw [List.getD_eq_getElem?_getD, hl] at h3
      rw [e2, add_off, h3]
      simpa using hu
theorem ints_one (l : List Int) : ∀ u ∈ l.map (Value.int .i64), u.oneCell' = true := fun u hu => by
  obtain ⟨x, _, rfl⟩ := List.mem_map.1 hu
  rfl
theorem LtP.ls {X : World} {B : Nat} {ka : Option Addr} {kc K : Nat} {Q : Nat → List Int} {ua : Nat → Option Addr} {uc : Nat → Nat} (h : LtP X B ka kc K Q ua uc) : LsAt X ka K Q ua uc := by
  refine ⟨?_, fun i hi => owned_ints (h.inn i hi) rfl⟩
  by_cases e : K = 0
  · exact .inl e
  · obtain ⟨g, c, hg, hc⟩ := owns_at h.out (by omega)
    simp only [Value.slice.injEq] at hg
    exact .inr ⟨g, hg.1, fun i hi => hc i _ (rowsZ_at Q ua uc hi)⟩
theorem LtP.kept {X Y : World} {B : Nat} {ka : Option Addr} {kc K : Nat} {Q : Nat → List Int} {ua : Nat → Option Addr} {uc : Nat → Nat} (h : LtP X B ka kc K Q ua uc) (hg : X.grownBy Y none) : LtP Y B ka kc K Q ua uc := ⟨keep0 h.out hg, fun j hj => keep0 (h.inn j hj) hg⟩
/-- A list more. -/
theorem LtP.push {X Y : World} {B : Nat} {ka ka' : Option Addr} {kc kc' K : Nat} {Q : Nat → List Int} {ua : Nat → Option Addr} {uc : Nat → Nat} {a : Option Addr} {c : Nat} (h : LtP X B ka kc K Q ua uc) (hr : X.ownsRow B 3 1 (.slice a (Q K).length c) (Q K).length ((Q K).map (Value.int .i64))) (hg : X.grownBy Y (Value.slice ka K kc).ownBlock) (ho : Y.ownsRow B 28 1 (.slice ka' (K + 1) kc') (K + 1) (rowsZ K Q ua uc ++ [.slice a (Q K).length c])) : LtP Y B ka' kc' (K + 1) Q (updC ua K a) (updC uc K c) := by
  refine ⟨by rw [rowsZ_snoc]; exact ho, fun j hj => ?_⟩
  by_cases e : j = K
  · subst e
    rw [updC_same, updC_same]
    exact row_row hr h.out (by decide) hg
  · rw [updC_other _ _ e, updC_other _ _ e]
    exact row_row (h.inn j (by omega)) h.out (by decide) hg

/-- What lent tells. -/
def LentTold (w : World) (N : Nat) (Q : Nat → List Int) (e : Ending) (y : World) : Prop := ∃ ka kc ua uc, e = .returned (.slice ka N kc) ∧ LtP y w.heap.size ka kc N Q ua uc ∧ w.grownBy y none

end Go.Proofs.YtjijagnpcmonbaaDoor.J

/-
  digraph: a relation turned, pure; several nodes come to a list at once.
-/
namespace Go.Proofs.YtjijagnpcmonbaaDoor.J
open Go.RowKit Go.Maps Go.Shelf D

section
variable {X Y : World} {B : Nat} {ka : Option Addr} {kc K : Nat} {Q : Nat → List Nat} {ua : Nat → Option Addr} {uc : Nat → Nat}
/-- Nodes come to one of the lists. -/
theorem CqP.addL {f g c ln : Nat} {kb : Nat} {L : List Nat} (hL : ln = L.length) (h : CqP X B (some ⟨kb, 0, none⟩) kc K Q ua uc) (hf : f < K) (hg : X.grownBy Y (Value.slice (ua f) (Q f).length (uc f)).ownBlock) (ho : Y.ownsRow B 3 1 (.slice (some ⟨g, 0, none⟩) ((Q f).length + ln) c) ((Q f).length + ln) (natV (Q f) ++ natV L)) (hat : (Value.slice (ua f) (Q f).length (uc f)).ownBlock = some g ∨ g = X.heap.size) :
    (Y.cell? ⟨kb, f, none⟩ = some (.slice (ua f) (Q f).length (uc f)) ∧ Y.frozen? ⟨kb, f, none⟩ = false) ∧ CqP (Y.setCell ⟨kb, f, none⟩ (.slice (some ⟨g, 0, none⟩) ((Q f).length + ln) c)) B (some ⟨kb, 0, none⟩) kc K (updC Q f (Q f ++ L)) (updC ua f (some ⟨g, 0, none⟩)) (updC uc f c) := by
  have hs : Y.grownBy (Y.setCell ⟨kb, f, none⟩ (.slice (some ⟨g, 0, none⟩) ((Q f).length + ln) c)) (some kb) := grown_setCell _ _ _
  have hout := row_row h.out (h.inn f hf) (by decide) hg
  have hlen : (Q f ++ L).length = (Q f).length + ln := by rw [List.length_append, hL]
  rcases hout.2 with ⟨hx, _⟩ | ⟨g', cap, cur, hv, hB, hh, hn, hm, hsz, ht⟩
  · cases hx
  · simp only [Value.slice.injEq, Option.some.injEq, Addr.mk.injEq, and_true] at hv
    obtain ⟨rfl, _, rfl⟩ := hv
    have key : ∀ k, k < K → k ≠ f → (Value.slice (ua k) (Q k).length (uc k)).ownBlock = none ∨ (Value.slice (ua k) (Q k).length (uc k)).ownBlock ≠ some g := fun k hk e => by
      rcases hat with h1 | h1
      · rw [← h1]; exact h.sep k f hk hf e
      · cases hb : (Value.slice (ua k) (Q k).length (uc k)).ownBlock with
        | none => exact .inl rfl
        | some b =>
          right
          intro h2
          have h3 := ((h.inn k hk).lt b hb).2
          have h4 : b = g := by simpa using h2
          omega
    refine ⟨⟨?_, frozen_of_row _ _ _ _ _ hh⟩, ?_, fun k hk => ?_, fun k l hk hl e => ?_⟩
    · have h3 := rowsC_at (K := K) Q ua uc hf
      rw [← ht, List.getElem?_take, if_pos (by omega)] at h3
      rw [cell_of_row _ _ _ _ _ _ hh]
      simpa using h3
    · refine ⟨by rw [rowsC_length]; omega, .inr ⟨kb, kc, cur.setIfInBounds f (.slice (some ⟨g, 0, none⟩) ((Q f).length + ln) c), rfl, hB, heap_setCell_same _ _ _ _ _ _ hh, hn, hm, by simpa using hsz, ?_⟩⟩
      rw [Array.toList_setIfInBounds, List.take_set, ht]
      apply List.ext_getElem?
      intro i
      rw [List.getElem?_set]
      by_cases hi : i < K
      · rw [rowsC_at _ _ _ hi, rowsC_at _ _ _ hi, rowsC_length]
        by_cases e : f = i
        · subst e
          rw [if_pos rfl, if_pos hi, updC_same, updC_same, updC_same, hlen]
        · have e2 : i ≠ f := fun h => e h.symm
          rw [if_neg e, updC_other _ _ e2, updC_other _ _ e2, updC_other _ _ e2]
      · have h1 : f ≠ i := by omega
        rw [if_neg h1, List.getElem?_eq_none (by rw [rowsC_length]; omega), List.getElem?_eq_none (by rw [rowsC_length]; omega)]
    · by_cases e : k = f
      · subst e
        rw [updC_same, updC_same, updC_same, hlen, natV_append]
        exact ho.kept hs (owns_nebox ho hh (by decide))
      · rw [updC_other _ _ e, updC_other _ _ e, updC_other _ _ e]
        have h1 := (h.inn k hk).kept hg (h.sep k f hk hf e)
        exact h1.kept hs (owns_nebox h1 hh (by decide))
    · by_cases e1 : k = f
      · subst e1
        have e2 : l ≠ k := fun h => e h.symm
        rw [updC_same, updC_same, updC_same, updC_other _ _ e2, updC_other _ _ e2, updC_other _ _ e2]
        right
        rcases key l hl e2 with h1 | h1
        · rw [h1]; simp [Value.ownBlock]
        · exact fun h2 => h1 h2.symm
      · rw [updC_other _ _ e1, updC_other _ _ e1, updC_other _ _ e1]
        by_cases e2 : l = f
        · subst e2
          rw [updC_same, updC_same, updC_same]
          exact key k hk e1
        · rw [updC_other _ _ e2, updC_other _ _ e2, updC_other _ _ e2]
          exact h.sep k l hk hl e
end

/-- A node by its other number; and back. -/
def tau (n k x : Nat) : Nat := (x + k) % n
def sig (n k y : Nat) : Nat := (y + (n - k)) % n
section
variable {n k : Nat}
theorem tau_lt (hn : 0 < n) (x : Nat) : tau n k x < n := Nat.mod_lt _ hn
theorem sig_lt (hn : 0 < n) (y : Nat) : sig n k y < n := Nat.mod_lt _ hn
theorem tau_val (hk : k < n) {x : Nat} (hx : x < n) : tau n k x = if x + k < n then x + k else x + k - n := by
  unfold tau
  by_cases h : x + k < n
  · rw [if_pos h, Nat.mod_eq_of_lt h]
  · rw [if_neg h, Nat.mod_eq_sub_mod (by omega), Nat.mod_eq_of_lt (by omega)]
theorem sig_val (hk : k < n) {y : Nat} (hy : y < n) : sig n k y = if k ≤ y then y - k else y + (n - k) := by
  unfold sig
  by_cases h : k ≤ y
  · rw [if_pos h, Nat.mod_eq_sub_mod (by omega), Nat.mod_eq_of_lt (by omega)]
    omega
  · rw [if_neg h, Nat.mod_eq_of_lt (by omega)]
theorem tau_sig (hk : k < n) {y : Nat} (hy : y < n) : tau n k (sig n k y) = y := by
  have h1 := sig_val hk hy
  rw [tau_val hk (sig_lt (by omega) y), h1]
  split <;> split <;> omega
/-- What is laid for a node, from its last step down to step m. -/
def flD (n k : Nat) (E : Nat → List Nat) (x m : Nat) : List Nat := (((E x).drop m).reverse).flatMap fun t => [tau n k t, tau n k t]
/-- The turned relation: each node by its other number. -/
structure TurnP (n k : Nat) (E F : Nat → List Nat) : Prop where
  hk : k < n
  hE : ∀ x, x < n → ∀ y ∈ E x, y < n
  hF : ∀ x, x < n → ∀ t, t ∈ F (tau n k x) ↔ ∃ y ∈ E x, t = tau n k y
variable {E F : Nat → List Nat}
theorem TurnP.lt (h : TurnP n k E F) : ∀ y, y < n → ∀ t ∈ F y, t < n := fun y hy t ht => by
  have hn : 0 < n := by have := h.hk; omega
  rw [← tau_sig h.hk hy] at ht
  obtain ⟨z, _, rfl⟩ := (h.hF _ (sig_lt hn y) t).1 ht
  exact tau_lt hn z
theorem TurnP.go (h : TurnP n k E F) {x y : Nat} (hr : Rch E x y) : x < n → y < n ∧ Rch F (tau n k x) (tau n k y) := by
  induction hr with
  | refl _ => exact fun hx => ⟨hx, .refl _⟩
  | step h1 _ ih =>
    intro hx
    obtain ⟨h2, h3⟩ := ih (h.hE _ hx _ h1)
    exact ⟨h2, .step ((h.hF _ hx _).2 ⟨_, h1, rfl⟩) h3⟩
end

end Go.Proofs.YtjijagnpcmonbaaDoor.J

/-
  digraph: the document's turn.
-/
namespace Go.Proofs.YtjijagnpcmonbaaDoor.J
open Go.RowKit Go.Maps Go.Shelf D

attribute [local go_sem] Oper.semAt_some
attribute [local go_sem ↓] Go.wp_at_zero Go.wp_at_succ

/-- From where the first i nodes lead to a node; and the next one by its first k steps. -/
def tnR (E : Nat → List Nat) (i t : Nat) : List Nat := (List.range i).flatMap fun x => ((E x).filter fun y => decide (y = t)).map fun _ => x
def tnP (E : Nat → List Nat) (i k t : Nat) : List Nat := tnR E i t ++ (((E i).take k).filter fun y => decide (y = t)).map fun _ => i
theorem tnP_zero (E : Nat → List Nat) (i t : Nat) : tnP E i 0 t = tnR E i t := by unfold tnP; simp
theorem tnP_step (E : Nat → List Nat) (i k t : Nat) (hk : k < (E i).length) : tnP E i (k + 1) t = if t = (E i).getD k 0 then tnP E i k t ++ [i] else tnP E i k t := by
  have e : (E i).getD k 0 = (E i)[k] := by rw [List.getD_eq_getElem?_getD, List.getElem?_eq_getElem hk]; rfl
  unfold tnP
  rw [e, List.take_succ_eq_append_getElem hk, List.filter_append, List.map_append]
  by_cases h : t = (E i)[k]
  · rw [if_pos h, ← h]
    simp
  · rw [if_neg h]
    have h2 : ¬ (E i)[k] = t := fun e => h e.symm
    simp [h2]
theorem tnP_next (E : Nat → List Nat) (i t : Nat) : tnP E i (E i).length t = tnR E (i + 1) t := by
  unfold tnP tnR
  rw [List.take_length, List.range_succ, List.flatMap_append]
  simp
theorem tnR_mem (E : Nat → List Nat) (n x t : Nat) : x ∈ tnR E n t ↔ x < n ∧ t ∈ E x := by
  unfold tnR
  simp only [List.mem_flatMap, List.mem_range, List.mem_map, List.mem_filter, decide_eq_true_eq]
  constructor
  · rintro ⟨y, hy, z, ⟨h1, h2⟩, h3⟩
    subst h3
    exact ⟨hy, by rw [← h2]; exact h1⟩
  · rintro ⟨h1, h2⟩
    exact ⟨x, h1, t, ⟨h2, rfl⟩, rfl⟩
/-- How many steps the first i nodes have. -/
def sumL (E : Nat → List Nat) : Nat → Nat
  | 0 => 0
  | i + 1 => sumL E i + (E i).length
theorem tnR_len (E : Nat → List Nat) (t : Nat) : ∀ i, (tnR E i t).length ≤ sumL E i
  | 0 => by simp [tnR]
  | i + 1 => by
    rw [← tnP_next]
    unfold tnP sumL
    have h1 := tnR_len E t i
    have h2 := List.length_filter_le (fun y => decide (y = t)) ((E i).take (E i).length)
    rw [List.length_append, List.length_map]
    rw [List.take_length] at h2 ⊢
    omega
theorem sumL_mono (E : Nat → List Nat) {i n : Nat} (h : i ≤ n) : sumL E i ≤ sumL E n := by
  induction n with
  | zero => have : i = 0 := by omega
            rw [this]; exact Nat.le_refl _
  | succ n ih =>
    by_cases e : i = n + 1
    · rw [e]; exact Nat.le_refl _
    · have := ih (by omega)
      show _ ≤ sumL E n + _
      omega
theorem tnP_len (E : Nat → List Nat) (i k t n : Nat) (h : i < n) : (tnP E i k t).length ≤ sumL E n := by
  have h0 := tnR_len E t i
  have h1 := sumL_mono E (show i + 1 ≤ n by omega)
  have h2 := List.length_filter_le (fun y => decide (y = t)) ((E i).take k)
  rw [List.length_take] at h2
  unfold tnP
  rw [List.length_append, List.length_map]
  have h3 : sumL E (i + 1) = sumL E i + (E i).length := rfl
  omega

set_option maxRecDepth 100000 in
set_option maxHeartbeats 8000000 in
theorem rturn_any (w : World) (N : Nat) (ea : Option Addr) (ec : Nat) (E : Nat → List Nat) (eua : Nat → Option Addr) (euc : Nat → Nat) (hL : LwAt w ea N (fun i => intL (E i)) eua euc) (hN : N ≤ 1048576) (hsum : sumL E N ≤ 1048576) (hE : ∀ x, x < N → ∀ y ∈ E x, y < N) :
    Calls Tryd.prog 32 #[.slice ea N ec] w fun e y => MadeTold w N (tnR E N) e y := by
  have HLX : Hid (∀ X, w.grownBy X none → LwAt X ea N (fun i => intL (E i)) eua euc) := fun X hX => hL.kept hX
  have HEN : Hid (∀ x, x < N → ∀ y ∈ E x, y < N) := hE
  have HSU : Hid (sumL E N ≤ 1048576) := hsum
  obtain ⟨i0, hi0, hz0, hz1, hz2⟩ := info_parts infoInt
  obtain ⟨i1, hi1, hy0, hy1, hy2⟩ := info_parts infoRowsS
  clear hL hE hsum
  go_enter Tryd.func32, Tryd.ntmps32
  go_wp2_with (at_make; refine wpList_make_full _ rfl _ _ 22 rfl w.heap.size 28 i1 (.slice none 0 0) 1 Tryd.underlying22 hi1 hy0 hy1 .i64 .i64 _ _ N rfl rfl (by simp) (by simp) (by rw [hy2]; omega) (by unfold maxLen; omega) (by simp) ?_)
  intro w5 hown hgrow
  have hval : ValAt w5 w.heap.size N 28 (fun _ => .slice none 0 0) := made_rowK (B := w.heap.size) rfl (by simpa [Value.cells] using hown)
  obtain ⟨kb, hkb⟩ : ∃ b, b = w.heap.size := ⟨_, rfl⟩
  rw [← hkb] at hval
  rw [← hkb]
  have HC0 : Hid (CqP w5 w.heap.size (some ⟨kb, 0, none⟩) N N (tnR E 0) (fun _ => none) (fun _ => 0)) := (CqP.made hval (by omega) (by unfold maxLen; omega)).ext fun i _ => by simp [tnR]
  have HG0 := show Hid _ from hgrow
  have HKB : Hid (w.heap.size ≤ kb) := by show _ ≤ _; omega
  clear hown hgrow hval hkb
  go_wp2_with fail
  go_loopg [4] N (fun gk v4 wr => ∃ (i : Nat) (ua : Nat → Option Addr) (uc : Nat → Nat), i ≤ N ∧ gk = N - i ∧ v4 = .int .i64 i ∧ CqP wr w.heap.size (some ⟨kb, 0, none⟩) N N (tnR E i) ua uc ∧ w.grownBy wr none)
  case atStart => exact ⟨0, _, _, Nat.zero_le _, rfl, rfl, HC0.out, HG0.out⟩
  case round =>
    clear HC0 HG0
    obtain ⟨i, ua, uc, hi, hgk, rfl, hC, hG⟩ := hrel
    have HGK : Hid (gk = N - i) := hgk
    have HC := show Hid _ from hC
    have HG := show Hid _ from hG
    clear hgk hC hG
    by_cases hlt : i < N
    · have hid : decide (i < N) = true := decide_eq_true hlt
      have hi0' : (0 : Int) ≤ (i : Int) := by omega
      have hi1' : (i : Int) < (N : Int) := by omega
      obtain ⟨ek, eo, hek, HEC, HEI⟩ : ∃ ek eo, ea = some ⟨ek, eo, none⟩ ∧ Hid (∀ X, w.grownBy X none → X.cell? ⟨ek, eo + i, none⟩ = some (.slice (eua i) (E i).length (euc i))) ∧ Hid (∀ X, w.grownBy X none → IntsAt X (eua i) (intL (E i))) := by
        have h1 := HLX.out w (grown_refl _ _)
        rcases h1.1 with h | ⟨ek, eo, e, h⟩
        · omega
        · refine ⟨ek, eo, e, fun X hX => ?_, fun X hX => (HLX.out X hX).2 i hlt⟩
          have := h i hlt
          rw [intL_length] at this
          exact hX.cell this (by simp)
      subst hek
      obtain ⟨el, hel⟩ : ∃ v, v = (E i).length := ⟨_, rfl⟩
      obtain ⟨eau, heau⟩ : ∃ v, v = eua i := ⟨_, rfl⟩
      obtain ⟨ecu, hecu⟩ : ∃ v, v = euc i := ⟨_, rfl⟩
      rw [← hel, ← heau, ← hecu] at HEC
      rw [← heau] at HEI
      have HEE : Hid (el = (E i).length) := hel
      have helb : el ≤ 1048576 := by
        have h1 := sumL_mono E (show i + 1 ≤ N by omega)
        have h2 : sumL E (i + 1) = sumL E i + (E i).length := rfl
        have h3 := HSU.out
        omega
      have HCP : Hid (CqP wr w.heap.size (some ⟨kb, 0, none⟩) N N (tnP E i 0) ua uc) := HC.out.ext fun t _ => (tnP_zero E i t).symm
      clear hel heau hecu HC
      go_wp2_with fail
      go_loopg [5] el (fun gk v5 wr => ∃ (k : Nat) (ua : Nat → Option Addr) (uc : Nat → Nat), k ≤ el ∧ gk = el - k ∧ v5 = .int .i64 k ∧ CqP wr w.heap.size (some ⟨kb, 0, none⟩) N N (tnP E i k) ua uc ∧ w.grownBy wr none)
      case atStart => exact ⟨0, _, _, Nat.zero_le _, rfl, rfl, HCP.out, HG.out⟩
      case round =>
        clear HCP HG
        obtain ⟨k, ua, uc, hk, hgk, rfl, hC, hG⟩ := hrel
        have HGJ : Hid (gk = el - k) := hgk
        have HC := show Hid _ from hC
        have HG := show Hid _ from hG
        have c0 := HEC.out wr hG
        clear hgk hC hG
        by_cases hltk : k < el
        · have hkd : decide (k < el) = true := decide_eq_true hltk
          have hk0 : (0 : Int) ≤ (k : Int) := by omega
          have hk1 : (k : Int) < (el : Int) := by omega
          have hkE : k < (E i).length := by rw [← HEE.out]; exact hltk
          obtain ⟨fb, fo, hfa, c1⟩ : ∃ fb fo, eau = some ⟨fb, fo, none⟩ ∧ wr.cell? ⟨fb, fo + k, none⟩ = some (.int .i64 (((E i).getD k 0 : Nat) : Int)) := by
            rcases HEI.out wr HG.out with h1 | ⟨fb, fo, e, h1⟩
            · have h2 := intL_length (E i)
              rw [h1] at h2
              simp at h2
              omega
            · refine ⟨fb, fo, e, ?_⟩
              have h3 := h1 k (by rw [intL_length]; exact hkE)
              rw [intL_at] at h3
              exact h3
          subst hfa
          have HFB : Hid (fb < w.heap.size) := by
            rcases HEI.out w (grown_refl _ _) with h1 | ⟨fb2, fo2, e, h1⟩
            · have h2 := intL_length (E i)
              rw [h1] at h2
              simp at h2
              omega
            · have e3 : fb = fb2 ∧ fo = fo2 := by simpa using e
              have h4 := World.block_lt_of_cell? w _ (h1 k (by rw [intL_length]; exact hkE))
              rw [e3.1]; exact h4
          have htE : (E i).getD k 0 ∈ E i := by rw [List.getD_eq_getElem?_getD, List.getElem?_eq_getElem hkE]; exact List.getElem_mem hkE
          have hjn := HEN.out i hlt _ htE
          have HTS : Hid (∀ t, tnP E i (k + 1) t = if t = (E i).getD k 0 then tnP E i k t ++ [i] else tnP E i k t) := fun t => tnP_step E i k t hkE
          obtain ⟨j, hj⟩ : ∃ v, v = (E i).getD k 0 := ⟨_, rfl⟩
          rw [← hj] at c1 hjn HTS
          have hj0 : (0 : Int) ≤ (j : Int) := by omega
          have hj1 : (j : Int) < (N : Int) := by omega
          have hqb : (tnP E i k j).length ≤ 1048576 := Nat.le_trans (tnP_len E i k j N hlt) HSU.out
          obtain ⟨Q, hQ⟩ : ∃ Q, Q = tnP E i k := ⟨_, rfl⟩
          rw [← hQ] at HC HTS hqb
          obtain ⟨kb', kcap, hkb, hkcell⟩ := owns_at HC.out.out (by omega)
          simp only [Value.slice.injEq, Option.some.injEq, Addr.mk.injEq, and_true, true_and] at hkb
          obtain ⟨rfl, -⟩ := hkb
          have cj := hkcell j _ (rowsC_at _ _ _ hjn)
          obtain ⟨fa, hfa⟩ : ∃ a, a = ua j := ⟨_, rfl⟩
          obtain ⟨fc, hfc⟩ : ∃ a, a = uc j := ⟨_, rfl⟩
          obtain ⟨m, hm⟩ : ∃ m, m = (Q j).length := ⟨_, rfl⟩
          rw [← hfa, ← hfc, ← hm] at cj
          have hmb : m ≤ 1048576 := by rw [hm]; exact hqb
          generalize wr = V at *
          have HOW : Hid (∀ Y, V.grownBy Y none → Y.ownsRow w.heap.size 3 1 (.slice fa m fc) m (natV (Q j))) := fun Y hY => by
            have h1 := (HC.out.kept hY).inn j hjn
            rw [← hfa, ← hfc, ← hm] at h1
            exact h1
          have HPS : Hid (∀ Y, V.grownBy Y none → w.heap.size ≤ Y.heap.size) := fun Y hY => Nat.le_trans HG.out.size hY.size
          have HFIN : Hid (∀ (Y W : World) (g c : Nat), V.grownBy Y none → Y.grownBy W (Value.slice fa m fc).ownBlock → W.ownsRow w.heap.size 3 1 (.slice (some ⟨g, 0, none⟩) (m + 1) c) (m + 1) (natV (Q j) ++ [.int .i64 (i : Int)]) → ((Value.slice fa m fc).ownBlock = some g ∨ g = Y.heap.size) → (W.cell? ⟨kb, j, none⟩ = some (.slice fa m fc) ∧ W.frozen? ⟨kb, j, none⟩ = false) ∧ CqP (W.setCell ⟨kb, j, none⟩ (.slice (some ⟨g, 0, none⟩) (m + 1) c)) w.heap.size (some ⟨kb, 0, none⟩) N N (tnP E i (k + 1)) (updC ua j (some ⟨g, 0, none⟩)) (updC uc j c) ∧ w.grownBy (W.setCell ⟨kb, j, none⟩ (.slice (some ⟨g, 0, none⟩) (m + 1) c)) none ∧ W.cell? ⟨ek, eo + i, none⟩ = some (.slice (some ⟨fb, fo, none⟩) el ecu) ∧ W.cell? ⟨fb, fo + k, none⟩ = some (.int .i64 (j : Int))) := fun Y W g c hY hg ho hat => by
            have hq := HC.out.kept hY
            have hin := hq.inn j hjn
            rw [hfa, hfc, hm] at hg hat
            rw [hm] at ho
            obtain ⟨q1, q2⟩ := hq.add hjn hg ho hat
            rw [hfa, hfc, hm]
            have hs : W.grownBy (W.setCell ⟨kb, j, none⟩ (.slice (some ⟨g, 0, none⟩) ((Q j).length + 1) c)) (some kb) := grown_setCell _ _ _
            have hlow : ∀ (b x : Nat) (v : Value), b < w.heap.size → V.cell? ⟨b, x, none⟩ = some v → W.cell? ⟨b, x, none⟩ = some v := fun b x v hb hv => hg.cell (hY.cell hv (by simp)) (by
              intro e
              have h3 := (hin.lt b e.symm).1
              omega)
            have hek : ek < w.heap.size := World.block_lt_of_cell? w _ (HEC.out w (grown_refl _ _))
            have hfb : fb < w.heap.size := HFB.out
            refine ⟨q1, q2.ext fun t _ => ?_, grown_new (grown_row (grown_trans HG.out hY) hin (Nat.le_refl _) hg) hs HKB.out, hlow _ _ _ hek c0, hlow _ _ _ hfb c1⟩
            rw [HTS.out t]
            by_cases e : t = j
            · rw [e, updC_same, if_pos rfl]
            · rw [updC_other _ _ e, if_neg e, hQ]
          obtain ⟨xs, hxs⟩ : ∃ xs, xs = natV (Q j) := ⟨_, rfl⟩
          rw [← hxs] at HOW HFIN
          have p3 : ∀ o, (V.alloc o).cell? ⟨kb, j, none⟩ = some (.slice fa m fc) := fun o => (World.grownBy_alloc _ o none).cell cj (by simp)
          have p4 : ∀ o, (V.alloc o).cell? ⟨ek, eo + i, none⟩ = some (.slice (some ⟨fb, fo, none⟩) el ecu) := fun o => (World.grownBy_alloc _ o none).cell c0 (by simp)
          have p5 : ∀ o, (V.alloc o).cell? ⟨fb, fo + k, none⟩ = some (.int .i64 (j : Int)) := fun o => (World.grownBy_alloc _ o none).cell c1 (by simp)
          clear hfa hfc hm hxs hkcell hQ htE hj hqb hkE
          go_wp2_with fail
          go_region_law (first
            | (refine step_append_liesW _ rfl (.tmp 41) (.tmp 43) 28 rfl w.heap.size 3 i0 (.int .i64 0) 1 8 Tryd.underlying28 hi0 hz0 hz1 hz2 rfl (by decide) (.slice fa m fc) m xs (by first | (simp [Act.eval]; done) | simp [Act.eval, Act.put]) (HOW.out _ (grown_trans (World.grownBy_alloc _ _ none) (grown_drewN _ _))) ⟨V.heap.size, 0, none⟩ 1 1 [.int .i64 (i : Int)] (by first | (simp [Act.eval]; done) | simp [Act.eval, Act.put]) rfl (World.news_of_block (heap_alloc_last V _)) (by simp [Value.oneCell']) (by decide) (by unfold maxLen; omega) (by omega) (HPS.out _ (grown_trans (World.grownBy_alloc _ _ none) (grown_drewN _ _))) ?_; intro g9 c9 wB hoB hgB hat; obtain ⟨⟨q1, q2⟩, q3, q4, q5, q6⟩ := HFIN.out _ wB g9 c9 (grown_trans (World.grownBy_alloc _ _ none) (grown_drewN _ _)) hgB hoB hat; have HQ3 := show Hid _ from q3; have HQ4 := show Hid _ from q4; clear q3 q4 hoB hgB hat)
            | fail)
          all_goals go_wp2_with fail
          all_goals go_roundg (el - (k + 1))
          all_goals first
            | exact (show ∃ (k' : Nat), _ from ⟨k + 1, _, _, by omega, rfl, by go_num, HQ3.out, HQ4.out⟩)
            | (have := HGJ.out; omega)
        · have hkn : el = k := by omega
          subst hkn
          have hkd : decide (el < el) = false := decide_eq_false (by omega)
          have HCN : Hid (CqP wr w.heap.size (some ⟨kb, 0, none⟩) N N (tnR E (i + 1)) ua uc) := HC.out.ext fun t _ => by
            rw [← tnP_next, ← HEE.out]
          go_wp2_with fail
          go_roundg (N - (i + 1))
          all_goals first
            | exact (show ∃ (i' : Nat), _ from ⟨i + 1, _, _, by omega, rfl, by go_num, HCN.out, HG.out⟩)
            | (have := HGK.out; omega)
    · have hin : N = i := by omega
      subst hin
      have hid : decide (N < N) = false := decide_eq_false (by omega)
      go_wp2_with fail
      go_ret
      exact ⟨kb, ua, uc, rfl, HC.out, HG.out⟩

end Go.Proofs.YtjijagnpcmonbaaDoor.J

/-
  digraph: what the laws DigraphParts and DigraphSolves spoil, in memory.
-/
namespace Go.Proofs.YtjijagnpcmonbaaDoor.J
open Go.RowKit Go.Maps Go.Shelf D

/-- A row of numbers of one's own, whatever it holds. -/
def Like1 (X : World) (B : Nat) (v : Value) (n : Nat) : Prop := ∃ xs, X.ownsRow B 3 1 v n xs
theorem Like1.sized {X Y : World} {B n : Nat} {v : Value} (h : Like1 X B v n) (hs : Sizes X Y) : Like1 Y B v n := by
  obtain ⟨xs, h1, h2⟩ := h
  rcases h2 with ⟨rfl, rfl⟩ | ⟨g, cap, cur, rfl, hB, hh, h3, h4, h5, h6⟩
  · exact ⟨xs, h1, .inl ⟨rfl, rfl⟩⟩
  · obtain ⟨cur', h7, h8⟩ := hs g cur _ hh
    refine ⟨cur'.toList.take (n * 1), ?_, .inr ⟨g, cap, cur', rfl, hB, h7, h3, h4, by rw [h8]; exact h5, rfl⟩⟩
    rw [List.length_take, Array.length_toList, h8, h5]
    omega
theorem Like1.at {X : World} {B n i : Nat} {v : Value} (h : Like1 X B v n) (hi : i < n) : ∃ g c u0 cur, v = .slice (some ⟨g, 0, none⟩) n c ∧ B ≤ g ∧ X.cell? ⟨g, i, none⟩ = some u0 ∧ (∀ o, X.frozen? ⟨g, o, none⟩ = false) ∧ X.heap[g]? = some (.cells cur 3 (0, 0)) := by
  obtain ⟨xs, h1, h2⟩ := h
  rcases h2 with ⟨rfl, rfl⟩ | ⟨g, cap, cur, rfl, hB, hh, h3, h4, h5, h6⟩
  · omega
  · refine ⟨g, cap, cur[i]'(by omega), cur, rfl, hB, ?_, fun o => frozen_of_row _ _ _ _ _ hh, hh⟩
    rw [cell_of_row _ _ _ _ _ _ hh, Array.getElem?_eq_getElem]

section
variable {P : Program} (w : World)
theorem wpList_append_like {ops : Array Oper} {rest : List Oper} {o : Oper} {a : Act} {Q : Exit → Act → World → Prop} (hgd : o.guard = none) (s x : Operand) (t : TypeId)
    (ho : o.op = .call { callee := .builtin .append, args := #[s, x], argTypes := #[t, t] })
    (base : Nat) (e : TypeId) (i : TypeInfo) (z : Value) (size bytes : Nat) (ht : P.underlying t = some (.slice e)) (hi : P.info? e = some i) (hz : i.zero = some z)
    (hsize : i.size = size) (hby : i.bytes = bytes) (hzs : z.cells.size = size) (hsz : 0 < size)
    (v : Value) (n : Nat) (xs : List Value) (hs : a.eval s = v) (hown : w.ownsRow base e size v n xs)
    (ad : Addr) (m c : Nat) (news : List Value) (hx : a.eval x = .slice (some ad) m c) (hl : news.length = m * size) (hnews : ∀ j u, news[j]? = some u → w.cell? (ad.add j) = some u) (h1 : ∀ u ∈ news, u.oneCell' = true)
    (h63 : n + m ≤ maxLen) (hbytes : ((n + m) + (n + m) / 4 + 192) * bytes ≤ 281474976710656) (hbase : base ≤ w.heap.size)
    (h : ∀ a' c' w', w.grownBy w' v.ownBlock → Sizes w w' → wpList P ops Q rest (a.put o.dst (.slice a' (n + m) c')) w') : wpList P ops Q (o :: rest) a w := by
  refine wpList_plain hgd fun K hK => ?_
  obtain ⟨a', c', w', hr, h2, h3⟩ := run_append_like (P := P) w t o.type base e i z size bytes ht hi hz hsize hby hzs hsz v n xs hown ad m c news hl hnews h1 h63 hbytes hbase
  unfold Oper.wp execOp
  simp only [ho, resolve, invoke, builtin, Sem.run_bind, Sem.run_pure, Result.andThen_ok, List.map_toArray, List.map_cons, List.map_nil, hs, hx, hr]
  exact hK _ _ (h a' c' w' h2 h3)
end

/-- Lists while they are spoilt: the rows of which w' tells are as they were; what lies below y stays. -/
structure SpC (y X : World) (hi lk K : Nat) (w' : Nat → Prop) (P : Nat → List Nat) (ua : Nat → Option Addr) (uc : Nat → Nat) (cur : Array Value) : Prop where
  grown : y.grownBy X none
  ob : X.heap[lk]? = some (.cells cur 28 (0, 0))
  oc : ∀ j, w' j → j < K → cur[j]? = some (.slice (ua j) (P j).length (uc j))
  rows : ∀ j, w' j → j < K → Like1 X y.heap.size (.slice (ua j) (P j).length (uc j)) (P j).length
  lo : y.heap.size ≤ lk ∧ lk < hi
  hi : ∀ j, w' j → j < K → ∀ g, (Value.slice (ua j) (P j).length (uc j)).ownBlock = some g → g < hi
section
variable {y X Y : World} {hi lk K : Nat} {w' w'' : Nat → Prop} {P : Nat → List Nat} {ua : Nat → Option Addr} {uc : Nat → Nat} {cur : Array Value}
theorem SpC.kept (h : SpC y X hi lk K w' P ua uc cur) (hg : X.grownBy Y none) : SpC y Y hi lk K w' P ua uc cur :=
  ⟨grown_trans h.grown hg, box_kept h.ob hg, h.oc, fun j h1 h2 => (h.rows j h1 h2).sized (.ofG hg), h.lo, h.hi⟩
theorem SpC.less (h : SpC y X hi lk K w' P ua uc cur) (e : ∀ j, w'' j → w' j) : SpC y X hi lk K w'' P ua uc cur :=
  ⟨h.grown, h.ob, fun j h1 => h.oc j (e j h1), fun j h1 => h.rows j (e j h1), h.lo, fun j h1 => h.hi j (e j h1)⟩
theorem SpC.cell {j : Nat} (h : SpC y X hi lk K w' P ua uc cur) (h1 : w' j) (h2 : j < K) : X.cell? ⟨lk, j, none⟩ = some (.slice (ua j) (P j).length (uc j)) := by
  rw [cell_of_row _ _ _ _ _ _ h.ob]; exact h.oc j h1 h2
theorem SpC.free (h : SpC y X hi lk K w' P ua uc cur) (o : Nat) : X.frozen? ⟨lk, o, none⟩ = false := frozen_of_row _ _ _ _ _ h.ob
theorem SpC.turn {g : Nat} {cs : Array Value} (h : SpC y X hi lk K w' P ua uc cur) (hg : X.grownBy Y (some g)) (hs : Sizes X Y) (hb : X.heap[g]? = some (.cells cs 3 (0, 0))) (hB : y.heap.size ≤ g) : SpC y Y hi lk K w' P ua uc cur :=
  ⟨grown_new h.grown hg hB, spoil_other h.ob hb (by decide) hg, h.oc, fun j a1 a2 => (h.rows j a1 a2).sized hs, h.lo, h.hi⟩
theorem SpC.more {n : Nat} {v : Value} {xs : List Value} (h : SpC y X hi lk K w' P ua uc cur) (ho : X.ownsRow y.heap.size 3 1 v n xs) (hg : X.grownBy Y v.ownBlock) (hs : Sizes X Y) : SpC y Y hi lk K w' P ua uc cur := by
  rcases ho.2 with ⟨rfl, _⟩ | ⟨g, cap, c2, rfl, hB, hh, _⟩
  · exact h.kept hg
  · exact h.turn (g := g) hg hs hh hB
/-- A list is told anew. -/
theorem SpC.set {k : Nat} {u : Value} (h : SpC y X hi lk K w' P ua uc cur) (e : ∀ j, w'' j → w' j ∧ j ≠ k) : SpC y (X.setCell ⟨lk, k, none⟩ u) hi lk K w'' P ua uc (cur.setIfInBounds k u) := by
  have g1 : X.grownBy (X.setCell ⟨lk, k, none⟩ u) (some lk) := grown_setCell _ _ _
  refine ⟨grown_new h.grown g1 h.lo.1, heap_setCell_same _ _ _ _ _ _ h.ob, fun j a1 a2 => ?_, fun j a1 a2 => (h.rows j (e j a1).1 a2).sized (.set _ _ _ _), h.lo, fun j a1 => h.hi j (e j a1).1⟩
  rw [Array.getElem?_setIfInBounds_ne (fun e2 => (e j a1).2 e2.symm)]
  exact h.oc j (e j a1).1 a2
/-- .. of lists just told. -/
theorem CqP.sp {kc : Nat} (h : CqP X y.heap.size (some ⟨lk, 0, none⟩) kc K P ua uc) (hg : y.grownBy X none) : ∃ cur, SpC y X X.heap.size lk K (fun _ => True) P ua uc cur := by
  rcases h.out.2 with ⟨h1, _⟩ | ⟨g, cap, cur, h1, hB, hh, _, _, hs, ht⟩
  · simp at h1
  · simp only [Value.slice.injEq, Option.some.injEq, Addr.mk.injEq, and_true] at h1
    obtain ⟨rfl, _⟩ := h1
    refine ⟨cur, hg, hh, fun j _ hj => ?_, fun j _ hj => ⟨_, h.inn j hj⟩, ⟨hB, (Array.getElem?_eq_some_iff.1 hh).1⟩, fun j _ hj g2 e => ((h.inn j hj).lt g2 e).2⟩
    have h3 := rowsC_at P ua uc hj
    rw [← ht, List.getElem?_take] at h3
    split at h3
    · simpa using h3
    · cases h3
end

end Go.Proofs.YtjijagnpcmonbaaDoor.J

/-
  digraph: the law's reach: a worklist, pure; rows of marks, in memory.
-/
namespace Go.Proofs.YtjijagnpcmonbaaDoor.J
open Go.RowKit Go.Maps Go.Shelf D

/-- A worklist from node i: what is marked, what is still to be gone on from; node n is under way, k of its steps are done. -/
structure RcP (N : Nat) (E : Nat → List Nat) (i : Nat) (V : Nat → Bool) (W : List Nat) (U : List (Nat × Nat)) : Prop where
  beg : V i = true
  snd : ∀ x, V x = true → x < N ∧ Rch E i x
  nd : W.Nodup
  wrk : ∀ x ∈ W, V x = true
  und : ∀ u ∈ U, V u.1 = true ∧ ∀ y ∈ (E u.1).take u.2, V y = true
  fin : ∀ x, V x = true → x ∈ W ∨ x ∈ U.map Prod.fst ∨ ∀ y ∈ E x, V y = true
theorem RcP.start {N : Nat} {E : Nat → List Nat} {i : Nat} (hi : i < N) : RcP N E i (markT (fun _ => false) i) [i] [] := by
  have key : ∀ x, markT (fun _ => false) i x = true → x = i := fun x h => by
    unfold markT at h
    by_cases e : x = i
    · exact e
    · simp [e] at h
  refine ⟨by simp [markT], fun x h => ?_, List.pairwise_singleton _ _, fun x h => ?_, fun u h => (by cases h), fun x h => .inl ?_⟩
  · rw [key x h]; exact ⟨hi, .refl _⟩
  · rw [List.mem_singleton.1 h]; simp [markT]
  · rw [key x h]; exact List.mem_singleton.2 rfl
section
variable {N : Nat} {E : Nat → List Nat} {i : Nat} {V : Nat → Bool} {W : List Nat}
theorem RcP.pop {n : Nat} (h : RcP N E i V (W ++ [n]) []) : RcP N E i V W [(n, 0)] := by
  refine ⟨h.beg, h.snd, (List.nodup_append.1 h.nd).1, fun x hx => h.wrk x (List.mem_append_left _ hx), fun u hu => ?_, fun x hx => ?_⟩
  · rw [List.mem_singleton.1 hu]
    exact ⟨h.wrk n (List.mem_append_right _ (List.mem_singleton.2 rfl)), fun y hy => by simp at hy⟩
  · rcases h.fin x hx with h1 | h1 | h1
    · rcases List.mem_append.1 h1 with h2 | h2
      · exact .inl h2
      · exact .inr (.inl (by simpa using h2))
    · simp at h1
    · exact .inr (.inr h1)
theorem RcP.skip {n k : Nat} (h : RcP N E i V W [(n, k)]) (hk : k < (E n).length) (hm : V ((E n).getD k 0) = true) : RcP N E i V W [(n, k + 1)] := by
  refine ⟨h.beg, h.snd, h.nd, h.wrk, fun u hu => ?_, fun x hx => by simpa using h.fin x hx⟩
  rw [List.mem_singleton.1 hu]
  obtain ⟨h1, h2⟩ := h.und _ (List.mem_singleton.2 rfl)
  refine ⟨h1, fun y hy => ?_⟩
  rw [List.take_succ_eq_append_getElem hk] at hy
  rcases List.mem_append.1 hy with h3 | h3
  · exact h2 y h3
  · rw [List.mem_singleton.1 h3]
    rwa [List.getD_eq_getElem?_getD, List.getElem?_eq_getElem hk] at hm
theorem RcP.push {n k : Nat} (h : RcP N E i V W [(n, k)]) (hk : k < (E n).length) (hm : V ((E n).getD k 0) = false) (hN : (E n).getD k 0 < N) : RcP N E i (markT V ((E n).getD k 0)) (W ++ [(E n).getD k 0]) [(n, k + 1)] := by
  have hmem : (E n).getD k 0 ∈ E n := by rw [List.getD_eq_getElem?_getD, List.getElem?_eq_getElem hk]; exact List.getElem_mem hk
  have e3 : (E n)[k] = (E n).getD k 0 := by rw [List.getD_eq_getElem?_getD, List.getElem?_eq_getElem hk]; rfl
  obtain ⟨t, ht⟩ : ∃ t, t = (E n).getD k 0 := ⟨_, rfl⟩
  rw [← ht] at hm hN hmem e3 ⊢
  have up : ∀ x, V x = true → markT V t x = true := fun x hx => by unfold markT; split <;> simp [hx]
  have self : markT V t t = true := by simp [markT]
  obtain ⟨h1, h2⟩ := h.und _ (List.mem_singleton.2 rfl)
  refine ⟨up _ h.beg, fun x hx => ?_, ?_, fun x hx => ?_, fun u hu => ?_, fun x hx => ?_⟩
  · unfold markT at hx
    by_cases e : x = t
    · rw [e]; exact ⟨hN, (h.snd n h1).2.trans (.one hmem)⟩
    · rw [if_neg e] at hx; exact h.snd x hx
  · refine List.nodup_append.2 ⟨h.nd, List.pairwise_singleton _ _, fun a ha b hb e => ?_⟩
    have := h.wrk a ha
    rw [e, List.mem_singleton.1 hb, hm] at this
    cases this
  · rcases List.mem_append.1 hx with h3 | h3
    · exact up _ (h.wrk x h3)
    · rw [List.mem_singleton.1 h3]; exact self
  · rw [List.mem_singleton.1 hu]
    refine ⟨up _ h1, fun y hy => ?_⟩
    rw [List.take_succ_eq_append_getElem hk] at hy
    rcases List.mem_append.1 hy with h3 | h3
    · exact up _ (h2 y h3)
    · rw [List.mem_singleton.1 h3, e3]; exact self
  · by_cases e : x = t
    · exact .inl (List.mem_append_right _ (List.mem_singleton.2 e))
    · unfold markT at hx
      rw [if_neg e] at hx
      rcases h.fin x hx with h3 | h3 | h3
      · exact .inl (List.mem_append_left _ h3)
      · exact .inr (.inl (by simpa using h3))
      · exact .inr (.inr fun y hy => up _ (h3 y hy))
theorem RcP.next {n k : Nat} (h : RcP N E i V W [(n, k)]) (hk : (E n).length ≤ k) : RcP N E i V W [] := by
  obtain ⟨_, h2⟩ := h.und _ (List.mem_singleton.2 rfl)
  have e : (E n).take k = E n := List.take_of_length_le hk
  simp only at h2
  rw [e] at h2
  refine ⟨h.beg, h.snd, h.nd, h.wrk, fun u hu => (by cases hu), fun x hx => ?_⟩
  rcases h.fin x hx with h3 | h3 | h3
  · exact .inl h3
  · have e2 : x = n := by simpa using h3
    rw [e2]; exact .inr (.inr h2)
  · exact .inr (.inr h3)
theorem RcP.done (h : RcP N E i V [] []) (x : Nat) : V x = true ↔ Rch E i x := by
  refine ⟨fun hx => (h.snd x hx).2, fun hx => ?_⟩
  have key : ∀ a b, Rch E a b → V a = true → V b = true := fun a b hab => by
    induction hab with
    | refl _ => exact id
    | step h1 _ ih =>
      intro ha
      rcases h.fin _ ha with h3 | h3 | h3
      · cases h3
      · simp at h3
      · exact ih (h3 _ h1)
  exact key i x hx h.beg
theorem RcP.len {U : List (Nat × Nat)} (h : RcP N E i V W U) : W.length ≤ N := nodup_len N W h.nd fun x hx => (h.snd x (h.wrk x hx)).1
end

/-- Rows of marks: the first k are there. -/
structure RhP (X : World) (B rb N : Nat) (g : Nat → Nat) (R : Nat → Nat → Bool) (k : Nat) : Prop where
  row : ValAt X rb N 60 (fun i => if i < k then .slice (some ⟨g i, 0, none⟩) N N else .slice none 0 0)
  inn : ∀ i, i < k → ValAt X (g i) N 4 (fun j => .bool (R i j))
  inj : ∀ i j, i < k → j < k → i ≠ j → g i ≠ g j
  lo : B ≤ rb ∧ ∀ i, i < k → B ≤ g i
theorem valAt_ne {X : World} {a b n m : Nat} {t u : TypeId} {c d : Nat → Value} (h : ValAt X a n t c) (k : ValAt X b m u d) (hne : t ≠ u) : a ≠ b := ne_type h k hne
section
variable {X Y : World} {B rb N k : Nat} {g : Nat → Nat} {R : Nat → Nat → Bool}
theorem RhP.kept (h : RhP X B rb N g R k) (hg : X.grownBy Y none) : RhP Y B rb N g R k := ⟨h.row.kept hg, fun i hi => (h.inn i hi).kept hg, h.inj, h.lo⟩
theorem RhP.other {b n : Nat} {e : TypeId} {c : Nat → Value} (h : RhP X B rb N g R k) (hb : ValAt X b n e c) (he : e ≠ 60 ∧ e ≠ 4) (hg : X.grownBy Y (some b)) : RhP Y B rb N g R k :=
  ⟨h.row.at hg (valAt_ne h.row hb fun h => he.1 h.symm), fun i hi => (h.inn i hi).at hg (valAt_ne (h.inn i hi) hb fun h => he.2 h.symm), h.inj, h.lo⟩
theorem RhP.own {B' n : Nat} {v : Value} {xs : List Value} (h : RhP X B rb N g R k) (ho : X.ownsRow B' 3 1 v n xs) (hg : X.grownBy Y v.ownBlock) : RhP Y B rb N g R k :=
  ⟨box_row h.row ho (by decide) hg, fun i hi => box_row (h.inn i hi) ho (by decide) hg, h.inj, h.lo⟩
/-- A row more, with no marks. -/
theorem RhP.put {gb : Nat} (h : RhP X B rb N g R k) (hg : X.grownBy Y none) (hn : ValAt Y gb N 4 (fun _ => .bool false)) (hgb : X.heap.size ≤ gb) (hB : B ≤ X.heap.size) : RhP (Y.setCell ⟨rb, k, none⟩ (.slice (some ⟨gb, 0, none⟩) N N)) B rb N (upd g k gb) (updC R k (fun _ => false)) (k + 1) := by
  have hY := h.kept hg
  have hs : Y.grownBy (Y.setCell ⟨rb, k, none⟩ (.slice (some ⟨gb, 0, none⟩) N N)) (some rb) := grown_setCell _ _ _
  refine ⟨(hY.row.set k _).ext fun i _ => ?_, fun i hi => ?_, fun i j hi hj hne => ?_, h.lo.1, fun i hi => ?_⟩
  · unfold J.put
    by_cases e : i = k
    · subst e
      rw [if_pos rfl, if_pos (by omega), upd_same]
    · rw [if_neg e, upd_other _ _ e]
      show (if i < k then Value.slice (some ⟨g i, 0, none⟩) N N else .slice none 0 0) = _
      by_cases e2 : i < k
      · rw [if_pos e2, if_pos (by omega)]
      · rw [if_neg e2, if_neg (by omega)]
  · by_cases e : i = k
    · subst e
      rw [upd_same, updC_same]
      exact hn.at hs (valAt_ne hn hY.row (by decide))
    · rw [upd_other _ _ e, updC_other _ _ e]
      have h1 := hY.inn i (by omega)
      exact h1.at hs (valAt_ne h1 hY.row (by decide))
  · by_cases e : i = k
    · subst e
      have e2 : j ≠ i := fun h => hne h.symm
      rw [upd_same, upd_other _ _ e2]
      have h1 := (h.inn j (by omega)).lt
      omega
    · by_cases e2 : j = k
      · subst e2
        rw [upd_same, upd_other _ _ e]
        have h1 := (h.inn i (by omega)).lt
        omega
      · rw [upd_other _ _ e, upd_other _ _ e2]
        exact h.inj i j (by omega) (by omega) hne
  · by_cases e : i = k
    · subst e; rw [upd_same]; omega
    · rw [upd_other _ _ e]; exact h.lo.2 i (by omega)
theorem RhP.ext {R' : Nat → Nat → Bool} (h : RhP X B rb N g R k) (e : ∀ i, i < k → ∀ j, j < N → R i j = R' i j) : RhP X B rb N g R' k :=
  ⟨h.row, fun i hi => (h.inn i hi).ext fun j hj => by rw [e i hi j hj], h.inj, h.lo⟩
end

/-- What reach tells. -/
def RchTold (w : World) (N : Nat) (E : Nat → List Nat) (e : Ending) (y : World) : Prop := ∃ rb g R, e = .returned (.slice (some ⟨rb, 0, none⟩) N N) ∧ RhP y w.heap.size rb N g R N ∧ (∀ i, i < N → ∀ j, R i j = true ↔ Rch E i j) ∧ w.grownBy y none

end Go.Proofs.YtjijagnpcmonbaaDoor.J

/-
  digraph: the law's reach.
-/
namespace Go.Proofs.YtjijagnpcmonbaaDoor.J
open Go.RowKit Go.Maps Go.Shelf D

attribute [local go_sem] Oper.semAt_some

end Go.Proofs.YtjijagnpcmonbaaDoor.J

/-
  digraph: what DigraphLeast asks, pure, and of the document's sets.
-/
namespace Go.Proofs.YtjijagnpcmonbaaDoor.J
open Go.RowKit Go.Maps Go.Shelf D

/-- What the first k nodes have of those to which a way leads. -/
def accM (O : Nat → List Nat) (R : Nat → Bool) : Nat → Nat
  | 0 => 0
  | k + 1 => if R k = true then (B.addS 1024 (accM O R k) (intL (O k))).1 else accM O R k
section
variable {n : Nat} {E : Nat → List Nat} {O : Nat → List Nat} {mk : Nat → Nat}
end
/-- Rows of marks stay where a block below them turns. -/
theorem RhP.below {X Y : World} {B rb N k b : Nat} {g : Nat → Nat} {R : Nat → Nat → Bool} (h : RhP X B rb N g R k) (hg : X.grownBy Y (some b)) (hb : b < B) : RhP Y B rb N g R k :=
  ⟨h.row.at hg (by have := h.lo.1; omega), fun i hi => (h.inn i hi).at hg (by have := h.lo.2 i hi; omega), h.inj, h.lo⟩
/-- .. where a row that lies below them turns. -/
theorem RhP.low {X Y : World} {B rb N k : Nat} {g : Nat → Nat} {R : Nat → Nat → Bool} {v : Value} (h : RhP X B rb N g R k) (hg : X.grownBy Y v.ownBlock) (hl : ∀ b, v.ownBlock = some b → b < B) : RhP Y B rb N g R k := by
  cases hv : v.ownBlock with
  | none => rw [hv] at hg; exact h.kept hg
  | some b => rw [hv] at hg; exact h.below hg (hl b hv)
theorem CqP.low {X Y : World} {B : Nat} {ka : Option Addr} {kc K : Nat} {Q : Nat → List Nat} {ua : Nat → Option Addr} {uc : Nat → Nat} {v : Value} (h : CqP X B ka kc K Q ua uc) (hg : X.grownBy Y v.ownBlock) (hl : ∀ b, v.ownBlock = some b → b < B) : CqP Y B ka kc K Q ua uc := by
  cases hv : v.ownBlock with
  | none => rw [hv] at hg; exact h.kept hg
  | some b => rw [hv] at hg; exact h.below hg (hl b hv)

end Go.Proofs.YtjijagnpcmonbaaDoor.J

/-
  digraph: the law's lent, of lists wherever they lie.
-/
namespace Go.Proofs.YtjijagnpcmonbaaDoor.J
open Go.RowKit Go.Maps Go.Shelf D

attribute [local go_sem] Oper.semAt_some

set_option maxRecDepth 100000 in
set_option maxHeartbeats 2000000 in
theorem dlent_w (w : World) (N : Nat) (la : Option Addr) (lc : Nat) (Q : Nat → List Int) (va : Nat → Option Addr) (vc : Nat → Nat) (hL : LwAt w la N Q va vc) (hnil : ∀ i, i < N → va i = none → (Q i).length = 0 ∧ vc i = 0) (hN : N ≤ 5864062014805) (hQ : ∀ i, i < N → (Q i).length ≤ 17592186044416) :
    Calls Tryd.prog 5 #[.slice la N lc] w fun e y => LentTold w N Q e y := by
  have HL := show Hid _ from hL
  have HNIL : Hid (∀ i, i < N → va i = none → (Q i).length = 0 ∧ vc i = 0) := hnil
  have HQ : Hid (∀ i, i < N → (Q i).length ≤ 17592186044416) := hQ
  obtain ⟨i0, hi0, hz0, hz1, hz2⟩ := info_parts infoInt
  obtain ⟨i1, hi1, hy0, hy1, hy2⟩ := info_parts infoRowsS
  clear hL hnil hQ
  go_enter Tryd.func5, Tryd.ntmps5
  go_wp2_with fail
  go_loopg [3, 4] N (fun gk v3 v4 wr => ∃ (k : Nat) (ka : Option Addr) (kc : Nat) (ua : Nat → Option Addr) (uc : Nat → Nat), k ≤ N ∧ gk = N - k ∧ v3 = .slice ka k kc ∧ v4 = .int .i64 k ∧ LtP wr w.heap.size ka kc k Q ua uc ∧ w.grownBy wr none)
  case atStart => exact ⟨0, none, 0, fun _ => none, fun _ => 0, Nat.zero_le _, rfl, rfl, rfl, ⟨World.ownsRow_nil _ _ _ _, fun j h => absurd h (Nat.not_lt_zero _)⟩, grown_refl _ _⟩
  case round =>
    obtain ⟨k, ka, kc, ua, uc, hk, hgk, rfl, rfl, hP, hg⟩ := hrel
    have HGK : Hid (gk = N - k) := hgk
    have HP := show Hid _ from hP
    have HG := show Hid _ from hg
    clear hgk hP hg
    by_cases hlt : k < N
    · have hkd : decide (k < N) = true := decide_eq_true hlt
      have hk0 : (0 : Int) ≤ (k : Int) := by omega
      have hk1 : (k : Int) < (N : Int) := by omega
      obtain ⟨lb, lo, rfl, c0⟩ : ∃ lb lo, la = some ⟨lb, lo, none⟩ ∧ w.cell? ⟨lb, lo + k, none⟩ = some (.slice (va k) (Q k).length (vc k)) := by
        rcases HL.out.1 with h | ⟨lb, lo, e, h⟩
        · omega
        · exact ⟨lb, lo, e, h k hlt⟩
      have c1 := HG.out.cell c0 (by simp)
      obtain ⟨a1, ha1⟩ : ∃ v, v = va k := ⟨_, rfl⟩
      obtain ⟨n1, hn1⟩ : ∃ v, v = (Q k).length := ⟨_, rfl⟩
      obtain ⟨cp1, hc1⟩ : ∃ v, v = vc k := ⟨_, rfl⟩
      rw [← ha1, ← hn1, ← hc1] at c1
      have c2 : ∀ o, (wr.alloc o).cell? ⟨lb, lo + k, none⟩ = some (.slice a1 n1 cp1) := fun o => (World.grownBy_alloc wr o none).cell c1 (by simp)
      have HN1 : Hid (n1 = (Q k).length) := hn1
      have hnb : n1 ≤ 17592186044416 := by rw [hn1]; exact HQ.out k hlt
      have HSR : Hid (∀ o, ∀ ad, a1 = some ad → ∀ j u, ((Q k).map (Value.int .i64))[j]? = some u → (wr.alloc o).cell? (ad.add j) = some u) := fun o => ints_src (by
        rw [ha1]
        exact (HL.out.2 k hlt).kept (grown_trans HG.out (World.grownBy_alloc _ _ none)))
      have HNL : Hid (a1 = none → n1 = 0 ∧ cp1 = 0) := by rw [ha1, hn1, hc1]; exact HNIL.out k hlt
      have HE0 : Hid ((wr.alloc (.cells #[] 3)).ownsRow w.heap.size 3 1 (.slice (some ⟨wr.heap.size, 0, none⟩) 0 0) 0 []) := ⟨rfl, .inr ⟨wr.heap.size, 0, #[], rfl, HG.out.size, heap_alloc_last wr _, Nat.le_refl _, Nat.zero_le _, rfl, rfl⟩⟩
      have HLL : Hid (((Q k).map (Value.int .i64)).length = n1 * 1) := by
        show _ = _
        rw [List.length_map, HN1.out, Nat.mul_one]
      have HSZ : Hid (∀ o, w.heap.size ≤ (wr.alloc o).heap.size) := fun o => Nat.le_trans HG.out.size (World.grownBy_alloc wr o none).size
      obtain ⟨xs, hxs⟩ : ∃ xs, xs = (Q k).map (Value.int .i64) := ⟨_, rfl⟩
      have HXS : Hid (xs = (Q k).map (Value.int .i64)) := hxs
      have HON : Hid (∀ u ∈ xs, u.oneCell' = true) := by rw [hxs]; exact ints_one _
      rw [← hxs] at HSR HLL
      clear c0 c1 ha1 hn1 hc1 hxs
      go_wp2_with (at_builtin; first
        | (refine wpList_append_srcW rfl (.tmp 12) (.tmp 16) 28 rfl w.heap.size 3 i0 (.int .i64 0) 1 8 Tryd.underlying28 hi0 hz0 hz1 hz2 rfl (by decide) (.slice (some ⟨wr.heap.size, 0, none⟩) 0 0) 0 [] rfl HE0.out a1 n1 cp1 xs rfl HNL.out HLL.out (HSR.out _) HON.out (by unfold maxLen; omega) (by omega) (HSZ.out _) ?_; intro v6 wA hoA hgA; rw [Nat.zero_add, List.nil_append] at hoA; obtain ⟨a6, c6, rfl⟩ := owns_slice hoA; have HGA : Hid (wr.grownBy wA none) := grown_new (World.grownBy_alloc _ _ none) hgA (Nat.le_refl _); have HRA : Hid (wA.ownsRow w.heap.size 3 1 (.slice a6 n1 c6) n1 xs) := hoA; have HPA := show Hid _ from (HP.out.kept HGA.out).kept (World.grownBy_alloc wA (.cells #[.slice a6 n1 c6] 28) none); have HNW : Hid (∀ j z, [Value.slice a6 n1 c6][j]? = some z → (wA.alloc (.cells #[.slice a6 n1 c6] 28)).cell? ((⟨wA.heap.size, 0, none⟩ : Addr).add j) = some z) := news_new wA _ _; have HS2 : Hid (w.heap.size ≤ (wA.alloc (.cells #[.slice a6 n1 c6] 28)).heap.size) := Nat.le_trans (Nat.le_trans HG.out.size HGA.out.size) (World.grownBy_alloc wA _ none).size; clear hoA hgA c2)
        | (refine wpList_append_srcW rfl (.tmp 11) (.tmp 18) 22 rfl w.heap.size 28 i1 (.slice none 0 0) 1 24 Tryd.underlying22 hi1 hy0 hy1 hy2 rfl (by decide) (.slice ka k kc) k (rowsZ k Q ua uc) rfl HPA.out.out (some ⟨wA.heap.size, 0, none⟩) 1 1 [.slice a6 n1 c6] rfl (fun h => by cases h) rfl (fun ad e => by cases e; exact HNW.out) (by simp [Value.oneCell']) (by unfold maxLen; omega) (by omega) HS2.out ?_; intro v7 wB hoB hgB; obtain ⟨ka7, kc7, rfl⟩ := owns_slice hoB; rw [HN1.out] at hoB; have HPB : Hid (LtP wB w.heap.size ka7 kc7 (k + 1) Q (updC ua k a6) (updC uc k c6)) := HPA.out.push (by rw [← HN1.out, ← HXS.out]; exact HRA.out.alloc _) hgB hoB; have HGB : Hid (w.grownBy wB none) := grown_row (grown_trans (grown_trans HG.out HGA.out) (World.grownBy_alloc _ _ none)) HPA.out.out (Nat.le_refl _) hgB; clear hoB hgB)
        | fail)
      go_roundg (N - (k + 1))
      case measure => have := HGK.out; omega
      case rel => exact ⟨k + 1, ka7, kc7, _, _, by omega, rfl, rfl, by go_num, HPB.out, HGB.out⟩
    · have hkn : N = k := by omega
      subst hkn
      have hkd : decide (N < N) = false := decide_eq_false (by omega)
      go_wp2_with fail
      go_ret
      exact ⟨ka, kc, ua, uc, rfl, HP.out, HG.out⟩

end Go.Proofs.YtjijagnpcmonbaaDoor.J

/-
  digraph: the document's walk.
-/
namespace Go.Proofs.YtjijagnpcmonbaaDoor.J
open Go.RowKit Go.Maps Go.Shelf D

attribute [local go_sem] Oper.semAt_some

theorem hidW {p : Prop} (h : p) : Hid p := h

/-- The three rows of a walk: the stack's nodes, how many of their steps are done, what is done with. -/
def wkQ (st : List (Nat × Nat)) (out : List Nat) : Nat → List Nat
  | 0 => (st.map Prod.fst).reverse
  | 1 => (st.map Prod.snd).reverse
  | _ => out
/-- A walk in memory. -/
structure WkAt (w X : World) (sb N : Nat) (S : Nat → Bool) (st : List (Nat × Nat)) (out : List Nat) (ua : Nat → Option Addr) (uc : Nat → Nat) : Prop where
  row : TrP X w.heap.size 3 (wkQ st out) ua uc
  mrk : ValAt X sb N 4 (fun i => .bool (S i))
  grw : w.grownBy X (some sb)

theorem WkAt.kept {w X Y : World} {sb N : Nat} {S : Nat → Bool} {st : List (Nat × Nat)} {out : List Nat} {ua : Nat → Option Addr} {uc : Nat → Nat} (h : WkAt w X sb N S st out ua uc) (hg : X.grownBy Y none) : WkAt w Y sb N S st out ua uc := ⟨h.row.kept hg, h.mrk.kept hg, grown_keepS h.grw hg⟩

/-- What a walk tells. -/
def WalkTold (w : World) (N : Nat) (E : Nat → List Nat) (frm sb : Nat) (S0 : Nat → Bool) (e : Ending) (y : World) : Prop := ∃ (oa : Option Addr) (oc : Nat) (S : Nat → Bool) (out : List Nat), e = .returned (.slice oa out.length oc) ∧ ((S0 frm = true ∧ out = [] ∧ S = S0) ∨ (S0 frm = false ∧ WdP N E frm S0 S out)) ∧ y.ownsRow w.heap.size 3 1 (.slice oa out.length oc) out.length (natV out) ∧ ValAt y sb N 4 (fun i => .bool (S i)) ∧ w.grownBy y (some sb)

set_option maxRecDepth 100000 in
set_option maxHeartbeats 4000000 in
theorem rwalk_any (w : World) (N : Nat) (ea : Option Addr) (ec : Nat) (E : Nat → List Nat) (eua : Nat → Option Addr) (euc : Nat → Nat) (hL : LwAt w ea N (fun i => intL (E i)) eua euc) (hN : N ≤ 5864062014805) (hEl : ∀ x, x < N → (E x).length ≤ 17592186044416) (hE : ∀ x, x < N → ∀ y ∈ E x, y < N) (sb sc : Nat) (S0 : Nat → Bool) (hS : ValAt w sb N 4 (fun i => .bool (S0 i))) (frm : Nat) (hf : frm < N) :
    Calls Tryd.prog 31 #[.slice ea N ec, .int .i64 (frm : Int), .slice (some ⟨sb, 0, none⟩) N sc] w fun e y => WalkTold w N E frm sb S0 e y := by
  have HLX : Hid (∀ X, w.grownBy X (some sb) → LwAt X ea N (fun i => intL (E i)) eua euc) := fun X hX => hL.marks hS hX
  have HEL : Hid (∀ x, x < N → (E x).length ≤ 17592186044416) := hEl
  have HEN : Hid (∀ x, x < N → ∀ y ∈ E x, y < N) := hE
  have HSB : Hid (sb < w.heap.size) := hS.lt
  have c0 := hS.cell frm hf
  have c1 := hS.free frm
  have hf0 : (0 : Int) ≤ (frm : Int) := by omega
  have hf1 : (frm : Int) < (N : Int) := by omega
  obtain ⟨i0, hi0, hz0, hz1, hz2⟩ := info_parts infoInt
  cases h0 : S0 frm with
  | true =>
    have HF : Hid (WalkTold w N E frm sb S0 (.returned (.slice none 0 0)) w) := ⟨none, 0, S0, [], rfl, .inl ⟨h0, rfl, rfl⟩, World.ownsRow_nil _ _ _ _, hS, grown_refl _ _⟩
    rw [h0] at c0
    clear hL hEl hE hS h0
    go_enter Tryd.func31, Tryd.ntmps31
    go_wp2_with fail
    go_ret
    exact HF.out
  | false =>
    have HW0 : Hid (WlP N E frm S0 (fun x => if x = frm then true else S0 x) [(frm, 0)] []) := WlP.start hf h0
    have HV1 : Hid (ValAt (w.setCell ⟨sb, frm, none⟩ (.bool true)) sb N 4 (fun i => .bool ((fun x => if x = frm then true else S0 x) i))) := (hS.set frm _).ext fun i _ => by
      unfold J.put
      by_cases e : i = frm
      · simp [e]
      · simp [e]
    have HG1 : Hid (w.grownBy (w.setCell ⟨sb, frm, none⟩ (.bool true)) (some sb)) := grown_setCell _ _ _
    obtain ⟨X1, hX1⟩ : ∃ X, X = w.setCell ⟨sb, frm, none⟩ (.bool true) := ⟨_, rfl⟩
    have hsz : X1.heap.size = w.heap.size := by rw [hX1]; simp
    rw [← hX1] at HV1 HG1
    have HK0 : Hid (WkAt w ((X1.alloc (.cells #[.int .i64 (frm : Int)] 3)).alloc (.cells #[.int .i64 0] 3)) sb N (fun x => if x = frm then true else S0 x) [(frm, 0)] [] (updC (updC (fun _ => none) 0 (some ⟨w.heap.size, 0, none⟩)) 1 (some ⟨w.heap.size + 1, 0, none⟩)) (updC (updC (fun _ => 0) 0 1) 1 1)) := by
      have ga := World.grownBy_alloc X1 (.cells #[.int .i64 (frm : Int)] 3) none
      have gb := World.grownBy_alloc (X1.alloc (.cells #[.int .i64 (frm : Int)] 3)) (.cells #[.int .i64 0] 3) none
      have o0 : (X1.alloc (.cells #[.int .i64 (frm : Int)] 3)).heap[w.heap.size]? = some (.cells #[.int .i64 (frm : Int)] 3 (0, 0)) := ga_new (by rw [hsz])
      have o1 : ((X1.alloc (.cells #[.int .i64 (frm : Int)] 3)).alloc (.cells #[.int .i64 0] 3)).heap[w.heap.size + 1]? = some (.cells #[.int .i64 0] 3 (0, 0)) := ga_new (by simp [hsz])
      refine ⟨⟨fun j hj => ?_, fun i j hi hj hne => ?_⟩, (HV1.out.kept ga).kept gb, ?_⟩
      · match j, hj with
        | 0, _ => exact ⟨rfl, .inr ⟨w.heap.size, 1, _, rfl, Nat.le_refl _, ga_old o0, Nat.le_refl _, by unfold maxLen; show 1 ≤ _; omega, rfl, rfl⟩⟩
        | 1, _ => exact ⟨rfl, .inr ⟨w.heap.size + 1, 1, _, rfl, Nat.le_succ _, o1, Nat.le_refl _, by unfold maxLen; show 1 ≤ _; omega, rfl, rfl⟩⟩
        | 2, _ => exact World.ownsRow_nil _ _ _ _
      · match i, hi, j, hj with
        | 0, _, 0, _ => exact absurd rfl hne
        | 0, _, 1, _ => exact .inr (by simp [updC, Value.ownBlock])
        | 0, _, 2, _ => exact .inr (by simp [updC, Value.ownBlock])
        | 1, _, 0, _ => exact .inr (by simp [updC, Value.ownBlock])
        | 1, _, 1, _ => exact absurd rfl hne
        | 1, _, 2, _ => exact .inr (by simp [updC, Value.ownBlock])
        | 2, _, _, _ => exact .inl (by simp [updC, Value.ownBlock])
      · exact grown_keepS HG1.out (grown_trans ga gb)
    have H00 : Hid (S0 frm = false) := h0
    have HX1 : Hid (X1 = w.setCell ⟨sb, frm, none⟩ (.bool true)) := hX1
    have HSZ : Hid (X1.heap.size = w.heap.size) := hsz
    rw [h0] at c0
    clear hL hEl hE hS h0 hX1 hsz HV1 HG1
    go_enter Tryd.func31, Tryd.ntmps31
    go_wp2_with fail
    rw [← HX1.out]
    clear c0 c1 HX1
    go_loopg [7, 8, 9] (wU E (fun x => if x = frm then true else S0 x) N + ((E frm).length + 1)) (fun gk v7 v8 v9 wr => ∃ (st : List (Nat × Nat)) (out : List Nat) (S : Nat → Bool) (ua : Nat → Option Addr) (uc : Nat → Nat) (m on : Nat), m = st.length ∧ on = out.length ∧ gk = wU E S N + wS E st ∧ v7 = .slice (ua 2) on (uc 2) ∧ v8 = .slice (ua 0) m (uc 0) ∧ v9 = .slice (ua 1) m (uc 1) ∧ WlP N E frm S0 S st out ∧ WkAt w wr sb N S st out ua uc)
    case atStart => exact ⟨[(frm, 0)], [], _, _, _, 1, 0, rfl, rfl, by unfold wS; simp, by simp [updC], by simp [updC], by simp [updC], HW0.out, HK0.out⟩
    case round =>
      clear HW0 HK0 HSZ
      obtain ⟨st, out, S, ua, uc, m, on, hm, hon, hgk, rfl, rfl, rfl, hW, hK⟩ := hrel
      have HGK : Hid (gk = wU E S N + wS E st) := hgk
      have HON := hidW hon
      have HW := hidW hW
      have HK := hidW hK
      clear hgk hon hW hK
      by_cases h0m : 0 < m
      · obtain ⟨u, c, st', rfl⟩ : ∃ u c st', st = (u, c) :: st' := by
          cases st with
          | nil => simp at hm; omega
          | cons f st' => exact ⟨f.1, f.2, st', rfl⟩
        obtain ⟨m', rfl⟩ : ∃ m', m = m' + 1 := ⟨m - 1, by omega⟩
        have hm' : m' = st'.length := by simpa using hm
        have HM := hidW hm'
        have hrow := HK.out.row
        have e0 : wkQ ((u, c) :: st') out 0 = (st'.map Prod.fst).reverse ++ [u] := by simp [wkQ]
        have e1 : wkQ ((u, c) :: st') out 1 = (st'.map Prod.snd).reverse ++ [c] := by simp [wkQ]
        have e2 : wkQ ((u, c) :: st') out 2 = out := rfl
        have r0 := hrow.inn 0 (by decide)
        have r1 := hrow.inn 1 (by decide)
        have r2 := hrow.inn 2 (by decide)
        rw [e0] at r0
        rw [e1] at r1
        rw [e2] at r2
        have l0 : ((st'.map Prod.fst).reverse ++ [u]).length = m' + 1 := by simp [hm']
        have l1 : ((st'.map Prod.snd).reverse ++ [c]).length = m' + 1 := by simp [hm']
        rw [l0] at r0
        rw [l1] at r1
        rw [← HON.out] at r2
        obtain ⟨nk, ncap, hnk, hnc⟩ := owns_at r0 (by omega)
        obtain ⟨xk, xcap, hxk, hxc⟩ := owns_at r1 (by omega)
        simp only [Value.slice.injEq] at hnk hxk
        have b0 := (owns_bounds r0).1
        have b1 := (owns_bounds r1).1
        have cn : wr.cell? ⟨nk, m', none⟩ = some (.int .i64 (u : Int)) := hnc m' _ (by rw [natV_append, List.getElem?_append_right (by rw [natV_len]; simp [hm']), natV_len]; simp [hm', natV])
        have cx : wr.cell? ⟨xk, m', none⟩ = some (.int .i64 (c : Int)) := hxc m' _ (by rw [natV_append, List.getElem?_append_right (by rw [natV_len]; simp [hm']), natV_len]; simp [hm', natV])
        have hlen : on + (m' + 1) ≤ N := by
          have h1 := nodup_len N (out ++ ((u, c) :: st').map Prod.fst) HW.out.nd fun x hx => (HW.out.new x (List.mem_append.1 hx)).2.1
          rw [List.length_append, List.length_map, List.length_cons, ← HON.out, ← hm'] at h1
          exact h1
        have hu := HW.out.new u (.inr (by simp))
        have huN := hu.2.1
        have hu0 : (0 : Int) ≤ (u : Int) := by omega
        have hu1 : (u : Int) < (N : Int) := by omega
        have hcl := (HW.out.cnt (u, c) (List.mem_cons_self ..)).1
        obtain ⟨ek, eo, hek, hec, hei⟩ : ∃ ek eo, ea = some ⟨ek, eo, none⟩ ∧ (∀ X, w.grownBy X (some sb) → X.cell? ⟨ek, eo + u, none⟩ = some (.slice (eua u) (E u).length (euc u))) ∧ ∀ X, w.grownBy X (some sb) → IntsAt X (eua u) (intL (E u)) := by
          have h1 := HLX.out w (grown_refl _ _)
          rcases h1.1 with h | ⟨ek, eo, e, h⟩
          · omega
          · refine ⟨ek, eo, e, fun X hX => ?_, fun X hX => (HLX.out X hX).2 u huN⟩
            rcases (HLX.out X hX).1 with h | ⟨ek2, eo2, e2, h⟩
            · omega
            · rw [e] at e2
              have e3 : ek = ek2 ∧ eo = eo2 := by simpa using e2
              obtain ⟨rfl, rfl⟩ := e3
              have := h u huN
              rwa [intL_length] at this
        subst hek
        obtain ⟨el, hel⟩ : ∃ v, v = (E u).length := ⟨_, rfl⟩
        obtain ⟨eau, heau⟩ : ∃ v, v = eua u := ⟨_, rfl⟩
        obtain ⟨ecu, hecu⟩ : ∃ v, v = euc u := ⟨_, rfl⟩
        rw [← hel, ← heau, ← hecu] at hec
        rw [← heau] at hei
        have hcl2 : c ≤ el := by rw [hel]; exact hcl
        have helb : el ≤ 17592186044416 := by rw [hel]; exact HEL.out u huN
        have HEE := hidW hel
        have HEC := hidW hec
        have HEI := hidW hei
        have ce := hec wr HK.out.grw
        have hmw : (m' : Int) ≤ (ncap : Int) := by rw [hnk.2.2] at b0; omega
        have hmx : (m' : Int) ≤ (xcap : Int) := by rw [hxk.2.2] at b1; omega
        have hm0 : (0 : Int) ≤ (m' : Int) := by omega
        have hmb : m' ≤ 5864062014805 := by omega
        have hmd : decide (0 < m' + 1) = true := decide_eq_true (by omega)
        rw [hnk.1, hnk.2.2, hxk.1, hxk.2.2]
        have HNK : Hid (ua 0 = some ⟨nk, 0, none⟩ ∧ uc 0 = ncap) := ⟨hnk.1, hnk.2.2⟩
        have HXK : Hid (ua 1 = some ⟨xk, 0, none⟩ ∧ uc 1 = xcap) := ⟨hxk.1, hxk.2.2⟩
        obtain ⟨oa, hoa⟩ : ∃ v, v = ua 2 := ⟨_, rfl⟩
        obtain ⟨oc, hoc⟩ : ∃ v, v = uc 2 := ⟨_, rfl⟩
        rw [← hoa, ← hoc]
        have HOA : Hid (ua 2 = oa ∧ uc 2 = oc) := ⟨hoa.symm, hoc.symm⟩
        have HE0 := hidW e0
        have HE1 := hidW e1
        have HL0 := hidW l0
        have HL1 := hidW l1
        clear hm hm' hrow e0 e1 e2 r0 r1 r2 hnc hxc b0 b1 hu hcl hel heau hecu hec hei hnk hxk hoa hoc l0 l1 h0m
        by_cases hce : c = el
        · subst hce
          have hcc : ((c : Int) == (c : Int)) = true := beq_self_eq_true _
          go_wp2_with fail
          go_quiet (fail)
          have hv1 := grown_drewN wr nq
          generalize wr.drewN nq = V1 at hv1 ⊢
          have HK1 := hidW (HK.out.kept hv1)
          clear hv1 cn cx ce
          have HRO : Hid (∀ o, (V1.alloc o).ownsRow w.heap.size 3 1 (.slice oa on oc) on (natV out)) := fun o => by
            have h1 := HK1.out.row.inn 2 (by decide)
            have e2 : wkQ ((u, c) :: st') out 2 = out := rfl
            rw [e2, ← HON.out, HOA.out.1, HOA.out.2] at h1
            exact h1.alloc _
          have HSZ2 : Hid (∀ o, w.heap.size ≤ (V1.alloc o).heap.size) := fun o => Nat.le_trans HK1.out.grw.size (World.grownBy_alloc V1 o none).size
          obtain ⟨xs, hxs⟩ : ∃ xs, xs = natV out := ⟨_, rfl⟩
          have HXS := hidW hxs
          rw [← hxs] at HRO
          clear hxs
          go_wp2_with (at_builtin; refine wpList_append_lies _ rfl (.tmp 43) (.tmp 45) 28 rfl w.heap.size 3 i0 (.int .i64 0) 1 8 Tryd.underlying28 hi0 hz0 hz1 hz2 rfl (by decide) (.slice oa on oc) on xs rfl (HRO.out _) ⟨V1.heap.size, 0, none⟩ 1 1 [.int .i64 (u : Int)] rfl rfl (World.news_of_block (heap_alloc_last V1 _)) (by simp [Value.oneCell']) (by decide) (by unfold maxLen; omega) (by omega) (HSZ2.out _) _ rfl ?_)
          intro g7 c7 V2 hoV hgV hat _
          have HW2 := hidW (HW.out.pop HEE.out)
          have HK2 : Hid (WkAt w V2 sb N S st' (out ++ [u]) (updC ua 2 (some ⟨g7, 0, none⟩)) (updC uc 2 c7)) := by
            have k1 := HK1.out.kept (World.grownBy_alloc V1 (.cells #[.int .i64 (u : Int)] 3) none)
            have ho1 := HRO.out (.cells #[.int .i64 (u : Int)] 3)
            have hg2 : (V1.alloc (.cells #[.int .i64 (u : Int)] 3)).grownBy V2 (Value.slice (ua 2) (wkQ ((u, c) :: st') out 2).length (uc 2)).ownBlock := by
              have e2 : wkQ ((u, c) :: st') out 2 = out := rfl
              rw [e2, ← HON.out, HOA.out.1, HOA.out.2]; exact hgV
            have h1 := k1.row.turn (f := 2) (L' := out ++ [u]) (m := on + 1) (c' := c7) (a' := some ⟨g7, 0, none⟩) (by decide) (by rw [List.length_append, ← HON.out]; rfl) hg2 (by rw [natV_append, ← HXS.out]; exact hoV) (fun g hg => by
              have e3 : g7 = g := by simpa [Value.ownBlock] using hg
              subst e3
              rcases hat with h | h
              · left
                have e2 : wkQ ((u, c) :: st') out 2 = out := rfl
                rw [e2, ← HON.out, HOA.out.1, HOA.out.2]; exact h
              · right
                have hz9 : (V1.alloc (.cells #[.int .i64 (u : Int)] 3)).heap.size = V1.heap.size + 1 := by simp
                omega)
            have h2 := (h1.cut (f := 0) (m := m') (by decide) (by rw [updC_other _ _ (by decide), HE0.out, HL0.out]; omega)).cut (f := 1) (m := m') (by decide) (by rw [updC_other _ _ (by decide), updC_other _ _ (by decide), HE1.out, HL1.out]; omega)
            refine ⟨h2.ext fun j hj => ?_, box_row k1.mrk ho1 (by decide) hgV, grown_rowS k1.grw ho1 (Nat.le_refl _) hgV⟩
            match j, hj with
            | 0, _ =>
              rw [updC_other _ _ (by decide), updC_same, updC_other _ _ (by decide), HE0.out, List.take_append_of_le_length (by simp [HM.out]), List.take_of_length_le (by simp [HM.out])]
              rfl
            | 1, _ =>
              rw [updC_same, updC_other _ _ (by decide), updC_other _ _ (by decide), HE1.out, List.take_append_of_le_length (by simp [HM.out]), List.take_of_length_le (by simp [HM.out])]
              rfl
            | 2, _ =>
              rw [updC_other _ _ (by decide), updC_other _ _ (by decide), updC_same]
              rfl
          have HMS : Hid (wU E S N + wS E st' < gk) := by
            have h1 := HGK.out
            have h2 : wS E ((u, c) :: st') = ((E u).length - c + 1) + wS E st' := by unfold wS; simp
            show _ < _
            omega
          have HN2 : Hid (on + 1 = (out ++ [u]).length) := by show _ = _; rw [List.length_append, ← HON.out]; rfl
          have HU2 : Hid (updC ua 2 (some ⟨g7, 0, none⟩) 0 = some ⟨nk, 0, none⟩ ∧ updC uc 2 c7 0 = ncap ∧ updC ua 2 (some ⟨g7, 0, none⟩) 1 = some ⟨xk, 0, none⟩ ∧ updC uc 2 c7 1 = xcap ∧ updC ua 2 (some ⟨g7, 0, none⟩) 2 = some ⟨g7, 0, none⟩ ∧ updC uc 2 c7 2 = c7) := ⟨by rw [updC_other _ _ (by decide)]; exact HNK.out.1, by rw [updC_other _ _ (by decide)]; exact HNK.out.2, by rw [updC_other _ _ (by decide)]; exact HXK.out.1, by rw [updC_other _ _ (by decide)]; exact HXK.out.2, updC_same _ _ _, updC_same _ _ _⟩
          clear hoV hgV hat
          go_wp2_with fail
          go_roundg (wU E S N + wS E st')
          all_goals first
            | exact (show ∃ (s2 : List (Nat × Nat)), _ from ⟨st', out ++ [u], S, _, _, m', on + 1, HM.out, HN2.out, rfl, by rw [HU2.out.2.2.2.2.1, HU2.out.2.2.2.2.2], by rw [HU2.out.1, HU2.out.2.1], by rw [HU2.out.2.2.1, HU2.out.2.2.2.1], HW2.out, HK2.out⟩)
            | exact HMS.out
        · have hce2 : c < el := by omega
          have hcc : ((c : Int) == (el : Int)) = false := beq_eq_false_iff_ne.2 (by omega)
          have hc0 : (0 : Int) ≤ (c : Int) := by omega
          have hc1 : (c : Int) < (el : Int) := by omega
          have hcE : c < (E u).length := by rw [← HEE.out]; exact hce2
          obtain ⟨fb, fo, hfa, hfe⟩ : ∃ fb fo, eau = some ⟨fb, fo, none⟩ ∧ ∀ X, w.grownBy X (some sb) → X.cell? ⟨fb, fo + c, none⟩ = some (.int .i64 (((E u).getD c 0 : Nat) : Int)) := by
            rcases HEI.out w (grown_refl _ _) with h1 | ⟨fb, fo, e, _⟩
            · have h2 := intL_length (E u)
              rw [h1] at h2
              simp at h2
              omega
            · refine ⟨fb, fo, e, fun X hX => ?_⟩
              rcases HEI.out X hX with h1 | ⟨fb2, fo2, e2, h1⟩
              · have h2 := intL_length (E u)
                rw [h1] at h2
                simp at h2
                omega
              · rw [e] at e2
                have e3 : fb = fb2 ∧ fo = fo2 := by simpa using e2
                obtain ⟨rfl, rfl⟩ := e3
                have h3 := h1 c (by rw [intL_length]; exact hcE)
                rw [intL_at] at h3
                exact h3
          subst hfa
          have htE : (E u).getD c 0 ∈ E u := by rw [List.getD_eq_getElem?_getD, List.getElem?_eq_getElem hcE]; exact List.getElem_mem hcE
          have htN := HEN.out u huN _ htE
          have HSK : Hid (S ((E u).getD c 0) = true → WlP N E frm S0 S ((u, c + 1) :: st') out) := fun h => HW.out.skip hcE h
          have HPU : Hid (S ((E u).getD c 0) = false → WlP N E frm S0 (markT S ((E u).getD c 0)) (((E u).getD c 0, 0) :: (u, c + 1) :: st') out) := fun h => HW.out.push hcE h htN
          obtain ⟨t, ht⟩ : ∃ v, v = (E u).getD c 0 := ⟨_, rfl⟩
          rw [← ht] at hfe htN HSK HPU
          have HFE := hidW hfe
          have ht0 : (0 : Int) ≤ (t : Int) := by omega
          have ht1 : (t : Int) < (N : Int) := by omega
          go_wp2_with fail
          go_quiet (fail)
          have hv1 := grown_drewN wr nq
          generalize wr.drewN nq = V1 at hv1 ⊢
          have HK1 := hidW (HK.out.kept hv1)
          have cx1 := hv1.cell cx (by simp)
          have ce1 := hv1.cell ce (by simp)
          have cf1 := hfe V1 (grown_keepS HK.out.grw hv1)
          clear hv1 cn cx ce htE ht hfe
          go_wp2_with fail
          go_quiet (fail)
          have hv2 := grown_drewN V1 nq
          generalize V1.drewN nq = V2 at hv2 ⊢
          have HK2 := hidW (HK1.out.kept hv2)
          have cx2 := hv2.cell cx1 (by simp)
          clear hv2 cx1 ce1 cf1
          have hr1 := HK2.out.row.inn 1 (by decide)
          rw [HE1.out, HL1.out, HXK.out.1, HXK.out.2] at hr1
          have fx2 : V2.frozen? ⟨xk, m', none⟩ = false := by
            rcases hr1.2 with ⟨h, _⟩ | ⟨g, cap, cur, hv, _, hh, _⟩
            · cases h
            · simp only [Value.slice.injEq, Option.some.injEq, Addr.mk.injEq, and_true] at hv
              rw [hv.1]; exact frozen_of_row _ _ _ _ _ hh
          have hs3 : V2.grownBy (V2.setCell ⟨xk, m', none⟩ (.int .i64 ((c : Int) + 1))) (some xk) := grown_setCell _ _ _
          have hxw : w.heap.size ≤ xk := (hr1.lt xk rfl).1
          have hT3 : TrP (V2.setCell ⟨xk, m', none⟩ (.int .i64 ((c : Int) + 1))) w.heap.size 3 (wkQ ((u, c + 1) :: st') out) ua uc := by
            have ho := owns_set (j := m') hr1 (.int .i64 ((c : Int) + 1))
            have e9 : (natV ((st'.map Prod.snd).reverse ++ [c])).set m' (.int .i64 ((c : Int) + 1)) = natV ((st'.map Prod.snd).reverse ++ [c + 1]) := by
              have hl : m' = (natV ((st'.map Prod.snd).reverse)).length := by rw [natV_len]; simp [HM.out]
              rw [natV_append, natV_append, List.set_append_right _ _ (by rw [← hl]; exact Nat.le_refl _), ← hl, Nat.sub_self]
              simp [natV]
            rw [e9] at ho
            have h1 := HK2.out.row.turn (f := 1) (L' := (st'.map Prod.snd).reverse ++ [c + 1]) (m := m' + 1) (c' := uc 1) (a' := ua 1) (by decide) (by simp [HM.out]) (by rw [HE1.out, HL1.out, HXK.out.1]; exact hs3) (by rw [HXK.out.1, HXK.out.2]; exact ho) (fun g hg => .inl (by rw [HE1.out, HL1.out]; exact hg))
            rw [updC_self, updC_self] at h1
            refine h1.ext fun j hj => ?_
            match j, hj with
            | 0, _ => rw [updC_other _ _ (by decide)]; simp [wkQ]
            | 1, _ => rw [updC_same]; simp [wkQ]
            | 2, _ => rw [updC_other _ _ (by decide)]; rfl
          have hV3 : ValAt (V2.setCell ⟨xk, m', none⟩ (.int .i64 ((c : Int) + 1))) sb N 4 (fun i => .bool (S i)) := HK2.out.mrk.at hs3 (by have := HSB.out; omega)
          have hG3 : w.grownBy (V2.setCell ⟨xk, m', none⟩ (.int .i64 ((c : Int) + 1))) (some sb) := grown_newS HK2.out.grw hs3 hxw
          have HK3 : Hid (WkAt w (V2.setCell ⟨xk, m', none⟩ (.int .i64 ((c : Int) + 1))) sb N S ((u, c + 1) :: st') out ua uc) := ⟨hT3, hV3, hG3⟩
          have cs3 := hV3.cell t htN
          have fs3 := hV3.free t
          have HWS : Hid (wS E ((u, c) :: st') = wS E ((u, c + 1) :: st') + 1) := by
            have h1 := HEE.out
            show wS E ((u, c) :: st') = wS E ((u, c + 1) :: st') + 1
            unfold wS
            simp only [List.map_cons, List.sum_cons]
            omega
          clear hr1 hs3 hT3 hV3 hG3 hcE
          cases hst : S t with
          | true =>
            have HW2 := hidW (HSK.out hst)
            rw [hst] at cs3
            have HMS : Hid (wU E S N + wS E ((u, c + 1) :: st') < gk) := by
              have h1 := HGK.out
              have h2 := HWS.out
              show _ < _
              omega
            have HMM : Hid (m' + 1 = ((u, c + 1) :: st').length) := by show _ = _; rw [List.length_cons, ← HM.out]
            clear hst
            go_wp2_with fail
            go_roundg (wU E S N + wS E ((u, c + 1) :: st'))
            all_goals first
              | exact (show ∃ (s2 : List (Nat × Nat)), _ from ⟨(u, c + 1) :: st', out, S, ua, uc, m' + 1, on, HMM.out, HON.out, rfl, by rw [HOA.out.1, HOA.out.2], by rw [HNK.out.1, HNK.out.2], by rw [HXK.out.1, HXK.out.2], HW2.out, HK3.out⟩)
              | exact HMS.out
          | false =>
            have HW2 := hidW (HPU.out hst)
            have HUM := hidW (wU_mark E S t hst N htN)
            rw [hst] at cs3
            obtain ⟨X3, hX3⟩ : ∃ X, X = V2.setCell ⟨xk, m', none⟩ (.int .i64 ((c : Int) + 1)) := ⟨_, rfl⟩
            have hK3 := HK3.out
            rw [← hX3] at hK3
            have hs4 : X3.grownBy (X3.setCell ⟨sb, t, none⟩ (.bool true)) (some sb) := grown_setCell _ _ _
            have HT4 := hidW (hK3.row.below hs4 HSB.out)
            have HV4 : Hid (ValAt (X3.setCell ⟨sb, t, none⟩ (.bool true)) sb N 4 (fun i => .bool (markT S t i))) := (hK3.mrk.set t _).ext fun i _ => by
              unfold J.put markT
              by_cases e : i = t
              · simp [e]
              · simp [e]
            have HG4 : Hid (w.grownBy (X3.setCell ⟨sb, t, none⟩ (.bool true)) (some sb)) := grown_trans hK3.grw hs4
            have HR4 : Hid (∀ o, ((X3.setCell ⟨sb, t, none⟩ (.bool true)).alloc o).ownsRow w.heap.size 3 1 (.slice (some ⟨nk, 0, none⟩) (m' + 1) ncap) (m' + 1) (natV ((st'.map Prod.fst).reverse ++ [u]))) := fun o => by
              have h1 := (HT4.out.kept (World.grownBy_alloc _ o none)).inn 0 (by decide)
              have e9 : wkQ ((u, c + 1) :: st') out 0 = (st'.map Prod.fst).reverse ++ [u] := by simp [wkQ]
              rw [e9, HL0.out, HNK.out.1, HNK.out.2] at h1
              exact h1
            have HSZ4 : Hid (∀ o, w.heap.size ≤ ((X3.setCell ⟨sb, t, none⟩ (.bool true)).alloc o).heap.size) := fun o => Nat.le_trans HG4.out.size (World.grownBy_alloc _ o none).size
            rw [hX3] at HT4 HV4 HG4 HR4 HSZ4
            obtain ⟨xs, hxs⟩ : ∃ xs, xs = natV ((st'.map Prod.fst).reverse ++ [u]) := ⟨_, rfl⟩
            have HXS := hidW hxs
            rw [← hxs] at HR4
            clear hxs hs4 hK3 hX3 hst
            have HNX : Hid (∀ j z, [Value.int .i64 (t : Int)][j]? = some z → (((V2.setCell ⟨xk, m', none⟩ (.int .i64 ((c : Int) + 1))).setCell ⟨sb, t, none⟩ (.bool true)).alloc (.cells #[.int .i64 (t : Int)] 3)).cell? ((⟨V2.heap.size, 0, none⟩ : Addr).add j) = some z) := World.news_of_block (ga_new (by simp))
            have HMS : Hid (wU E (markT S t) N + wS E ((t, 0) :: (u, c + 1) :: st') < gk) := by
              have h1 := HGK.out
              have h2 := HWS.out
              have h3 := HUM.out
              have h4 : wS E ((t, 0) :: (u, c + 1) :: st') = ((E t).length + 1) + wS E ((u, c + 1) :: st') := by unfold wS; simp only [List.map_cons, List.sum_cons]; omega
              show _ < _
              omega
            have HMM : Hid (m' + 1 + 1 = ((t, 0) :: (u, c + 1) :: st').length) := by show _ = _; rw [List.length_cons, List.length_cons, ← HM.out]
            clear HWS HUM HSK HPU HK3 HK2 HK1
            go_wp2_with (at_builtin; first
              | (refine wpList_append_lies _ rfl (.tmp 79) (.tmp 81) 28 rfl w.heap.size 3 i0 (.int .i64 0) 1 8 Tryd.underlying28 hi0 hz0 hz1 hz2 rfl (by decide) (.slice (some ⟨nk, 0, none⟩) (m' + 1) ncap) (m' + 1) xs rfl (HR4.out _) ⟨V2.heap.size, 0, none⟩ 1 1 [.int .i64 (t : Int)] rfl rfl HNX.out (by simp [Value.oneCell']) (by decide) (by unfold maxLen; omega) (by omega) (HSZ4.out _) _ rfl ?_)
              | fail)
            intro g7 c7 V5 hoV hgV hat _
            obtain ⟨X4, hX4⟩ : ∃ X, X = ((V2.setCell ⟨xk, m', none⟩ (.int .i64 ((c : Int) + 1))).setCell ⟨sb, t, none⟩ (.bool true)).alloc (.cells #[.int .i64 (t : Int)] 3) := ⟨_, rfl⟩
            have hz4 : X4.heap.size = V2.heap.size + 1 := by rw [hX4]; simp
            have HR4X := HR4.out (.cells #[.int .i64 (t : Int)] 3)
            have hT4 := HT4.out.kept (World.grownBy_alloc _ (.cells #[.int .i64 (t : Int)] 3) none)
            have hV4 := HV4.out.kept (World.grownBy_alloc _ (.cells #[.int .i64 (t : Int)] 3) none)
            have hG4 := grown_keepS HG4.out (World.grownBy_alloc _ (.cells #[.int .i64 (t : Int)] 3) none)
            rw [← hX4] at HR4X hT4 hV4 hG4 hgV
            have e90 : wkQ ((u, c + 1) :: st') out 0 = (st'.map Prod.fst).reverse ++ [u] := by simp [wkQ]
            have h5 := hT4.turn (f := 0) (L' := (st'.map Prod.fst).reverse ++ [u] ++ [t]) (m := m' + 1 + 1) (c' := c7) (a' := some ⟨g7, 0, none⟩) (by decide) (by simp [HM.out]) (by rw [e90, HL0.out, HNK.out.1, HNK.out.2]; exact hgV) (by rw [natV_append, ← HXS.out]; exact hoV) (fun g hg => by
              have e3 : g7 = g := by simpa [Value.ownBlock] using hg
              subst e3
              rcases hat with h | h
              · left; rw [e90, HL0.out, HNK.out.1, HNK.out.2]; exact h
              · right
                have h9 : g7 = V2.heap.size + 1 := by simpa using h
                omega)
            have HT5 := hidW h5
            have HV5 : Hid (ValAt V5 sb N 4 (fun i => .bool (markT S t i))) := box_row hV4 HR4X (by decide) hgV
            have HG5 : Hid (w.grownBy V5 (some sb)) := grown_rowS hG4 HR4X (Nat.le_refl _) hgV
            have HR5 : Hid (∀ o, (V5.alloc o).ownsRow w.heap.size 3 1 (.slice (some ⟨xk, 0, none⟩) (m' + 1) xcap) (m' + 1) (natV ((st'.map Prod.snd).reverse ++ [c + 1]))) := fun o => by
              have h1 := (HT5.out.kept (World.grownBy_alloc V5 o none)).inn 1 (by decide)
              have e9 : wkQ ((u, c + 1) :: st') out 1 = (st'.map Prod.snd).reverse ++ [c + 1] := by simp [wkQ]
              have el9 : ((st'.map Prod.snd).reverse ++ [c + 1]).length = m' + 1 := by simp [HM.out]
              rw [updC_other _ _ (by decide), updC_other _ _ (by decide), updC_other _ _ (by decide), e9, el9, HXK.out.1, HXK.out.2] at h1
              exact h1
            have HSZ5 : Hid (∀ o, w.heap.size ≤ (V5.alloc o).heap.size) := fun o => Nat.le_trans HG5.out.size (World.grownBy_alloc V5 o none).size
            obtain ⟨ys, hys⟩ : ∃ ys, ys = natV ((st'.map Prod.snd).reverse ++ [c + 1]) := ⟨_, rfl⟩
            have HYS := hidW hys
            rw [← hys] at HR5
            clear hoV hgV hat hX4 hz4 HR4X hT4 hV4 hG4 e90 h5 hys HNX HR4 HSZ4 HT4 HV4 HG4 cs3 fs3 fx2 cx2
            go_wp2_with (at_builtin; refine wpList_append_lies _ rfl (.tmp 83) (.tmp 84) 28 rfl w.heap.size 3 i0 (.int .i64 0) 1 8 Tryd.underlying28 hi0 hz0 hz1 hz2 rfl (by decide) (.slice (some ⟨xk, 0, none⟩) (m' + 1) xcap) (m' + 1) ys rfl (HR5.out _) ⟨V5.heap.size, 0, none⟩ 1 1 [.int .i64 0] rfl rfl (World.news_of_block (heap_alloc_last V5 _)) (by simp [Value.oneCell']) (by decide) (by unfold maxLen; omega) (by omega) (HSZ5.out _) _ rfl ?_)
            intro g8 c8 V6 hoV hgV hat _
            have hR5X := HR5.out (.cells #[.int .i64 0] 3)
            have hT5 := HT5.out.kept (World.grownBy_alloc V5 (.cells #[.int .i64 0] 3) none)
            have e91 : updC (wkQ ((u, c + 1) :: st') out) 0 ((st'.map Prod.fst).reverse ++ [u] ++ [t]) 1 = (st'.map Prod.snd).reverse ++ [c + 1] := by rw [updC_other _ _ (by decide)]; simp [wkQ]
            have el9 : ((st'.map Prod.snd).reverse ++ [c + 1]).length = m' + 1 := by simp [HM.out]
            have u1 : updC ua 0 (some ⟨g7, 0, none⟩) 1 = some ⟨xk, 0, none⟩ := by rw [updC_other _ _ (by decide)]; exact HXK.out.1
            have u2 : updC uc 0 c7 1 = xcap := by rw [updC_other _ _ (by decide)]; exact HXK.out.2
            have h6 := hT5.turn (f := 1) (L' := (st'.map Prod.snd).reverse ++ [c + 1] ++ [0]) (m := m' + 1 + 1) (c' := c8) (a' := some ⟨g8, 0, none⟩) (by decide) (by simp [HM.out]) (by rw [e91, el9, u1, u2]; exact hgV) (by rw [natV_append, ← HYS.out]; exact hoV) (fun g hg => by
              have e3 : g8 = g := by simpa [Value.ownBlock] using hg
              subst e3
              rcases hat with h | h
              · left; rw [e91, el9, u1, u2]; exact h
              · right
                have hz9 : (V5.alloc (.cells #[.int .i64 0] 3)).heap.size = V5.heap.size + 1 := by simp
                omega)
            have HK6 : Hid (WkAt w V6 sb N (markT S t) ((t, 0) :: (u, c + 1) :: st') out (updC (updC ua 0 (some ⟨g7, 0, none⟩)) 1 (some ⟨g8, 0, none⟩)) (updC (updC uc 0 c7) 1 c8)) := by
              refine ⟨h6.ext fun j hj => ?_, box_row (HV5.out.kept (World.grownBy_alloc V5 _ none)) hR5X (by decide) hgV, grown_rowS (grown_keepS HG5.out (World.grownBy_alloc V5 _ none)) hR5X (Nat.le_refl _) hgV⟩
              match j, hj with
              | 0, _ => rw [updC_other _ _ (by decide), updC_same]; simp [wkQ]
              | 1, _ => rw [updC_same]; simp [wkQ]
              | 2, _ => rw [updC_other _ _ (by decide), updC_other _ _ (by decide)]; rfl
            have HU6 : Hid (updC (updC ua 0 (some ⟨g7, 0, none⟩)) 1 (some ⟨g8, 0, none⟩) 0 = some ⟨g7, 0, none⟩ ∧ updC (updC uc 0 c7) 1 c8 0 = c7 ∧ updC (updC ua 0 (some ⟨g7, 0, none⟩)) 1 (some ⟨g8, 0, none⟩) 1 = some ⟨g8, 0, none⟩ ∧ updC (updC uc 0 c7) 1 c8 1 = c8 ∧ updC (updC ua 0 (some ⟨g7, 0, none⟩)) 1 (some ⟨g8, 0, none⟩) 2 = oa ∧ updC (updC uc 0 c7) 1 c8 2 = oc) := ⟨by rw [updC_other _ _ (by decide), updC_same], by rw [updC_other _ _ (by decide), updC_same], updC_same _ _ _, updC_same _ _ _, by rw [updC_other _ _ (by decide), updC_other _ _ (by decide)]; exact HOA.out.1, by rw [updC_other _ _ (by decide), updC_other _ _ (by decide)]; exact HOA.out.2⟩
            clear hoV hgV hat hR5X hT5 e91 el9 u1 u2 h6
            go_wp2_with fail
            go_roundg (wU E (markT S t) N + wS E ((t, 0) :: (u, c + 1) :: st'))
            all_goals first
              | exact (show ∃ (s2 : List (Nat × Nat)), _ from ⟨(t, 0) :: (u, c + 1) :: st', out, markT S t, _, _, m' + 1 + 1, on, HMM.out, HON.out, rfl, by rw [HU6.out.2.2.2.2.1, HU6.out.2.2.2.2.2], by rw [HU6.out.1, HU6.out.2.1], by rw [HU6.out.2.2.1, HU6.out.2.2.2.1], HW2.out, HK6.out⟩)
              | exact HMS.out
      · have hm0 : m = 0 := by omega
        subst hm0
        have hst : st = [] := List.eq_nil_of_length_eq_zero hm.symm
        subst hst
        have HF : Hid (WalkTold w N E frm sb S0 (.returned (.slice (ua 2) on (uc 2))) wr) := by
          have h1 := HK.out.row.inn 2 (by decide)
          have e2 : wkQ [] out 2 = out := rfl
          rw [e2] at h1
          refine ⟨ua 2, uc 2, S, out, by rw [← HON.out], .inr ⟨H00.out, HW.out.done⟩, h1, HK.out.mrk, HK.out.grw⟩
        clear hm h0m
        go_wp2_with fail
        go_ret
        exact HF.out

end Go.Proofs.YtjijagnpcmonbaaDoor.J

/-
  digraph: the document's parts.
-/
namespace Go.Proofs.YtjijagnpcmonbaaDoor.J
open Go.RowKit Go.Maps Go.Shelf D

attribute [local go_sem] Oper.semAt_some

theorem infoBoolQ : (Tryd.prog.info? 4).map (fun i => (i.zero, i.size, i.bytes)) = some (some (.bool false), 1, 1) := by kernel_rfl

/-- What parts tells: numbers of components. -/
def PartsTold (w : World) (N : Nat) (E : Nat → List Nat) (e : Ending) (y : World) : Prop := ∃ (nb c : Nat) (num : Nat → Nat) (S : Nat → Bool), e = .returned (.tuple #[.slice (some ⟨nb, 0, none⟩) N N, .int .i64 (c : Int)]) ∧ ValAt y nb N 3 (fun x => .int .i64 ((c : Int) - 1 - (num x : Int))) ∧ NbP N E S num c ∧ (∀ x, x < N → S x = true) ∧ c ≤ N ∧ w.heap.size ≤ nb ∧ w.grownBy y none

/-- The numbers, once the first k of those that were gathered have theirs. -/
def nuK (num : Nat → Nat) (c : Nat) (out : List Nat) (k : Nat) : Nat → Nat := fun x => if x ∈ out.take k then c else num x
theorem nuK_step (num : Nat → Nat) (c : Nat) (out : List Nat) (k : Nat) (hk : k < out.length) (x : Nat) : nuK num c out (k + 1) x = if x = out.getD k 0 then c else nuK num c out k x := by
  have e : out.getD k 0 = out[k] := by rw [List.getD_eq_getElem?_getD, List.getElem?_eq_getElem hk]; rfl
  unfold nuK
  rw [e, List.take_succ_eq_append_getElem hk]
  by_cases h : x = out[k]
  · rw [if_pos h, if_pos (List.mem_append_right _ (List.mem_singleton.2 h))]
  · rw [if_neg h]
    have : x ∈ out.take k ++ [out[k]] ↔ x ∈ out.take k := by
      rw [List.mem_append, List.mem_singleton]
      exact ⟨fun h1 => h1.resolve_right h, .inl⟩
    simp only [this]

set_option maxRecDepth 100000 in
set_option maxHeartbeats 8000000 in
theorem rparts_any (w : World) (N : Nat) (ea : Option Addr) (ec : Nat) (E F : Nat → List Nat) (eua : Nat → Option Addr) (euc : Nat → Nat) (hL : LwAt w ea N (fun i => intL (E i)) eua euc) (hN : N ≤ 1048576) (hEl : ∀ x, x < N → (E x).length ≤ 17592186044416) (hE : ∀ x, x < N → ∀ y ∈ E x, y < N) (hF : ∀ x y, x < N → y < N → (y ∈ E x ↔ x ∈ F y)) (hFN : ∀ x, x < N → ∀ y ∈ F x, y < N) (hFl : ∀ x, x < N → (F x).length ≤ 17592186044416) (hTu : ∀ X, w.grownBy X none → Calls Tryd.prog 32 #[.slice ea N ec] X fun e y => MadeTold X N F e y) :
    Calls Tryd.prog 19 #[.slice ea N ec] w fun e y => PartsTold w N E e y := by
  have HWK : Hid (∀ (X : World) (sb : Nat) (S : Nat → Bool) (i : Nat), w.grownBy X none → ValAt X sb N 4 (fun i => .bool (S i)) → i < N → Calls Tryd.prog 31 #[.slice ea N ec, .int .i64 (i : Int), .slice (some ⟨sb, 0, none⟩) N N] X fun e y => WalkTold X N E i sb S e y) := fun X sb S i hX hS hi => rwalk_any X N ea ec E eua euc (hL.kept hX) (by omega) hEl hE sb N S hS i hi
  have HWF : Hid (∀ (X : World) (kb : Nat) (ub : Nat → Option Addr) (cb : Nat → Nat) (sb : Nat) (S : Nat → Bool) (i : Nat), LsAt X (some ⟨kb, 0, none⟩) N (fun i => intL (F i)) ub cb → ValAt X sb N 4 (fun i => .bool (S i)) → i < N → Calls Tryd.prog 31 #[.slice (some ⟨kb, 0, none⟩) N N, .int .i64 (i : Int), .slice (some ⟨sb, 0, none⟩) N N] X fun e y => WalkTold X N F i sb S e y) := fun X kb ub cb sb S i hX hS hi => rwalk_any X N _ N F ub cb hX.lw (by omega) hFl hFN sb N S hS i hi
  have HTU : Hid (∀ X, w.grownBy X none → Calls Tryd.prog 32 #[.slice ea N ec] X fun e y => MadeTold X N F e y) := hTu
  have HE : Hid (∀ x, x < N → ∀ y ∈ E x, y < N) := hE
  have HF : Hid (∀ x y, x < N → y < N → (y ∈ E x ↔ x ∈ F y)) := hF
  have HFN : Hid (∀ x, x < N → ∀ y ∈ F x, y < N) := hFN
  obtain ⟨i0, hi0, hz0, hz1, hz2⟩ := info_parts infoInt
  obtain ⟨i2, hi2, hx0, hx1, hx2⟩ := info_parts infoBoolQ
  clear hL hEl hE hF hFN hFl hTu
  go_enter Tryd.func19, Tryd.ntmps19
  go_wp2_with (at_make; refine wpList_make_full _ rfl _ _ 60 rfl w.heap.size 4 i2 (.bool false) 1 Tryd.underlying60 hi2 hx0 hx1 .i64 .i64 _ _ N rfl rfl (by simp) (by simp) (by rw [hx2]; omega) (by unfold maxLen; omega) (by simp) ?_)
  intro w1 hown hgrow
  have hval : ValAt w1 w.heap.size N 4 (fun _ => .bool false) := made_rowK (B := w.heap.size) rfl (by simpa [Value.cells] using hown)
  obtain ⟨sb, hsb⟩ : ∃ b, b = w.heap.size := ⟨_, rfl⟩
  rw [← hsb] at hval
  rw [← hsb]
  have HSB : Hid (w.heap.size ≤ sb) := by show _ ≤ _; omega
  have HV0 := hidW hval
  have HG0 := hidW hgrow
  clear hown hgrow hval hsb
  go_wp2_with fail
  go_loopg [5, 6] N (fun gk v5 v6 wr => ∃ (i : Nat) (L : List Nat) (S : Nat → Bool) (la : Option Addr) (lc ln : Nat), i ≤ N ∧ gk = N - i ∧ v5 = .slice la ln lc ∧ v6 = .int .i64 i ∧ ln = L.length ∧ wr.ownsRow w.heap.size 3 1 (.slice la ln lc) ln (natV L) ∧ ValAt wr sb N 4 (fun i => .bool (S i)) ∧ OrP N E S L ∧ w.grownBy wr none ∧ ∀ x, x < i → S x = true)
  case atStart => exact ⟨0, [], fun _ => false, none, 0, 0, Nat.zero_le _, rfl, rfl, rfl, rfl, World.ownsRow_nil _ _ _ _, HV0.out, OrP.start, HG0.out, fun x h => absurd h (Nat.not_lt_zero _)⟩
  case round =>
    clear HV0 HG0
    obtain ⟨i, L, S, la, lc, ln, hi, hgk, rfl, rfl, hln, hO, hV, hP, hG, hA⟩ := hrel
    have HGK : Hid (gk = N - i) := hgk
    have HLN := hidW hln
    have HO := hidW hO
    have HV := hidW hV
    have HP := hidW hP
    have HG := hidW hG
    have HA := hidW hA
    have hlnb : ln ≤ N := by rw [hln]; exact nodup_len N L hP.nd hP.lt
    clear hgk hln hO hV hP hG hA
    by_cases hlt : i < N
    · have hid : decide (i < N) = true := decide_eq_true hlt
      have hi0' : (0 : Int) ≤ (i : Int) := by omega
      have hi1' : (i : Int) < (N : Int) := by omega
      have HC := show Hid _ from HWK.out wr sb S i HG.out HV.out hlt
      go_wp2_with fail
      refine Calls.mono HC.out ?_
      rintro e y ⟨oa, oc, S', out, rfl, hcase, ho, hv, hgy⟩
      have HOY := hidW (HO.out.kept hgy (own_ne_val HO.out HV.out (by decide)))
      have HGY : Hid (w.grownBy y none) := grown_new HG.out hgy HSB.out
      have HVY := hidW hv
      have hnew : OrP N E S' (L ++ out) ∧ S' i = true ∧ ∀ x, S x = true → S' x = true := by
        rcases hcase with ⟨h1, rfl, rfl⟩ | ⟨h1, h2⟩
        · exact ⟨by rw [List.append_nil]; exact HP.out, h1, fun _ h => h⟩
        · exact ⟨HP.out.more h2, (h2.see i).2 (.inr h2.fin), fun x h => (h2.see x).2 (.inl h)⟩
      have HP2 := hidW hnew.1
      have HA2 : Hid (∀ x, x < i + 1 → S' x = true) := fun x hx => by
        by_cases e : x = i
        · rw [e]; exact hnew.2.1
        · exact hnew.2.2 x (HA.out x (by omega))
      have hob := nodup_len N (L ++ out) hnew.1.nd hnew.1.lt
      rw [List.length_append, ← HLN.out] at hob
      have HNIL : Hid (oa = none → out.length = 0 ∧ oc = 0) := (owns_bounds ho).2
      have HSRC : Hid (∀ ad, oa = some ad → ∀ j u, (natV out)[j]? = some u → y.cell? (ad.add j) = some u) := fun ad had j u hu => by
        have h1 := owned_ints (l := intL out) (by rw [show (intL out).map (Value.int .i64) = natV out by unfold intL natV; rw [List.map_map]; rfl]; exact ho) (by rw [intL_length])
        have h2 := ints_src h1 ad had j u
        rw [show (intL out).map (Value.int .i64) = natV out by unfold intL natV; rw [List.map_map]; rfl] at h2
        exact h2 hu
      obtain ⟨on, hon⟩ : ∃ v, v = out.length := ⟨_, rfl⟩
      rw [← hon] at hob HNIL
      rw [← hon]
      have HON := hidW hon
      have HLL : Hid ((natV out).length = on * 1) := by show _ = _; rw [natV_len, hon, Nat.mul_one]
      have HON1 : Hid (∀ u ∈ natV out, u.oneCell' = true) := natV_one out
      obtain ⟨ys, hys⟩ : ∃ ys, ys = natV out := ⟨_, rfl⟩
      have HYS := hidW hys
      obtain ⟨xs, hxs⟩ : ∃ xs, xs = natV L := ⟨_, rfl⟩
      have HXS := hidW hxs
      rw [← hys] at HSRC HLL HON1
      rw [← hxs] at HOY
      clear hcase ho hv hgy hnew hon hys hxs HC
      go_wp2_with (at_builtin; refine wpList_append_srcW rfl (.tmp 23) (.tmp 27) 28 rfl w.heap.size 3 i0 (.int .i64 0) 1 8 Tryd.underlying28 hi0 hz0 hz1 hz2 rfl (by decide) (.slice la ln lc) ln xs rfl HOY.out oa on oc ys rfl HNIL.out HLL.out HSRC.out HON1.out (by unfold maxLen; omega) (by omega) HGY.out.size ?_; intro v6 wA hoA hgA; obtain ⟨a6, c6, rfl⟩ := owns_slice hoA)
      have HOA : Hid (wA.ownsRow w.heap.size 3 1 (.slice a6 (ln + on) c6) (ln + on) (natV (L ++ out))) := by rw [natV_append, ← HXS.out, ← HYS.out]; exact hoA
      have HVA : Hid (ValAt wA sb N 4 (fun i => .bool (S' i))) := box_row HVY.out HOY.out (by decide) hgA
      have HGA : Hid (w.grownBy wA none) := grown_row HGY.out HOY.out (Nat.le_refl _) hgA
      have HLA : Hid (ln + on = (L ++ out).length) := by show _ = _; rw [List.length_append, ← HLN.out, ← HON.out]
      clear hoA hgA
      go_wp2_with fail
      go_roundg (N - (i + 1))
      all_goals first
        | exact (show ∃ (i' : Nat), _ from ⟨i + 1, L ++ out, S', a6, c6, ln + on, by omega, rfl, rfl, by go_num, HLA.out, HOA.out, HVA.out, HP2.out, HGA.out, HA2.out⟩)
        | (have := HGK.out; omega)
    · have hin : N = i := by omega
      subst hin
      have hid : decide (N < N) = false := decide_eq_false (by omega)
      have HAL : Hid (∀ x, x < N → x ∈ L) := fun x hx => (HP.out.see x).1 (HA.out x hx)
      have HT1 := show Hid _ from HTU.out wr HG.out
      clear HGK hlt HA HV
      go_wp2_with fail
      refine Calls.mono HT1.out ?_
      rintro e w2 ⟨kb, ub, cb, rfl, hC, hg2⟩
      have HLF : Hid (∀ X, w2.grownBy X none → LsAt X (some ⟨kb, 0, none⟩) N (fun i => intL (F i)) ub cb) := fun X hX => (hC.kept hX).ls
      have HO2 := hidW (keep0 HO.out hg2)
      have HG2 := hidW (grown_trans HG.out hg2)
      clear hC hg2 HT1 HO HG
      go_wp2_with (at_make; first
        | (refine wpList_make_full _ rfl _ _ 60 rfl w2.heap.size 4 i2 (.bool false) 1 Tryd.underlying60 hi2 hx0 hx1 .i64 .i64 _ _ N rfl rfl (by simp) (by simp) (by rw [hx2]; omega) (by unfold maxLen; omega) (by simp) ?_; intro w3 hown3 hgrow3)
        | (refine wpList_make_full _ rfl _ _ 28 rfl w3.heap.size 3 i0 (.int .i64 0) 1 Tryd.underlying28 hi0 hz0 hz1 .i64 .i64 _ _ N rfl rfl (by simp) (by simp) (by rw [hz2]; omega) (by unfold maxLen; omega) (by simp) ?_; intro w4 hown4 hgrow4)
        | fail)
      have hval3 : ValAt w3 w2.heap.size N 4 (fun _ => .bool false) := made_rowK (B := w2.heap.size) rfl (by simpa [Value.cells] using hown3)
      have hval4 : ValAt w4 w3.heap.size N 3 (fun _ => .int .i64 0) := made_rowK (B := w3.heap.size) rfl (by simpa [Value.cells] using hown4)
      obtain ⟨sc, hsc⟩ : ∃ b, b = w2.heap.size := ⟨_, rfl⟩
      obtain ⟨nb, hnb⟩ : ∃ b, b = w3.heap.size := ⟨_, rfl⟩
      have hsn : sc < nb := by have := hval3.lt; omega
      rw [← hsc] at hval3
      rw [← hnb] at hval4
      rw [← hsc, ← hnb]
      have HV0 : Hid (ValAt w4 sc N 4 (fun i => .bool ((fun _ => false) i))) := hval3.kept hgrow4
      have HN0 : Hid (ValAt w4 nb N 3 (fun i => .int .i64 (((fun _ => 0) i : Nat) : Int))) := hval4
      have HG0 : Hid (w2.grownBy w4 none) := grown_trans hgrow3 hgrow4
      have HSN : Hid (w2.heap.size ≤ sc ∧ sc < nb) := ⟨by omega, hsn⟩
      have HLT0 : Hid (∀ p x, ln ≤ p → L[p]? = some x → (fun _ : Nat => false) x = true) := fun p x hp hx => by
        have := (List.getElem?_eq_some_iff.1 hx).1
        have := HLN.out
        omega
      clear hown3 hgrow3 hown4 hgrow4 hval3 hval4 hsc hnb hsn
      go_wp2_with fail
      go_loopg [9, 10] ln (fun gk v9 v10 wr => ∃ (m : Nat) (zv : Int) (S : Nat → Bool) (num : Nat → Nat) (c : Nat), m ≤ ln ∧ zv = (m : Int) - 1 ∧ gk = m ∧ v9 = .int .i64 c ∧ v10 = .int .i64 zv ∧ c + m ≤ ln ∧ ValAt wr sc N 4 (fun i => .bool (S i)) ∧ ValAt wr nb N 3 (fun i => .int .i64 (num i : Int)) ∧ NbP N E S num c ∧ (∀ p x, m ≤ p → L[p]? = some x → S x = true) ∧ w2.grownBy wr none)
      case atStart => exact ⟨ln, (ln : Int) - 1, fun _ => false, fun _ => 0, 0, Nat.le_refl _, rfl, rfl, rfl, by go_num, by omega, HV0.out, HN0.out, NbP.start, HLT0.out, HG0.out⟩
      case round =>
        clear HV0 HN0 HG0 HLT0
        obtain ⟨m, zv, S, num, c, hm, hzv, hgm, rfl, rfl, hcm, hV, hNu, hNb, hLt, hG⟩ := hrel
        have HGM : Hid (gk = m) := hgm
        have HZV : Hid (zv = (m : Int) - 1) := hzv
        have HV := hidW hV
        have HNU := hidW hNu
        have HNB := hidW hNb
        have HLT := hidW hLt
        have HG := hidW hG
        clear hgm hzv hV hNu hNb hLt hG
        by_cases hz0' : 0 ≤ zv
        · obtain ⟨m', rfl⟩ := Int.eq_ofNat_of_zero_le hz0'
          have hmm : m = m' + 1 := by have := HZV.out; omega
          subst hmm
          have hzd : decide ((0 : Int) ≤ (m' : Int)) = true := decide_eq_true (by omega)
          have hm0 : (0 : Int) ≤ (m' : Int) := by omega
          have hm1 : (m' : Int) < (ln : Int) := by omega
          have hmL : m' < L.length := by rw [← HLN.out]; omega
          have hOw := keep0 HO2.out HG.out
          obtain ⟨lb, lcap, hlb, hlc⟩ := owns_at hOw (by omega)
          simp only [Value.slice.injEq] at hlb
          obtain ⟨rfl, -, rfl⟩ := hlb
          have c0 : wr.cell? ⟨lb, m', none⟩ = some (.int .i64 ((L.getD m' 0 : Nat) : Int)) := hlc m' _ (natV_at L m' hmL)
          have hLm : L[m']? = some (L.getD m' 0) := by rw [List.getD_eq_getElem?_getD, List.getElem?_eq_getElem hmL]; rfl
          have hvN := HP.out.lt (L.getD m' 0) (List.mem_of_getElem? hLm)
          obtain ⟨v, hv⟩ : ∃ v, v = L.getD m' 0 := ⟨_, rfl⟩
          rw [← hv] at c0 hLm hvN
          have HLM := hidW hLm
          have hv0 : (0 : Int) ≤ (v : Int) := by omega
          have hv1 : (v : Int) < (N : Int) := by omega
          have HC := show Hid _ from HWF.out wr kb ub cb sc S v (HLF.out wr HG.out) HV.out hvN
          clear hOw hlc hv hLm hmL
          go_wp2_with fail
          refine Calls.mono HC.out ?_
          rintro e y ⟨oa, oc, S', out, rfl, hcase, ho, hvl, hgy⟩
          have HVY := hidW hvl
          have HGY : Hid (w2.grownBy y none) := grown_new HG.out hgy HSN.out.1
          have HNY : Hid (ValAt y nb N 3 (fun i => .int .i64 (nuK num c out 0 i : Int))) := (HNU.out.at hgy (by have := HSN.out.2; omega)).ext fun x _ => by unfold nuK; simp
          have HOO := hidW ho
          have hNW : Hid (nb < wr.heap.size) := HNU.out.lt
          have hcase2 : (out = [] ∧ S' = S ∧ S v = true) ∨ (0 < out.length ∧ (∀ x ∈ out, x < N) ∧ NbP N E S' (fun x => if x ∈ out then c else num x) (c + 1) ∧ S' v = true ∧ ∀ x, S x = true → S' x = true) := by
            rcases hcase with ⟨h1, h2, h3⟩ | ⟨h1, h2⟩
            · exact .inl ⟨h2, h3, h1⟩
            · refine .inr ⟨List.length_pos_of_mem h2.fin, fun x hx => (h2.new x hx).2.1, ?_, (h2.see v).2 (.inr h2.fin), fun x h => (h2.see x).2 (.inl h)⟩
              exact HNB.out.more HE.out HF.out HFN.out HP.out.nd HP.out.po HAL.out HLM.out hvN (fun p x hp hx => HLT.out p x (by omega) hx) h2
          have HCA := hidW hcase2
          have hoN : ∀ x ∈ out, x < N := fun x hx => by
            rcases hcase2 with ⟨h1, _⟩ | ⟨_, h1, _⟩
            · rw [h1] at hx; cases hx
            · exact h1 x hx
          have HON := hidW hoN
          have honb : out.length ≤ N := by
            rcases hcase with ⟨_, h2, _⟩ | ⟨_, h2⟩
            · rw [h2]; exact Nat.zero_le _
            · exact nodup_len N out h2.nd hoN
          obtain ⟨on, hon⟩ : ∃ v, v = out.length := ⟨_, rfl⟩
          have HONE := hidW hon
          rw [← hon] at honb
          rw [← hon]
          clear hcase ho hvl hgy hcase2 hoN hon HC c0 HNU HV HG
          go_wp2_with fail
          go_loopg [12] on (fun gk v12 wx => ∃ (k : Nat), k ≤ on ∧ gk = on - k ∧ v12 = .int .i64 k ∧ ValAt wx nb N 3 (fun i => .int .i64 (nuK num c out k i : Int)) ∧ y.grownBy wx (some nb))
          case atStart => exact ⟨0, Nat.zero_le _, rfl, rfl, HNY.out, grown_refl _ _⟩
          case round =>
            clear HNY
            obtain ⟨k, hk, hgk, rfl, hNk, hGk⟩ := hrel
            have HGJ : Hid (gk = on - k) := hgk
            have HNK := hidW hNk
            have HGK := hidW hGk
            clear hgk hNk hGk
            by_cases hlt : k < on
            · have hkd : decide (k < on) = true := decide_eq_true hlt
              have hk0 : (0 : Int) ≤ (k : Int) := by omega
              have hk1 : (k : Int) < (on : Int) := by omega
              have hko : k < out.length := by rw [← HONE.out]; exact hlt
              obtain ⟨gb, gcap, hgb, hgc⟩ := owns_at HOO.out (by omega)
              have hgw := (HOO.out.lt gb (by rw [hgb]; rfl)).1
              simp only [Value.slice.injEq] at hgb
              obtain ⟨hoa, -, -⟩ := hgb
              subst hoa
              have c1 := HGK.out.cell (hgc k _ (natV_at out k hko)) (by have := hNW.out; simp; omega)
              have hxN := HON.out (out.getD k 0) (by rw [List.getD_eq_getElem?_getD, List.getElem?_eq_getElem hko]; exact List.getElem_mem hko)
              have HST : Hid (∀ x, nuK num c out (k + 1) x = if x = out.getD k 0 then c else nuK num c out k x) := nuK_step num c out k hko
              obtain ⟨x, hx⟩ : ∃ v, v = out.getD k 0 := ⟨_, rfl⟩
              rw [← hx] at c1 hxN HST
              have hx0' : (0 : Int) ≤ (x : Int) := by omega
              have hx1' : (x : Int) < (N : Int) := by omega
              have c2 := HNK.out.cell x hxN
              have c3 := HNK.out.free x
              obtain ⟨ov, hov⟩ : ∃ v, v = nuK num c out k x := ⟨_, rfl⟩
              rw [← hov] at c2
              have HNN : Hid (ValAt (wr.setCell ⟨nb, x, none⟩ (.int .i64 (c : Int))) nb N 3 (fun i => .int .i64 (nuK num c out (k + 1) i : Int))) := (HNK.out.set x _).ext fun i _ => by
                unfold J.put
                rw [HST.out i]
                by_cases e : i = x
                · rw [if_pos e, if_pos e]
                · rw [if_neg e, if_neg e]
              have HGN : Hid (y.grownBy (wr.setCell ⟨nb, x, none⟩ (.int .i64 (c : Int))) (some nb)) := grown_trans HGK.out (grown_setCell _ _ _)
              clear hko hgc hgw hx hov
              go_wp2_with fail
              go_roundg (on - (k + 1))
              all_goals first
                | exact (show ∃ (k' : Nat), _ from ⟨k + 1, by omega, rfl, by go_num, HNN.out, HGN.out⟩)
                | (have := HGJ.out; omega)
            · have hkn : on = k := by omega
              subst hkn
              have hkd : decide (on < on) = false := decide_eq_false (by omega)
              have HNF : Hid (ValAt wr nb N 3 (fun i => .int .i64 (((fun x => if x ∈ out then c else num x) i : Nat) : Int))) := HNK.out.ext fun i _ => by
                unfold nuK
                rw [HONE.out, List.take_length]
              have HVF : Hid (ValAt wr sc N 4 (fun i => .bool (S' i))) := HVY.out.at HGK.out (by have := HSN.out.2; omega)
              have HGF : Hid (w2.grownBy wr none) := grown_new HGY.out HGK.out (by have h1 := HSN.out.1; have h2 := HSN.out.2; omega)
              by_cases hon0 : 0 < on
              · have hod : decide (0 < on) = true := decide_eq_true hon0
                obtain ⟨-, -, h3, h4, h5⟩ := HCA.out.resolve_left (fun h => by
                  have h6 := HONE.out
                  rw [h.1] at h6
                  simp at h6
                  omega)
                have HNB2 := hidW h3
                have HLT2 : Hid (∀ p x, m' ≤ p → L[p]? = some x → S' x = true) := fun p x hp hx => by
                  by_cases e : p = m'
                  · rw [e, HLM.out] at hx
                    rw [← Option.some.inj hx]; exact h4
                  · exact h5 x (HLT.out p x (by omega) hx)
                clear h3 h4 h5
                go_wp2_with fail
                go_roundg m'
                all_goals first
                  | exact (show ∃ (m2 : Nat), _ from ⟨m', (m' : Int) - 1, S', _, c + 1, by omega, rfl, rfl, by go_num, by go_num, by omega, HVF.out, HNF.out, HNB2.out, HLT2.out, HGF.out⟩)
                  | (have := HGM.out; omega)
              · have hon00 : on = 0 := by omega
                subst hon00
                obtain ⟨h1, h2, h3⟩ := HCA.out.resolve_right (fun h => by have := HONE.out; omega)
                have HNF2 : Hid (ValAt wr nb N 3 (fun i => .int .i64 (num i : Int))) := HNF.out.ext fun i _ => by rw [h1]; simp
                have HLT2 : Hid (∀ p x, m' ≤ p → L[p]? = some x → S x = true) := fun p x hp hx => by
                  by_cases e : p = m'
                  · rw [e, HLM.out] at hx
                    rw [← Option.some.inj hx]; exact h3
                  · exact HLT.out p x (by omega) hx
                have HVF2 : Hid (ValAt wr sc N 4 (fun i => .bool (S i))) := by rw [← h2]; exact HVF.out
                clear h1 h2 h3
                go_wp2_with fail
                go_roundg m'
                all_goals first
                  | exact (show ∃ (m2 : Nat), _ from ⟨m', (m' : Int) - 1, S, num, c, by omega, rfl, rfl, rfl, by go_num, by omega, HVF2.out, HNF2.out, HNB.out, HLT2.out, HGF.out⟩)
                  | (have := HGM.out; omega)
        · have hm0 : m = 0 := by have := HZV.out; omega
          subst hm0
          have hz1' : zv = -1 := by have := HZV.out; omega
          subst hz1'
          have HSA : Hid (∀ x, x < N → S x = true) := fun x hx => by
            obtain ⟨p, hp, e⟩ := List.getElem_of_mem (HAL.out x hx)
            exact HLT.out p x (Nat.zero_le _) (by rw [List.getElem?_eq_getElem hp, e])
          have hcN : c ≤ N := by omega
          have HNL : Hid (∀ x, x < N → num x < c) := fun x hx => (HNB.out.lt x (HSA.out x hx)).2
          have HN1 : Hid (ValAt wr nb N 3 (fun i => .int .i64 (if i < 0 then (c : Int) - 1 - (num i : Int) else (num i : Int)))) := HNU.out.ext fun i _ => by simp
          clear hz0' HGM HZV HLT HV HNU
          go_wp2_with fail
          go_loopg [13] N (fun gk v13 wx => ∃ (i : Nat), i ≤ N ∧ gk = N - i ∧ v13 = .int .i64 i ∧ ValAt wx nb N 3 (fun x => .int .i64 (if x < i then (c : Int) - 1 - (num x : Int) else (num x : Int))) ∧ w2.grownBy wx none)
          case atStart => exact ⟨0, Nat.zero_le _, rfl, rfl, HN1.out, HG.out⟩
          case round =>
            clear HN1 HG
            obtain ⟨i, hi, hgk, rfl, hNi, hG⟩ := hrel
            have HGK : Hid (gk = N - i) := hgk
            have HNI := hidW hNi
            have HG := hidW hG
            clear hgk hNi hG
            by_cases hlt : i < N
            · have hid : decide (i < N) = true := decide_eq_true hlt
              have hi0' : (0 : Int) ≤ (i : Int) := by omega
              have hi1' : (i : Int) < (N : Int) := by omega
              have c2 := HNI.out.cell i hlt
              rw [if_neg (Nat.lt_irrefl i)] at c2
              have c3 := HNI.out.free i
              have hnl := HNL.out i hlt
              obtain ⟨ov, hov⟩ : ∃ v, v = num i := ⟨_, rfl⟩
              have HOV := hidW hov
              rw [← hov] at c2 hnl
              have hww : IntKind.i64.wrap ((c : Int) - 1) = (c : Int) - 1 := by rw [IntKind.wrap_i64]; omega
              have HNN : Hid (ValAt (wr.setCell ⟨nb, i, none⟩ (.int .i64 ((c : Int) - 1 - (ov : Int)))) nb N 3 (fun x => .int .i64 (if x < i + 1 then (c : Int) - 1 - (num x : Int) else (num x : Int)))) := (HNI.out.set i _).ext fun x _ => by
                unfold J.put
                by_cases e : x = i
                · rw [if_pos e, if_pos (by omega), e, HOV.out]
                · rw [if_neg e]
                  show Value.int IntKind.i64 (if x < i then _ else _) = _
                  by_cases e2 : x < i
                  · rw [if_pos e2, if_pos (by omega)]
                  · rw [if_neg e2, if_neg (by omega)]
              have HGN : Hid (w2.grownBy (wr.setCell ⟨nb, i, none⟩ (.int .i64 ((c : Int) - 1 - (ov : Int)))) none) := grown_new HG.out (grown_setCell _ _ _) (by have h1 := HSN.out.1; have h2 := HSN.out.2; omega)
              clear hov
              go_wp2_with fail
              go_roundg (N - (i + 1))
              all_goals first
                | exact (show ∃ (i' : Nat), _ from ⟨i + 1, by omega, rfl, by go_num, HNN.out, HGN.out⟩)
                | (have := HGK.out; omega)
            · have hin : N = i := by omega
              subst hin
              have hid : decide (N < N) = false := decide_eq_false (by omega)
              have HNF : Hid (ValAt wr nb N 3 (fun x => .int .i64 ((c : Int) - 1 - (num x : Int)))) := HNI.out.ext fun x hx => by rw [if_pos hx]
              have HGF : Hid (w.grownBy wr none) := grown_trans HG2.out HG.out
              have HNB' : Hid (w.heap.size ≤ nb) := by have h1 := HSN.out.1; have h2 := HSN.out.2; have h3 := HG2.out.size; show _ ≤ _; omega
              go_wp2_with fail
              go_ret2
              exact ⟨nb, c, num, S, rfl, HNF.out, HNB.out, HSA.out, hcN, HNB'.out, HGF.out⟩

end Go.Proofs.YtjijagnpcmonbaaDoor.J

/-
  digraph: the document's Right.
-/
namespace Go.Proofs.YtjijagnpcmonbaaDoor.J
open Go.RowKit Go.Maps Go.Shelf

attribute [local go_sem] Oper.semAt_some

set_option maxRecDepth 100000 in
set_option maxHeartbeats 2000000 in
theorem rright_any (ea : Option Addr) (N ec : Nat) (Q : Nat → List Int) (ua : Nat → Option Addr) (uc : Nat → Nat) (w : World) (hL : LwAt w ea N Q ua uc) (hN : N ≤ 17592186044416) (hQ : ∀ i, i < N → (Q i).length ≤ 17592186044416) (r : Bool) (hr : r = true ↔ ∀ i, i < N → ∀ x ∈ Q i, 0 ≤ x ∧ x < (N : Int)) :
    Calls Tryd.prog 18 #[.slice ea N ec] w fun e y => e = .returned (.bool r) ∧ y = w := by
  have HL := show Hid _ from hL
  have HQ := show Hid _ from hQ
  have HR : Hid (r = true ↔ ∀ i, i < N → ∀ x ∈ Q i, 0 ≤ x ∧ x < (N : Int)) := hr
  clear hL hQ hr
  go_enter Tryd.func18, Tryd.ntmps18
  go_wp2_with fail
  go_loopg [3] N (fun gk v3 wr => ∃ (i : Nat), i ≤ N ∧ gk = N - i ∧ v3 = .int .i64 i ∧ wr = w ∧ ∀ j, j < i → ∀ x ∈ Q j, 0 ≤ x ∧ x < (N : Int))
  case atStart => exact ⟨0, Nat.zero_le _, rfl, rfl, rfl, fun j hj => absurd hj (Nat.not_lt_zero _)⟩
  case round =>
    obtain ⟨i, hi, hgk, rfl, hw, hA⟩ := hrel
    subst hw
    have HGK : Hid (gk = N - i) := hgk
    have HA : Hid (∀ j, j < i → ∀ x ∈ Q j, 0 ≤ x ∧ x < (N : Int)) := hA
    clear hgk hA
    by_cases hlt : i < N
    · have hid : decide (i < N) = true := decide_eq_true hlt
      have hi0 : (0 : Int) ≤ (i : Int) := by omega
      have hi1 : (i : Int) < (N : Int) := by omega
      obtain ⟨kb, ko, hkb, hke, hkI⟩ : ∃ kb ko, ea = some ⟨kb, ko, none⟩ ∧ wr.cell? ⟨kb, ko + i, none⟩ = some (.slice (ua i) (Q i).length (uc i)) ∧ IntsAt wr (ua i) (Q i) := by
        obtain ⟨h1, h2⟩ := HL.out
        rcases h1 with h1 | ⟨kb, ko, e, h1⟩
        · omega
        · exact ⟨kb, ko, e, h1 i hlt, h2 i hlt⟩
      subst hkb
      obtain ⟨m, hm⟩ : ∃ m, m = (Q i).length := ⟨_, rfl⟩
      obtain ⟨uai, huai⟩ : ∃ m, m = ua i := ⟨_, rfl⟩
      obtain ⟨uci, huci⟩ : ∃ m, m = uc i := ⟨_, rfl⟩
      rw [← hm, ← huai, ← huci] at hke
      rw [← huai] at hkI
      have HM : Hid (m = (Q i).length) := hm
      have hmb : m ≤ 17592186044416 := by rw [hm]; exact HQ.out i hlt
      have HKI := show Hid _ from hkI
      clear hm huai huci hkI
      go_wp2_with fail
      go_loopg [4] m (fun gk v4 wr' => ∃ (j : Nat), j ≤ m ∧ gk = m - j ∧ v4 = .int .i64 j ∧ wr' = wr ∧ ∀ k, k < j → 0 ≤ (Q i).getD k 0 ∧ (Q i).getD k 0 < (N : Int))
      case atStart => exact ⟨0, Nat.zero_le _, rfl, rfl, rfl, fun j hj => absurd hj (Nat.not_lt_zero _)⟩
      case round =>
        obtain ⟨j, hj, hgj, rfl, hw, hB⟩ := hrel
        subst hw
        have HGJ : Hid (gk = m - j) := hgj
        have HB : Hid (∀ k, k < j → 0 ≤ (Q i).getD k 0 ∧ (Q i).getD k 0 < (N : Int)) := hB
        clear hgj hB
        by_cases hjl : j < m
        · have hjd : decide (j < m) = true := decide_eq_true hjl
          have hj0 : (0 : Int) ≤ (j : Int) := by omega
          have hj1 : (j : Int) < (m : Int) := by omega
          have hjl2 : j < (Q i).length := by rw [← HM.out]; exact hjl
          obtain ⟨rb, ro, hrb, c0⟩ : ∃ rb ro, uai = some ⟨rb, ro, none⟩ ∧ wr.cell? ⟨rb, ro + j, none⟩ = some (.int .i64 ((Q i).getD j 0)) := by
            rcases HKI.out with h | ⟨rb, ro, e, h⟩
            · rw [h] at hjl2; cases hjl2
            · exact ⟨rb, ro, e, h j hjl2⟩
          subst hrb
          have hxm : (Q i).getD j 0 ∈ Q i := by rw [List.getD_eq_getElem?_getD, List.getElem?_eq_getElem hjl2]; exact List.getElem_mem hjl2
          obtain ⟨x, hx⟩ : ∃ x, x = (Q i).getD j 0 := ⟨_, rfl⟩
          have HX : Hid (x = (Q i).getD j 0) := hx
          rw [← hx] at c0 hxm
          clear hx
          by_cases h0 : x < 0
          · have hd0 : decide (x < 0) = true := decide_eq_true h0
            have HF : Hid (false = r) := by
              show _ = _
              cases hrr : r with
              | false => rfl
              | true => have := HR.out.1 hrr i hlt x hxm; omega
            clear h0 hxm
            go_wp2_with fail
            go_ret
            exact ⟨congrArg (fun b => Ending.returned (Value.bool b)) HF.out, rfl⟩
          · have hd0 : decide (x < 0) = false := decide_eq_false h0
            by_cases h1 : x < (N : Int)
            · have hd1 : decide ((N : Int) ≤ x) = false := decide_eq_false (by omega)
              have HB2 : Hid (∀ k, k < j + 1 → 0 ≤ (Q i).getD k 0 ∧ (Q i).getD k 0 < (N : Int)) := fun k hk => by
                by_cases e : k = j
                · rw [e, ← HX.out]; exact ⟨by omega, h1⟩
                · exact HB.out k (by omega)
              clear h0 h1 hxm
              go_wp2_with fail
              go_roundg (m - (j + 1))
              case measure => have := HGJ.out; omega
              case rel => exact ⟨j + 1, by omega, rfl, by go_num, rfl, HB2.out⟩
            · have hd1 : decide ((N : Int) ≤ x) = true := decide_eq_true (by omega)
              have HF : Hid (false = r) := by
                show _ = _
                cases hrr : r with
                | false => rfl
                | true => have := HR.out.1 hrr i hlt x hxm; omega
              clear h0 h1 hxm
              go_wp2_with fail
              go_ret
              exact ⟨congrArg (fun b => Ending.returned (Value.bool b)) HF.out, rfl⟩
        · have hjm : m = j := by omega
          subst hjm
          have hjd : decide (m < m) = false := decide_eq_false (by omega)
          have HA2 : Hid (∀ j, j < i + 1 → ∀ x ∈ Q j, 0 ≤ x ∧ x < (N : Int)) := fun j hj x hx => by
            by_cases e : j = i
            · subst e
              obtain ⟨k, hk, e2⟩ := List.getElem_of_mem hx
              have := HB.out k (by rw [HM.out]; exact hk)
              rw [List.getD_eq_getElem?_getD, List.getElem?_eq_getElem hk, e2] at this
              exact this
            · exact HA.out j (by omega) x hx
          go_wp2_with fail
          go_roundg (N - (i + 1))
          case measure => have := HGK.out; omega
          case rel => exact ⟨i + 1, by omega, rfl, by go_num, rfl, HA2.out⟩
    · have hin : N = i := by omega
      subst hin
      have hid : decide (N < N) = false := decide_eq_false (by omega)
      have HF : Hid (true = r) := (HR.out.2 HA.out).symm
      go_wp2_with fail
      go_ret
      exact ⟨congrArg (fun b => Ending.returned (Value.bool b)) HF.out, rfl⟩

end Go.Proofs.YtjijagnpcmonbaaDoor.J

/-
  digraph: the document's Components: a node is laid to its component: a region as a declaration of its own (printed by tools/d_rcreg.py).
-/
namespace Go.Proofs.YtjijagnpcmonbaaDoor.J
open Go.RowKit Go.Maps Go.Shelf D

attribute [local go_sem] Oper.semAt_some
attribute [local go_sem ↓] Go.wp_at_zero Go.wp_at_succ

noncomputable def rcR : Code := ((Tryd.f7.body.map (regionsJ 12)).getD []).getD 0 .skip

set_option maxRecDepth 100000 in
set_option maxHeartbeats 8000000 in
theorem rc_region {K : Act → World → Prop} {V : World} {B nb ab kb N c K1 kc1 k j m fc ok : Nat} {fa : Option Addr} {xs : List Value}
    {v0 v1 v2 v3 v5 v9 v10 v11 v12 v13 v14 v15 v16 v17 v18 v19 v20 v21 v22 v23 v24 v25 v26 v27 v28 v29 v30 v31 v32 v33 v34 v35 v36 v37 v38 v39 v40 v41 v42 v43 v44 v45 v46 v47 v48 v49 v50 v51 v52 v53 v54 v55 v56 v57 v58 v59 v60 v61 v62 v63 v64 v65 v66 v67 v68 : Value}
    (x1 : V.cell? ⟨nb, k, none⟩ = some (.int .i64 (ok : Int))) (x2 : V.cell? ⟨ab, ok, none⟩ = some (.int .i64 ((j : Int) + 1))) (x3 : V.cell? ⟨kb, j, none⟩ = some (.slice fa m fc))
    (hk : (k : Int) < (N : Int)) (hok : (ok : Int) < (c : Int)) (hj : (j : Int) < (K1 : Int)) (hmb : m ≤ 1048576) (hjb : j ≤ 1048577)
    (hOW : ∀ Y, V.grownBy Y none → Y.ownsRow B 3 1 (.slice fa m fc) m xs) (hPS : ∀ Y, V.grownBy Y none → B ≤ Y.heap.size)
    (hfin : ∀ (Y Z : World) (g c' : Nat), V.grownBy Y none → Y.grownBy Z (Value.slice fa m fc).ownBlock → Z.ownsRow B 3 1 (.slice (some ⟨g, 0, none⟩) (m + 1) c') (m + 1) (xs ++ [.int .i64 (k : Int)]) → ((Value.slice fa m fc).ownBlock = some g ∨ g = Y.heap.size) → Z.cell? ⟨kb, j, none⟩ = some (.slice fa m fc) ∧ Z.frozen? ⟨kb, j, none⟩ = false ∧ Z.cell? ⟨nb, k, none⟩ = some (.int .i64 (ok : Int)) ∧ Z.cell? ⟨ab, ok, none⟩ = some (.int .i64 ((j : Int) + 1)) ∧ ∀ u44 u45 u46 u47 u48 u49 u50 u51 u52 u53 u54 u55 u56 u57 u58 u59 u60 u61 u62 u63 u64 u65 u66 u67 : Value, K ⟨List.toArray (v0 :: v1 :: v2 :: v3 :: .slice (some ⟨nb, 0, none⟩) N N :: v5 :: .slice (some ⟨ab, 0, none⟩) c c :: .slice (some ⟨kb, 0, none⟩) K1 kc1 :: .int .i64 (k : Int) :: v9 :: v10 :: v11 :: v12 :: v13 :: v14 :: v15 :: v16 :: v17 :: v18 :: v19 :: v20 :: v21 :: v22 :: v23 :: v24 :: v25 :: v26 :: v27 :: v28 :: v29 :: v30 :: v31 :: v32 :: v33 :: v34 :: v35 :: v36 :: v37 :: v38 :: v39 :: v40 :: v41 :: v42 :: v43 :: u44 :: u45 :: u46 :: u47 :: u48 :: u49 :: u50 :: u51 :: u52 :: u53 :: u54 :: u55 :: u56 :: u57 :: u58 :: u59 :: u60 :: u61 :: u62 :: u63 :: u64 :: u65 :: u66 :: u67 :: v68 :: []), []⟩ (Z.setCell ⟨kb, j, none⟩ (.slice (some ⟨g, 0, none⟩) (m + 1) c'))) :
    Code.wp Tryd.prog rcR (OnEndJ K) ⟨List.toArray (v0 :: v1 :: v2 :: v3 :: .slice (some ⟨nb, 0, none⟩) N N :: v5 :: .slice (some ⟨ab, 0, none⟩) c c :: .slice (some ⟨kb, 0, none⟩) K1 kc1 :: .int .i64 (k : Int) :: v9 :: v10 :: v11 :: v12 :: v13 :: v14 :: v15 :: v16 :: v17 :: v18 :: v19 :: v20 :: v21 :: v22 :: v23 :: v24 :: v25 :: v26 :: v27 :: v28 :: v29 :: v30 :: v31 :: v32 :: v33 :: v34 :: v35 :: v36 :: v37 :: v38 :: v39 :: v40 :: v41 :: v42 :: v43 :: v44 :: v45 :: v46 :: v47 :: v48 :: v49 :: v50 :: v51 :: v52 :: v53 :: v54 :: v55 :: v56 :: v57 :: v58 :: v59 :: v60 :: v61 :: v62 :: v63 :: v64 :: v65 :: v66 :: v67 :: v68 :: []), []⟩ V := by
  obtain ⟨i0, hi0, hz0, hz1, hz2⟩ := info_parts infoInt
  have HOW := hidW hOW
  have HPS := hidW hPS
  have HFIN := hidW hfin
  have p1 : ∀ o', (V.alloc o').cell? ⟨nb, k, none⟩ = some (.int .i64 (ok : Int)) := fun o' => (World.grownBy_alloc _ o' none).cell x1 (by simp)
  have p2 : ∀ o', (V.alloc o').cell? ⟨ab, ok, none⟩ = some (.int .i64 ((j : Int) + 1)) := fun o' => (World.grownBy_alloc _ o' none).cell x2 (by simp)
  have p3 : ∀ o', (V.alloc o').cell? ⟨kb, j, none⟩ = some (.slice fa m fc) := fun o' => (World.grownBy_alloc _ o' none).cell x3 (by simp)
  have hk0 : (0 : Int) ≤ (k : Int) := by omega
  have hok0 : (0 : Int) ≤ (ok : Int) := by omega
  have hj0 : (0 : Int) ≤ (j : Int) := by omega
  have hwj : IntKind.i64.wrap ((j : Int) + 1 - 1) = (j : Int) := by rw [IntKind.wrap_i64]; omega
  have hwj2 : IntKind.i64.wrap (j : Int) = (j : Int) := by rw [IntKind.wrap_i64]; omega
  clear hOW hPS hfin
  conv => arg 2; whnf
  go_region_law (first
    | (refine step_append_liesW _ rfl (.tmp 63) (.tmp 65) 28 rfl B 3 i0 (.int .i64 0) 1 8 Tryd.underlying28 hi0 hz0 hz1 hz2 rfl (by decide) (.slice fa m fc) m xs (by first | (simp [Act.eval]; done) | simp [Act.eval, Act.put]) (HOW.out _ (grown_trans (World.grownBy_alloc _ _ none) (grown_drewN _ _))) ⟨V.heap.size, 0, none⟩ 1 1 [.int .i64 (k : Int)] (by first | (simp [Act.eval]; done) | simp [Act.eval, Act.put]) rfl (World.news_of_block (heap_alloc_last V _)) (by simp [Value.oneCell']) (by decide) (by unfold maxLen; omega) (by omega) (HPS.out _ (grown_trans (World.grownBy_alloc _ _ none) (grown_drewN _ _))) ?_; intro g9 c9 wB hoB hgB hat; obtain ⟨q1, q2, q3, q4, q5⟩ := HFIN.out _ wB g9 c9 (grown_trans (World.grownBy_alloc _ _ none) (grown_drewN _ _)) hgB hoB hat; have HQ9 := hidW q5; clear q5 hoB hgB hat)
    | fail)
  all_goals exact HQ9.out _ _ _ _ _ _ _ _ _ _ _ _ _ _ _ _ _ _ _ _ _ _ _ _

theorem rc_regionq {Q0 : Exit → Act → World → Prop} {V : World} {B nb ab kb N c K1 kc1 k j m fc ok : Nat} {fa : Option Addr} {xs : List Value}
    {v0 v1 v2 v3 v5 v9 v10 v11 v12 v13 v14 v15 v16 v17 v18 v19 v20 v21 v22 v23 v24 v25 v26 v27 v28 v29 v30 v31 v32 v33 v34 v35 v36 v37 v38 v39 v40 v41 v42 v43 v44 v45 v46 v47 v48 v49 v50 v51 v52 v53 v54 v55 v56 v57 v58 v59 v60 v61 v62 v63 v64 v65 v66 v67 v68 : Value}
    (x1 : V.cell? ⟨nb, k, none⟩ = some (.int .i64 (ok : Int))) (x2 : V.cell? ⟨ab, ok, none⟩ = some (.int .i64 ((j : Int) + 1))) (x3 : V.cell? ⟨kb, j, none⟩ = some (.slice fa m fc))
    (hk : (k : Int) < (N : Int)) (hok : (ok : Int) < (c : Int)) (hj : (j : Int) < (K1 : Int)) (hmb : m ≤ 1048576) (hjb : j ≤ 1048577)
    (hOW : ∀ Y, V.grownBy Y none → Y.ownsRow B 3 1 (.slice fa m fc) m xs) (hPS : ∀ Y, V.grownBy Y none → B ≤ Y.heap.size)
    (hfin : ∀ (Y Z : World) (g c' : Nat), V.grownBy Y none → Y.grownBy Z (Value.slice fa m fc).ownBlock → Z.ownsRow B 3 1 (.slice (some ⟨g, 0, none⟩) (m + 1) c') (m + 1) (xs ++ [.int .i64 (k : Int)]) → ((Value.slice fa m fc).ownBlock = some g ∨ g = Y.heap.size) → Z.cell? ⟨kb, j, none⟩ = some (.slice fa m fc) ∧ Z.frozen? ⟨kb, j, none⟩ = false ∧ Z.cell? ⟨nb, k, none⟩ = some (.int .i64 (ok : Int)) ∧ Z.cell? ⟨ab, ok, none⟩ = some (.int .i64 ((j : Int) + 1)) ∧ ∀ u44 u45 u46 u47 u48 u49 u50 u51 u52 u53 u54 u55 u56 u57 u58 u59 u60 u61 u62 u63 u64 u65 u66 u67 : Value, Q0 .normal ⟨List.toArray (v0 :: v1 :: v2 :: v3 :: .slice (some ⟨nb, 0, none⟩) N N :: v5 :: .slice (some ⟨ab, 0, none⟩) c c :: .slice (some ⟨kb, 0, none⟩) K1 kc1 :: .int .i64 (k : Int) :: v9 :: v10 :: v11 :: v12 :: v13 :: v14 :: v15 :: v16 :: v17 :: v18 :: v19 :: v20 :: v21 :: v22 :: v23 :: v24 :: v25 :: v26 :: v27 :: v28 :: v29 :: v30 :: v31 :: v32 :: v33 :: v34 :: v35 :: v36 :: v37 :: v38 :: v39 :: v40 :: v41 :: v42 :: v43 :: u44 :: u45 :: u46 :: u47 :: u48 :: u49 :: u50 :: u51 :: u52 :: u53 :: u54 :: u55 :: u56 :: u57 :: u58 :: u59 :: u60 :: u61 :: u62 :: u63 :: u64 :: u65 :: u66 :: u67 :: v68 :: []), []⟩ (Z.setCell ⟨kb, j, none⟩ (.slice (some ⟨g, 0, none⟩) (m + 1) c'))) :
    Code.wp Tryd.prog rcR Q0 ⟨List.toArray (v0 :: v1 :: v2 :: v3 :: .slice (some ⟨nb, 0, none⟩) N N :: v5 :: .slice (some ⟨ab, 0, none⟩) c c :: .slice (some ⟨kb, 0, none⟩) K1 kc1 :: .int .i64 (k : Int) :: v9 :: v10 :: v11 :: v12 :: v13 :: v14 :: v15 :: v16 :: v17 :: v18 :: v19 :: v20 :: v21 :: v22 :: v23 :: v24 :: v25 :: v26 :: v27 :: v28 :: v29 :: v30 :: v31 :: v32 :: v33 :: v34 :: v35 :: v36 :: v37 :: v38 :: v39 :: v40 :: v41 :: v42 :: v43 :: v44 :: v45 :: v46 :: v47 :: v48 :: v49 :: v50 :: v51 :: v52 :: v53 :: v54 :: v55 :: v56 :: v57 :: v58 :: v59 :: v60 :: v61 :: v62 :: v63 :: v64 :: v65 :: v66 :: v67 :: v68 :: []), []⟩ V :=
  wp_mono (rc_region (K := fun a w => Q0 .normal a w) x1 x2 x3 hk hok hj hmb hjb hOW hPS hfin) fun e a w h => by
    cases e <;> first | exact h | exact h.elim

end Go.Proofs.YtjijagnpcmonbaaDoor.J
