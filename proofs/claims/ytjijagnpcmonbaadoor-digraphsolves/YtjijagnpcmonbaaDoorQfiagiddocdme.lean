import Derived.Test.YtjijagnpcmonbaaDoorQhjaphfjdidgb
import Derived.Test.YtjijagnpcmonbaaDoorQdogogoehhlbo
import Derived.Test.YtjijagnpcmonbaaDoorQmacpjmjaffce
import Derived.Deep.LoopGhost
import Derived.Deep.RegionWith
import Derived.Test.YtjijagnpcmonbaaDoorQboobcegjoggh

/-
  digraph: eachComponent.
-/
namespace Go.Proofs.YtjijagnpcmonbaaDoor.J
open Go.RowKit Go.Maps Go.Shelf D

attribute [local go_sem] Oper.semAt_some

set_option maxRecDepth 100000 in
set_option maxHeartbeats 4000000 in
theorem each_anyS (I : World → (Nat → Bool) → Prop) (w : World) (N : Nat) (ea : Option Addr) (ec : Nat) (E : Nat → List Nat) (ua : Nat → Option Addr) (uc : Nat → Nat) (p1 p2 p3 : Nat) (hN : N ≤ 5864062014805) (hE : ∀ x, x < N → ∀ y ∈ E x, y < N) (hEl : ∀ x, x < N → (E x).length ≤ 17592186044416)
    (hst : ∀ X Y C, I X C → SKeep w.heap.size X Y → I Y C) (hed : ∀ X C, I X C → LsAt X ea N (fun i => intL (E i)) ua uc)
    (hh : ∀ X C c a cap, I X C → CompP N E C c → IntsAt X a (intL c) → (∀ rb ro, a = some ⟨rb, ro, none⟩ → w.heap.size ≤ rb ∧ ∃ cs, X.heap[rb]? = some (.cells cs 3 (0, 0))) → Calls Tryd.prog 20 #[.slice a c.length cap, .pointer (some ⟨p1, 0, none⟩), .pointer (some ⟨p2, 0, none⟩), .pointer (some ⟨p3, 0, none⟩)] X fun e y => e = .returned (.tuple #[]) ∧ I y (addC C c) ∧ HKeep w.heap.size X y)
    (hI : I w (fun _ => false)) :
    Calls Tryd.prog 15 #[.slice ea N ec, .func (.func 20) #[] #[.pointer (some ⟨p1, 0, none⟩), .pointer (some ⟨p2, 0, none⟩), .pointer (some ⟨p3, 0, none⟩)]] w fun e y => e = .returned (.tuple #[]) ∧ ∃ C, I y C ∧ ∀ x, x < N → C x = true := by
  have HFI : Hid (∀ (sb lb : Nat) (X : World) (fs : List Fr) (low : Nat → Nat) (C : Nat → Bool), SjAt X w.heap.size sb N ea ec lb E fs low C → I X C → Calls Tryd.prog 30 #[.pointer (some ⟨sb, 0, none⟩), .func (.func 20) #[] #[.pointer (some ⟨p1, 0, none⟩), .pointer (some ⟨p2, 0, none⟩), .pointer (some ⟨p3, 0, none⟩)]] X fun e y => FinTold I w.heap.size sb N ea ec lb E low e y) := fun sb lb X fs low C h1 h2 => finish_anyS I w.heap.size sb N ea ec lb E ua uc p1 p2 p3 hN hE hEl hst hed hh X fs low C h1 h2
  have HST := show Hid _ from hst
  have HI := show Hid _ from hI
  obtain ⟨i0, hi0, hz0, hz1, hz2⟩ := info_parts infoInt
  clear hE hEl hst hed hh hI
  go_enter Tryd.func15, Tryd.ntmps15
  go_wp2_with (at_make; refine wpList_make_full _ rfl _ _ 28 rfl w.heap.size 3 i0 (.int .i64 0) 1 Tryd.underlying28 hi0 hz0 hz1 .i64 .i64 _ _ N rfl rfl (by simp) (by simp) (by rw [hz2]; omega) (by unfold maxLen; omega) (by simp) ?_)
  intro w3 hown hgrow
  have hval : ValAt w3 w.heap.size N 3 (fun _ => .int .i64 0) := made_rowK (B := w.heap.size) rfl (by simpa [Value.cells] using hown)
  obtain ⟨lb, hlb⟩ : ∃ b, b = w.heap.size := ⟨_, rfl⟩
  have hlb2 : w.heap.size ≤ lb := by omega
  rw [← hlb] at hval
  rw [← hlb]
  have HS0 : Hid (SrAt (w3.alloc (.cells #[.slice ea N ec, .slice none 0 0, .slice none 0 0, .slice (some ⟨lb, 0, none⟩) N N] 57)) w.heap.size w3.heap.size N ea ec lb [] [] (fun _ => 0) none none 0 0) :=
    ⟨heap_alloc_last w3 _, World.ownsRow_nil _ _ _ _, World.ownsRow_nil _ _ _ _, hval.kept (World.grownBy_alloc _ _ none), (fun h => by cases h), hgrow.size, hlb2, Nat.le_trans hgrow.size (World.grownBy_alloc w3 _ none).size⟩
  have HJ0 : Hid (SjAt (w3.alloc (.cells #[.slice ea N ec, .slice none 0 0, .slice none 0 0, .slice (some ⟨lb, 0, none⟩) N N] 57)) w.heap.size w3.heap.size N ea ec lb E [] (fun _ => 0) (fun _ => false)) := ⟨TjP.start, none, none, 0, 0, HS0.out⟩
  have HI0 : Hid (I (w3.alloc (.cells #[.slice ea N ec, .slice none 0 0, .slice none 0 0, .slice (some ⟨lb, 0, none⟩) N N] 57)) (fun _ => false)) := HST.out _ _ _ HI.out (.none_ (grown_trans hgrow (World.grownBy_alloc _ _ none)))
  clear hown hval hlb HI HS0
  obtain ⟨sb, hsb⟩ : ∃ b, b = w3.heap.size := ⟨_, rfl⟩
  rw [← hsb] at HJ0
  go_wp2_with fail
  rw [← hsb]
  clear hsb hgrow
  go_loopg [14] N (fun gk v14 wr => ∃ (i : Nat) (low : Nat → Nat) (C : Nat → Bool), i ≤ N ∧ gk = N - i ∧ v14 = .int .i64 i ∧ SjAt wr w.heap.size sb N ea ec lb E [] low C ∧ I wr C ∧ ∀ x, x < i → low x ≠ 0)
  case atStart => exact ⟨0, _, _, Nat.zero_le _, rfl, rfl, HJ0.out, HI0.out, fun x hx => absurd hx (Nat.not_lt_zero _)⟩
  case round =>
    obtain ⟨i, low, C, hi, hgk, rfl, hJ, hI, hM⟩ := hrel
    have HGK : Hid (gk = N - i) := hgk
    have HJ := show Hid _ from hJ
    have HI := show Hid _ from hI
    have HM : Hid (∀ x, x < i → low x ≠ 0) := hM
    clear hgk hJ hI hM HJ0 HI0
    by_cases hlt : i < N
    · have hid : decide (i < N) = true := decide_eq_true hlt
      have hi0' : (0 : Int) ≤ (i : Int) := by omega
      have hi1' : (i : Int) < (N : Int) := by omega
      obtain ⟨hT, wa, oa, wc, oc, hR⟩ := HJ.out
      obtain ⟨z0, z1, z2, z3⟩ := hR.cells
      have zl := hR.val.cell i hlt
      obtain ⟨li, hli⟩ : ∃ x, x = low i := ⟨_, rfl⟩
      have HLI : Hid (li = low i) := hli
      rw [← hli] at zl
      by_cases h0 : li = 0
      · have hl1 : ((li : Int) == 0) = true := by rw [h0]; rfl
        have hl2 : (li == 0) = true := by rw [h0]; rfl
        have HTN : Hid (TjP N E 9223372036854775807 [⟨i, 0, []⟩] (upd low i 1) C) := hT.enter0 hlt (by rw [← hli]; exact h0)
        have HEN := show Hid _ from enter_any wr w.heap.size sb N ea ec lb [] [] low wa oa wc oc hR i hlt hN (Nat.zero_le _) (Nat.zero_le _)
        clear hT hR hli h0 z0 z1 z2
        go_wp2_with fail
        refine Calls.mono HEN.out ?_
        rintro e y ⟨rfl, hk, wa5, oa5, wc5, oc5, hr⟩
        have HFN := show Hid _ from HFI.out sb lb y [⟨i, 0, []⟩] (upd low i 1) C ⟨HTN.out, wa5, oa5, wc5, oc5, hr⟩ (HST.out _ _ _ HI.out hk)
        clear hk hr HEN
        go_wp2_with fail
        refine Calls.mono HFN.out ?_
        rintro e y6 ⟨rfl, low6, C6, hJ6, hI6, hM6⟩
        have HJ6 := show Hid _ from hJ6
        have HI6 := show Hid _ from hI6
        have HM6 : Hid (∀ x, x < i + 1 → low6 x ≠ 0) := fun x hx => hM6 x (by
          by_cases e : x = i
          · rw [e, upd_same]; exact Nat.one_ne_zero
          · rw [upd_other _ _ e]; exact HM.out x (by omega))
        clear hJ6 hI6 hM6 HFN
        go_wp2_with fail
        go_roundg (N - (i + 1))
        case measure => have := HGK.out; omega
        case rel => exact ⟨i + 1, low6, C6, by omega, rfl, by go_num, HJ6.out, HI6.out, HM6.out⟩
      · have hl1 : ((li : Int) == 0) = false := beq_eq_false_iff_ne.2 (by omega)
        have hl2 : (li == 0) = false := beq_eq_false_iff_ne.2 h0
        have HM6 : Hid (∀ x, x < i + 1 → low x ≠ 0) := fun x hx => by
          by_cases e : x = i
          · rw [e, ← HLI.out]; exact h0
          · exact HM.out x (by omega)
        clear hT hR hli h0 z0 z1 z2
        go_wp2_with fail
        go_roundg (N - (i + 1))
        case measure => have := HGK.out; omega
        case rel => exact ⟨i + 1, low, C, by omega, rfl, by go_num, HJ.out, HI.out, HM6.out⟩
    · have hin : N = i := by omega
      subst hin
      have hid : decide (N < N) = false := decide_eq_false (by omega)
      have HCC : Hid (∀ x, x < N → C x = true) := fun x hx => by
        have h1 := (HJ.out.pure.met x hx).1 (HM.out x hx)
        rcases h1 with h1 | h1
        · simp [opens] at h1
        · exact h1
      go_wp2_with fail
      refine bodyPost_end (v := .tuple #[]) (by simp [results, Tryd.results15]) rfl ?_
      exact ⟨rfl, C, HI.out, HCC.out⟩

end Go.Proofs.YtjijagnpcmonbaaDoor.J

/-
  digraph: components under way, in memory.
-/
namespace Go.Proofs.YtjijagnpcmonbaaDoor.J
open Go.RowKit Go.Maps Go.Shelf D

/-- A function with one value turned. -/
def updC {α : Type} (f : Nat → α) (k : Nat) (v : α) : Nat → α := fun i => if i = k then v else f i
theorem updC_same {α : Type} (f : Nat → α) (k : Nat) (v : α) : updC f k v k = v := if_pos rfl
theorem updC_other {α : Type} (f : Nat → α) {k i : Nat} (v : α) (h : i ≠ k) : updC f k v i = f i := if_neg h

/-- Rows, as the cells that hold them. -/
def rowsC (K : Nat) (Q : Nat → List Nat) (ua : Nat → Option Addr) (uc : Nat → Nat) : List Value := (List.range K).map fun j => .slice (ua j) (Q j).length (uc j)
theorem rowsC_length (K : Nat) (Q : Nat → List Nat) (ua : Nat → Option Addr) (uc : Nat → Nat) : (rowsC K Q ua uc).length = K := by unfold rowsC; simp
theorem rowsC_at {K j : Nat} (Q : Nat → List Nat) (ua : Nat → Option Addr) (uc : Nat → Nat) (hj : j < K) : (rowsC K Q ua uc)[j]? = some (.slice (ua j) (Q j).length (uc j)) := by unfold rowsC; simp [hj]

/-- Lists of nodes under way: K of them, in a row that is one's own, each in a row of its own. -/
structure CqP (X : World) (B : Nat) (ka : Option Addr) (kc K : Nat) (Q : Nat → List Nat) (ua : Nat → Option Addr) (uc : Nat → Nat) : Prop where
  out : X.ownsRow B 28 1 (.slice ka K kc) K (rowsC K Q ua uc)
  inn : ∀ j, j < K → X.ownsRow B 3 1 (.slice (ua j) (Q j).length (uc j)) (Q j).length (natV (Q j))
  sep : ∀ i j, i < K → j < K → i ≠ j → (Value.slice (ua i) (Q i).length (uc i)).ownBlock = none ∨ (Value.slice (ua i) (Q i).length (uc i)).ownBlock ≠ (Value.slice (ua j) (Q j).length (uc j)).ownBlock
section
variable {X Y : World} {B : Nat} {ka : Option Addr} {kc K : Nat} {Q : Nat → List Nat} {ua : Nat → Option Addr} {uc : Nat → Nat}
theorem CqP.nil (X : World) (B : Nat) (Q : Nat → List Nat) (ua : Nat → Option Addr) (uc : Nat → Nat) : CqP X B none 0 0 Q ua uc := ⟨World.ownsRow_nil _ _ _ _, fun _ hj => absurd hj (Nat.not_lt_zero _), fun _ _ hi => absurd hi (Nat.not_lt_zero _)⟩
theorem CqP.kept (h : CqP X B ka kc K Q ua uc) (hg : X.grownBy Y none) : CqP Y B ka kc K Q ua uc := ⟨keep0 h.out hg, fun j hj => keep0 (h.inn j hj) hg, h.sep⟩
/-- A block of numbers below B may turn. -/
theorem CqP.below (h : CqP X B ka kc K Q ua uc) {b : Nat} (hg : X.grownBy Y (some b)) (hb : b < B) : CqP Y B ka kc K Q ua uc := by
  have key : ∀ {e s n : Nat} {v : Value} {xs : List Value}, X.ownsRow B e s v n xs → Y.ownsRow B e s v n xs := fun {e s n v xs} ho => ho.kept hg (by
    cases hv : v.ownBlock with
    | none => exact .inl rfl
    | some g =>
      right
      intro e2
      have := (ho.lt g hv).1
      have e3 : g = b := by simpa using e2
      omega)
  exact ⟨key h.out, fun j hj => key (h.inn j hj), h.sep⟩
/-- A list more, with nothing in it. -/
theorem CqP.push {ka' : Option Addr} {kc' : Nat} (h : CqP X B ka kc K Q ua uc) (hg : X.grownBy Y (Value.slice ka K kc).ownBlock) (ho : Y.ownsRow B 28 1 (.slice ka' (K + 1) kc') (K + 1) (rowsC K Q ua uc ++ [.slice none 0 0])) : CqP Y B ka' kc' (K + 1) (updC Q K []) (updC ua K none) (updC uc K 0) := by
  have e : rowsC (K + 1) (updC Q K []) (updC ua K none) (updC uc K 0) = rowsC K Q ua uc ++ [.slice none 0 0] := by
    unfold rowsC
    rw [List.range_succ, List.map_append]
    congr 1
    · refine List.map_congr_left fun j hj => ?_
      have : j ≠ K := by have := List.mem_range.1 hj; omega
      rw [updC_other _ _ this, updC_other _ _ this, updC_other _ _ this]
    · simp [updC_same]
  refine ⟨by rw [e]; exact ho, fun j hj => ?_, fun i j hi hj hne => ?_⟩
  · by_cases e1 : j = K
    · subst e1
      rw [updC_same, updC_same, updC_same]
      exact World.ownsRow_nil _ _ _ _
    · rw [updC_other _ _ e1, updC_other _ _ e1, updC_other _ _ e1]
      exact row_row (h.inn j (by omega)) h.out (by decide) hg
  · by_cases e1 : i = K
    · subst e1
      rw [updC_same, updC_same, updC_same]
      exact .inl rfl
    · by_cases e2 : j = K
      · subst e2
        rw [updC_other _ _ e1, updC_other _ _ e1, updC_other _ _ e1, updC_same, updC_same, updC_same]
        cases hv : (Value.slice (ua i) (Q i).length (uc i)).ownBlock with
        | none => exact .inl rfl
        | some g => right; simp [Value.ownBlock]
      · rw [updC_other _ _ e1, updC_other _ _ e1, updC_other _ _ e1, updC_other _ _ e2, updC_other _ _ e2, updC_other _ _ e2]
        exact h.sep i j (by omega) (by omega) hne
/-- A node comes to one of the lists. -/
theorem CqP.add {f g c x : Nat} {kb : Nat} (h : CqP X B (some ⟨kb, 0, none⟩) kc K Q ua uc) (hf : f < K) (hg : X.grownBy Y (Value.slice (ua f) (Q f).length (uc f)).ownBlock) (ho : Y.ownsRow B 3 1 (.slice (some ⟨g, 0, none⟩) ((Q f).length + 1) c) ((Q f).length + 1) (natV (Q f) ++ [.int .i64 (x : Int)])) (hat : (Value.slice (ua f) (Q f).length (uc f)).ownBlock = some g ∨ g = X.heap.size) :
    (Y.cell? ⟨kb, f, none⟩ = some (.slice (ua f) (Q f).length (uc f)) ∧ Y.frozen? ⟨kb, f, none⟩ = false) ∧ CqP (Y.setCell ⟨kb, f, none⟩ (.slice (some ⟨g, 0, none⟩) ((Q f).length + 1) c)) B (some ⟨kb, 0, none⟩) kc K (updC Q f (Q f ++ [x])) (updC ua f (some ⟨g, 0, none⟩)) (updC uc f c) := by
  have hs : Y.grownBy (Y.setCell ⟨kb, f, none⟩ (.slice (some ⟨g, 0, none⟩) ((Q f).length + 1) c)) (some kb) := grown_setCell _ _ _
  have hout := row_row h.out (h.inn f hf) (by decide) hg
  have hlen : (Q f ++ [x]).length = (Q f).length + 1 := by simp
  rcases hout.2 with ⟨hx, _⟩ | ⟨g', cap, cur, hv, hB, hh, hn, hm, hsz, ht⟩
  · cases hx
  · simp only [Value.slice.injEq, Option.some.injEq, Addr.mk.injEq, and_true] at hv
    obtain ⟨rfl, _, rfl⟩ := hv
    have key : ∀ k, k < K → k ≠ f → (Value.slice (ua k) (Q k).length (uc k)).ownBlock = none ∨ (Value.slice (ua k) (Q k).length (uc k)).ownBlock ≠ some g := fun k hk e => by
      rcases hat with h1 | h1
      · rw [← h1]; exact h.sep k f hk hf e
      · cases hb : (Value.slice (ua k) (Q k).length (uc k)).ownBlock with
        | none => exact .inl rfl
        | some b =>
          right
          intro h2
          have h3 := ((h.inn k hk).lt b hb).2
          have h4 : b = g := by simpa using h2
          omega
    refine ⟨⟨?_, frozen_of_row _ _ _ _ _ hh⟩, ?_, fun k hk => ?_, fun k l hk hl e => ?_⟩
    · have h3 := rowsC_at (K := K) Q ua uc hf
      rw [← ht, List.getElem?_take, if_pos (by omega)] at h3
      rw [cell_of_row _ _ _ _ _ _ hh]
      simpa using h3
    · refine ⟨by rw [rowsC_length]; omega, .inr ⟨kb, kc, cur.setIfInBounds f (.slice (some ⟨g, 0, none⟩) ((Q f).length + 1) c), rfl, hB, heap_setCell_same _ _ _ _ _ _ hh, hn, hm, by simpa using hsz, ?_⟩⟩
      rw [Array.toList_setIfInBounds, List.take_set, ht]
      apply List.ext_getElem?
      intro i
      rw [List.getElem?_set]
      by_cases hi : i < K
      · rw [rowsC_at _ _ _ hi, rowsC_at _ _ _ hi, rowsC_length]
        by_cases e : f = i
        · subst e
          rw [if_pos rfl, if_pos hi, updC_same, updC_same, updC_same, hlen]
        · have e2 : i ≠ f := fun h => e h.symm
          rw [if_neg e, updC_other _ _ e2, updC_other _ _ e2, updC_other _ _ e2]
      · have h1 : f ≠ i := by omega
        rw [if_neg h1, List.getElem?_eq_none (by rw [rowsC_length]; omega), List.getElem?_eq_none (by rw [rowsC_length]; omega)]
    · by_cases e : k = f
      · subst e
        rw [updC_same, updC_same, updC_same, hlen, natV_append]
        exact ho.kept hs (owns_nebox ho hh (by decide))
      · rw [updC_other _ _ e, updC_other _ _ e, updC_other _ _ e]
        have h1 := (h.inn k hk).kept hg (h.sep k f hk hf e)
        exact h1.kept hs (owns_nebox h1 hh (by decide))
    · by_cases e1 : k = f
      · subst e1
        have e2 : l ≠ k := fun h => e h.symm
        rw [updC_same, updC_same, updC_same, updC_other _ _ e2, updC_other _ _ e2, updC_other _ _ e2]
        right
        rcases key l hl e2 with h1 | h1
        · rw [h1]; simp [Value.ownBlock]
        · exact fun h2 => h1 h2.symm
      · rw [updC_other _ _ e1, updC_other _ _ e1, updC_other _ _ e1]
        by_cases e2 : l = f
        · subst e2
          rw [updC_same, updC_same, updC_same]
          exact key k hk e1
        · rw [updC_other _ _ e2, updC_other _ _ e2, updC_other _ _ e2]
          exact h.sep k l hk hl e
end

end Go.Proofs.YtjijagnpcmonbaaDoor.J

/-
  digraph: leave, a component.
-/
namespace Go.Proofs.YtjijagnpcmonbaaDoor.J
open Go.RowKit Go.Maps Go.Shelf D

attribute [local go_sem] Oper.semAt_some

set_option maxRecDepth 100000 in
set_option maxHeartbeats 4000000 in
theorem leave_compC (X : World) (B sb N : Nat) (ea : Option Addr) (ec lb : Nat) (W : List (Nat × Nat × Nat)) (O : List Nat) (low : Nat → Nat) (wa oa : Option Addr) (wc oc : Nat) (nd pl gn : Nat) (h : SrAt X B sb N ea ec lb (W ++ [(nd, pl + 1, gn)]) O low wa oa wc oc) (hnd : nd < N) (hlo : pl + 1 ≤ low nd) (hW : W.length ≤ 5864062014805) (hO : pl < O.length) (hON : O.length ≤ 5864062014805) (hlt : ∀ x ∈ O, x < N) (p1 : Nat) (Q : World → Prop)
    (hh : ∀ Y a cap, SKeep B X Y → SrAt Y B sb N ea ec lb W (O.take pl) (lowC low 9223372036854775807 (O.drop pl)) wa oa wc oc → IntsAt Y a (intL (O.drop pl)) → (∀ rb ro, a = some ⟨rb, ro, none⟩ → B ≤ rb ∧ ∃ cs, Y.heap[rb]? = some (.cells cs 3 (0, 0))) → Calls Tryd.prog 16 #[.slice a (O.drop pl).length cap, .pointer (some ⟨p1, 0, none⟩)] Y fun e y => e = .returned (.tuple #[]) ∧ Q y) :
    Calls Tryd.prog 41 #[.pointer (some ⟨sb, 0, none⟩), .agg #[.int .i64 (nd : Int), .int .i64 ((pl : Int) + 1), .int .i64 (gn : Int)], .func (.func 16) #[] #[.pointer (some ⟨p1, 0, none⟩)]] X fun e y => e = .returned (.tuple #[]) ∧ Q y := by
  obtain ⟨Y0, hY0⟩ : ∃ Y, Y = X.alloc (.cells #[.int .i64 (nd : Int), .int .i64 ((pl : Int) + 1), .int .i64 (gn : Int)] 78) := ⟨_, rfl⟩
  have hg0 : X.grownBy Y0 none := by rw [hY0]; exact World.grownBy_alloc _ _ none
  have h0 := h.kept hg0
  have hbx : Y0.heap[X.heap.size]? = some (.cells #[.int .i64 (nd : Int), .int .i64 ((pl : Int) + 1), .int .i64 (gn : Int)] 78 (0, 0)) := by rw [hY0]; exact heap_alloc_last X _
  obtain ⟨wn, hwn⟩ : ∃ x, x = W.length := ⟨_, rfl⟩
  have HWN : Hid (wn = W.length) := hwn
  have hwl : (W ++ [(nd, pl + 1, gn)]).length = wn + 1 := by rw [List.length_append, List.length_singleton, hwn]
  obtain ⟨y0, y1, y2, y3⟩ := h0.cells
  rw [hwl] at y1
  obtain ⟨hcap, g, hwa, _⟩ := h.last
  subst hwa
  rw [← hwn] at hcap hW
  obtain ⟨h1, k1⟩ := h0.popW
  rw [← hwn] at h1 k1
  have hsb : sb ≠ X.heap.size := by have := (Array.getElem?_eq_some_iff.1 h.box).1; omega
  have hgd := grown_drewN (Y0.setCell ⟨sb, 1, none⟩ (.slice (some ⟨g, 0, none⟩) wn wc)) 1
  have hb1 := box_kept (set_ne (x := 1) (v := .slice (some ⟨g, 0, none⟩) wn wc) hbx (fun e => hsb e.symm)) hgd
  have HK1 := show Hid _ from ((SKeep.none_ hg0).trans k1).trans (.none_ hgd)
  have HS1 := show Hid _ from h1.kept hgd
  have HB1 := show Hid _ from hb1
  have y1f := h0.free 1
  have HY0 : Hid (Y0 = X.alloc (.cells #[.int .i64 (nd : Int), .int .i64 ((pl : Int) + 1), .int .i64 (gn : Int)] 78)) := hY0
  rw [hY0] at y0 y1 y2 y3 y1f
  have hc0 : (wn : Int) ≤ (wc : Int) := by omega
  have hw1 : IntKind.i64.wrap ((wn : Int) + 1 - 1) = (wn : Int) := by rw [IntKind.wrap_i64]; omega
  have hw2 : IntKind.i64.wrap (wn : Int) = (wn : Int) := by rw [IntKind.wrap_i64]; omega
  have hw3 : (wn : Int) + 1 - 1 = (wn : Int) := by omega
  have hw0 : (0 : Int) ≤ (wn : Int) := by omega
  have hn0 : (0 : Int) ≤ (nd : Int) := by omega
  have hn1 : (nd : Int) < (N : Int) := by omega
  obtain ⟨ln, hln⟩ : ∃ x, x = low nd := ⟨_, rfl⟩
  have HLN : Hid (ln = low nd) := hln
  rw [← hln] at hlo
  have hld : decide (ln < pl + 1) = false := decide_eq_false (by omega)
  have hld2 : decide ((ln : Int) < (pl : Int) + 1) = false := decide_eq_false (by omega)
  obtain ⟨on, hon⟩ : ∃ x, x = O.length := ⟨_, rfl⟩
  have HON : Hid (on = O.length) := hon
  rw [← hon] at hO hON
  have HH := show Hid _ from hh
  have HLT := show Hid _ from hlt
  have hp1 : IntKind.i64.wrap ((pl : Int) + 1 - 1) = (pl : Int) := by rw [IntKind.wrap_i64]; omega
  have hp2 : IntKind.i64.wrap (pl : Int) = (pl : Int) := by rw [IntKind.wrap_i64]; omega
  have hp3 : (pl : Int) + 1 - 1 = (pl : Int) := by omega
  have hp4 : (0 : Int) ≤ (pl : Int) := by omega
  have hp5 : (pl : Int) ≤ (on : Int) := by omega
  clear hln hon hh hlt
  clear h h0 hg0 hY0 hwn hwl h1 k1 hcap hbx hsb hgd hb1
  go_enter Tryd.func41, Tryd.ntmps41
  go_wp2_with fail
  go_region_law (fail)
  all_goals obtain ⟨S1, hS1⟩ : ∃ S, S = ((X.alloc (.cells #[.int .i64 (nd : Int), .int .i64 ((pl : Int) + 1), .int .i64 (gn : Int)] 78)).setCell ⟨sb, 1, none⟩ (.slice (some ⟨g, 0, none⟩) wn wc)).drew := ⟨_, rfl⟩
  all_goals rw [← hS1]
  all_goals rw [← HY0.out] at hS1
  all_goals have e1 : S1 = World.drewN (Y0.setCell ⟨sb, 1, none⟩ (.slice (some ⟨g, 0, none⟩) wn wc)) 1 := hS1
  all_goals rw [← e1] at HS1 HK1 HB1
  all_goals clear hS1 e1 y0 y1 y2 y3 y1f
  all_goals obtain ⟨z0, z1, z2, z3⟩ := HS1.out.cells
  all_goals rw [← HWN.out] at z1
  all_goals have zl := HS1.out.val.cell nd hnd
  all_goals have v0 : S1.cell? ⟨X.heap.size, 0, none⟩ = some (.int .i64 (nd : Int)) := by rw [cell_of_row _ _ _ _ _ _ HB1.out]; rfl
  all_goals have v1 : S1.cell? ⟨X.heap.size, 1, none⟩ = some (.int .i64 ((pl : Int) + 1)) := by rw [cell_of_row _ _ _ _ _ _ HB1.out]; rfl
  all_goals rw [← HLN.out] at zl
  all_goals rw [← HON.out] at z2
  all_goals obtain ⟨og, hoa, hob, hoc, ⟨ocur, hoh⟩, hocell⟩ := owns_rest (p := pl) (by have := HS1.out.opn; rw [← HON.out] at this; exact this) hO
  all_goals subst hoa
  all_goals have HOB : Hid (B ≤ og) := hob
  all_goals have hp6 : (pl : Int) ≤ (oc : Int) := by omega
  all_goals have hp7 : (on : Int) ≤ (oc : Int) := by omega
  all_goals have hp8 : ¬ pl = oc := by omega
  all_goals have hp9 : ¬ (pl : Int) = (oc : Int) := by omega
  all_goals have HOC := show Hid _ from hocell
  all_goals clear hob hoh hocell
  all_goals go_wp2_with fail
  all_goals go_quiet (fail)
  all_goals have hv1 := grown_drewN S1 nq
  all_goals generalize S1.drewN nq = V1 at hv1 ⊢
  all_goals have HV1 := show Hid _ from hv1
  all_goals replace z2 := hv1.cell z2 (by simp)
  all_goals replace v1 := hv1.cell v1 (by simp)
  all_goals clear hv1
  all_goals go_wp2_with fail
  all_goals go_quiet (fail)
  all_goals have hv2 := grown_drewN V1 nq
  all_goals generalize V1.drewN nq = V2 at hv2 ⊢
  all_goals have HV2 := show Hid _ from grown_trans HV1.out hv2
  all_goals replace z2 := hv2.cell z2 (by simp)
  all_goals replace v1 := hv2.cell v1 (by simp)
  all_goals have z2f := (HS1.out.kept HV2.out).free 2
  all_goals obtain ⟨m, hm⟩ : ∃ m, m = on - pl := ⟨_, rfl⟩
  all_goals have hml : m = (O.drop pl).length := by rw [List.length_drop, ← HON.out]; exact hm
  all_goals have HML : Hid (m = (O.drop pl).length) := hml
  all_goals rw [← hm]
  all_goals obtain ⟨hc1, hc2⟩ := (HS1.out.kept HV2.out).cutO (p := pl) (by rw [← HON.out]; omega)
  all_goals have hgd := grown_drewN (V2.setCell ⟨sb, 2, none⟩ (.slice (some ⟨og, 0, none⟩) pl oc)) 1
  all_goals have HS2 := show Hid _ from hc1.kept hgd
  all_goals have HK2 := show Hid _ from ((HK1.out.trans (.none_ HV2.out)).trans hc2).trans (.none_ hgd)
  all_goals have HOC2 : Hid (∀ i, i < m → (World.drewN (V2.setCell ⟨sb, 2, none⟩ (.slice (some ⟨og, 0, none⟩) pl oc)) 1).cell? ⟨og, pl + i, none⟩ = some (.int .i64 (((O.drop pl).getD i 0 : Nat) : Int))) := fun i hi => open_cell (HS1.out.kept HV2.out) _ (HV2.out.cell (HOC.out i (by rw [← hml]; exact hi)) (by simp))
  all_goals have hsep : og ≠ lb := fun e => HS1.out.sep (by rw [e]; rfl)
  all_goals clear hv2 hm hml hc1 hc2 hgd HOC HV1 HV2 HS1 HK1 HB1
  all_goals go_wp2_with fail
  all_goals go_region_law (fail)
  all_goals obtain ⟨S2, hS2⟩ : ∃ S, S = (V2.setCell ⟨sb, 2, none⟩ (.slice (some ⟨og, 0, none⟩) pl oc)).drew := ⟨_, rfl⟩
  all_goals rw [← hS2]
  all_goals have e2 : S2 = World.drewN (V2.setCell ⟨sb, 2, none⟩ (.slice (some ⟨og, 0, none⟩) pl oc)) 1 := hS2
  all_goals rw [← e2] at HS2 HK2 HOC2
  all_goals clear hS2 e2 z0 z1 z2 z3 zl v0 v1 z2f
  all_goals obtain ⟨c, hc⟩ : ∃ c, c = O.drop pl := ⟨_, rfl⟩
  all_goals have HCL : Hid (∀ x ∈ c, x < N) := fun x hx => HLT.out x (List.mem_of_mem_drop (by rw [← hc]; exact hx))
  all_goals rw [← hc] at HML HOC2 HH
  all_goals obtain ⟨O2, hO2⟩ : ∃ l, l = O.take pl := ⟨_, rfl⟩
  all_goals rw [← hO2] at HS2 HH
  all_goals have hmb : m ≤ 5864062014805 := by have := HML.out; rw [hc, List.length_drop, ← HON.out] at this; omega
  all_goals clear hc hO2 HLT HON
  all_goals go_wp2_with fail
  all_goals go_loopg [55] m (fun gk v55 wr => ∃ (k : Nat), k ≤ m ∧ gk = m - k ∧ v55 = .int .i64 k ∧ SKeep B X wr ∧ SrAt wr B sb N ea ec lb W O2 (lowK low 9223372036854775807 c k) (some ⟨g, 0, none⟩) (some ⟨og, 0, none⟩) wc oc ∧ ∀ i, i < m → wr.cell? ⟨og, pl + i, none⟩ = some (.int .i64 ((c.getD i 0 : Nat) : Int)))
  case atStart => exact ⟨0, Nat.zero_le _, rfl, rfl, HK2.out, HS2.out, HOC2.out⟩
  case atStart => exact ⟨0, Nat.zero_le _, rfl, rfl, HK2.out, HS2.out, HOC2.out⟩
  case atStart => exact ⟨0, Nat.zero_le _, rfl, rfl, HK2.out, HS2.out, HOC2.out⟩
  case atStart => exact ⟨0, Nat.zero_le _, rfl, rfl, HK2.out, HS2.out, HOC2.out⟩
  case round =>
    obtain ⟨k, hk, hgk, rfl, hK, hS, hC⟩ := hrel
    have HGK : Hid (gk = m - k) := hgk
    have HK := show Hid _ from hK
    have HS := show Hid _ from hS
    have HC := show Hid _ from hC
    clear hgk hK hS hC HK2 HS2 HOC2
    by_cases hkm : k < m
    · have hkd : decide (k < m) = true := decide_eq_true hkm
      have hk0 : (0 : Int) ≤ (k : Int) := by omega
      have hk1 : (k : Int) < (m : Int) := by omega
      have hkc : k < c.length := by rw [← HML.out]; exact hkm
      have c0 := HC.out k hkm
      have hcN : c.getD k 0 < N := HCL.out _ (by rw [List.getD_eq_getElem?_getD, List.getElem?_eq_getElem hkc]; exact List.getElem_mem hkc)
      obtain ⟨x, hx⟩ : ∃ x, x = c.getD k 0 := ⟨_, rfl⟩
      have HX : Hid (x = c.getD k 0) := hx
      rw [← hx] at c0 hcN
      have hx0 : (0 : Int) ≤ (x : Int) := by omega
      have hx1 : (x : Int) < (N : Int) := by omega
      obtain ⟨z0, z1, z2, z3⟩ := HS.out.cells
      have zl := HS.out.val.cell x hcN
      have zf := HS.out.val.free x
      obtain ⟨lx, hlx⟩ : ∃ y, y = lowK low 9223372036854775807 c k x := ⟨_, rfl⟩
      rw [← hlx] at zl
      obtain ⟨hL, hLK⟩ := HS.out.setL (t := x) (v := 9223372036854775807)
      have HL := show Hid _ from hL
      have HLK := show Hid _ from HK.out.trans hLK
      have HC2 : Hid (∀ i, i < m → (wr.setCell ⟨lb, x, none⟩ (.int .i64 9223372036854775807)).cell? ⟨og, pl + i, none⟩ = some (.int .i64 ((c.getD i 0 : Nat) : Int))) := fun i hi => by
        have hG : wr.grownBy (wr.setCell ⟨lb, x, none⟩ (.int .i64 9223372036854775807)) (some lb) := grown_setCell _ _ _
        exact hG.cell (HC.out i hi) (by simpa using hsep)
      clear hx hlx hL hLK z0 z1 z2 hkc
      go_wp2_with fail
      go_roundg (m - (k + 1))
      case measure => have := HGK.out; omega
      case rel => exact ⟨k + 1, by omega, rfl, by go_num, HLK.out, by unfold lowK; rw [← HX.out]; exact HL.out, HC2.out⟩
    · have hkm2 : m = k := by omega
      subst hkm2
      have hkd : decide (m < m) = false := decide_eq_false (by omega)
      have HLC : Hid (lowK low 9223372036854775807 c m = lowC low 9223372036854775807 c) := by show _ = _; rw [HML.out]; exact lowK_all _ _ _
      have HIA : Hid (IntsAt wr (some ⟨og, pl, none⟩) (intL c)) := .inr ⟨og, pl, rfl, fun i hi => by rw [intL_at]; exact HC.out i (by rw [intL_length, ← HML.out] at hi; exact hi)⟩
      have HHC : Hid (∀ cp, Calls Tryd.prog 16 #[.slice (some ⟨og, pl, none⟩) m cp, .pointer (some ⟨p1, 0, none⟩)] wr fun e y => e = .returned (.tuple #[]) ∧ Q y) := fun cp => by
        have h1 := HH.out wr (some ⟨og, pl, none⟩) cp HK.out (by rw [← HLC.out]; exact HS.out) HIA.out (fun rb ro e => by cases e; exact ⟨HOB.out, open_block HS.out⟩)
        rw [← HML.out] at h1
        exact h1
      go_wp2_with fail
      refine Calls.mono (HHC.out _) ?_
      rintro e w9 ⟨rfl, hq9⟩
      have HQ9 := show Hid _ from hq9
      clear hq9
      go_wp2_with fail
      refine bodyPost_end (v := .tuple #[]) (by simp [results, Tryd.results41]) rfl ?_
      exact ⟨rfl, HQ9.out⟩
  case round =>
    obtain ⟨k, hk, hgk, rfl, hK, hS, hC⟩ := hrel
    have HGK : Hid (gk = m - k) := hgk
    have HK := show Hid _ from hK
    have HS := show Hid _ from hS
    have HC := show Hid _ from hC
    clear hgk hK hS hC HK2 HS2 HOC2
    by_cases hkm : k < m
    · have hkd : decide (k < m) = true := decide_eq_true hkm
      have hk0 : (0 : Int) ≤ (k : Int) := by omega
      have hk1 : (k : Int) < (m : Int) := by omega
      have hkc : k < c.length := by rw [← HML.out]; exact hkm
      have c0 := HC.out k hkm
      have hcN : c.getD k 0 < N := HCL.out _ (by rw [List.getD_eq_getElem?_getD, List.getElem?_eq_getElem hkc]; exact List.getElem_mem hkc)
      obtain ⟨x, hx⟩ : ∃ x, x = c.getD k 0 := ⟨_, rfl⟩
      have HX : Hid (x = c.getD k 0) := hx
      rw [← hx] at c0 hcN
      have hx0 : (0 : Int) ≤ (x : Int) := by omega
      have hx1 : (x : Int) < (N : Int) := by omega
      obtain ⟨z0, z1, z2, z3⟩ := HS.out.cells
      have zl := HS.out.val.cell x hcN
      have zf := HS.out.val.free x
      obtain ⟨lx, hlx⟩ : ∃ y, y = lowK low 9223372036854775807 c k x := ⟨_, rfl⟩
      rw [← hlx] at zl
      obtain ⟨hL, hLK⟩ := HS.out.setL (t := x) (v := 9223372036854775807)
      have HL := show Hid _ from hL
      have HLK := show Hid _ from HK.out.trans hLK
      have HC2 : Hid (∀ i, i < m → (wr.setCell ⟨lb, x, none⟩ (.int .i64 9223372036854775807)).cell? ⟨og, pl + i, none⟩ = some (.int .i64 ((c.getD i 0 : Nat) : Int))) := fun i hi => by
        have hG : wr.grownBy (wr.setCell ⟨lb, x, none⟩ (.int .i64 9223372036854775807)) (some lb) := grown_setCell _ _ _
        exact hG.cell (HC.out i hi) (by simpa using hsep)
      clear hx hlx hL hLK z0 z1 z2 hkc
      go_wp2_with fail
      go_roundg (m - (k + 1))
      case measure => have := HGK.out; omega
      case rel => exact ⟨k + 1, by omega, rfl, by go_num, HLK.out, by unfold lowK; rw [← HX.out]; exact HL.out, HC2.out⟩
    · have hkm2 : m = k := by omega
      subst hkm2
      have hkd : decide (m < m) = false := decide_eq_false (by omega)
      have HLC : Hid (lowK low 9223372036854775807 c m = lowC low 9223372036854775807 c) := by show _ = _; rw [HML.out]; exact lowK_all _ _ _
      have HIA : Hid (IntsAt wr (some ⟨og, pl, none⟩) (intL c)) := .inr ⟨og, pl, rfl, fun i hi => by rw [intL_at]; exact HC.out i (by rw [intL_length, ← HML.out] at hi; exact hi)⟩
      have HHC : Hid (∀ cp, Calls Tryd.prog 16 #[.slice (some ⟨og, pl, none⟩) m cp, .pointer (some ⟨p1, 0, none⟩)] wr fun e y => e = .returned (.tuple #[]) ∧ Q y) := fun cp => by
        have h1 := HH.out wr (some ⟨og, pl, none⟩) cp HK.out (by rw [← HLC.out]; exact HS.out) HIA.out (fun rb ro e => by cases e; exact ⟨HOB.out, open_block HS.out⟩)
        rw [← HML.out] at h1
        exact h1
      go_wp2_with fail
      refine Calls.mono (HHC.out _) ?_
      rintro e w9 ⟨rfl, hq9⟩
      have HQ9 := show Hid _ from hq9
      clear hq9
      go_wp2_with fail
      refine bodyPost_end (v := .tuple #[]) (by simp [results, Tryd.results41]) rfl ?_
      exact ⟨rfl, HQ9.out⟩
  case round =>
    obtain ⟨k, hk, hgk, rfl, hK, hS, hC⟩ := hrel
    have HGK : Hid (gk = m - k) := hgk
    have HK := show Hid _ from hK
    have HS := show Hid _ from hS
    have HC := show Hid _ from hC
    clear hgk hK hS hC HK2 HS2 HOC2
    by_cases hkm : k < m
    · have hkd : decide (k < m) = true := decide_eq_true hkm
      have hk0 : (0 : Int) ≤ (k : Int) := by omega
      have hk1 : (k : Int) < (m : Int) := by omega
      have hkc : k < c.length := by rw [← HML.out]; exact hkm
      have c0 := HC.out k hkm
      have hcN : c.getD k 0 < N := HCL.out _ (by rw [List.getD_eq_getElem?_getD, List.getElem?_eq_getElem hkc]; exact List.getElem_mem hkc)
      obtain ⟨x, hx⟩ : ∃ x, x = c.getD k 0 := ⟨_, rfl⟩
      have HX : Hid (x = c.getD k 0) := hx
      rw [← hx] at c0 hcN
      have hx0 : (0 : Int) ≤ (x : Int) := by omega
      have hx1 : (x : Int) < (N : Int) := by omega
      obtain ⟨z0, z1, z2, z3⟩ := HS.out.cells
      have zl := HS.out.val.cell x hcN
      have zf := HS.out.val.free x
      obtain ⟨lx, hlx⟩ : ∃ y, y = lowK low 9223372036854775807 c k x := ⟨_, rfl⟩
      rw [← hlx] at zl
      obtain ⟨hL, hLK⟩ := HS.out.setL (t := x) (v := 9223372036854775807)
      have HL := show Hid _ from hL
      have HLK := show Hid _ from HK.out.trans hLK
      have HC2 : Hid (∀ i, i < m → (wr.setCell ⟨lb, x, none⟩ (.int .i64 9223372036854775807)).cell? ⟨og, pl + i, none⟩ = some (.int .i64 ((c.getD i 0 : Nat) : Int))) := fun i hi => by
        have hG : wr.grownBy (wr.setCell ⟨lb, x, none⟩ (.int .i64 9223372036854775807)) (some lb) := grown_setCell _ _ _
        exact hG.cell (HC.out i hi) (by simpa using hsep)
      clear hx hlx hL hLK z0 z1 z2 hkc
      go_wp2_with fail
      go_roundg (m - (k + 1))
      case measure => have := HGK.out; omega
      case rel => exact ⟨k + 1, by omega, rfl, by go_num, HLK.out, by unfold lowK; rw [← HX.out]; exact HL.out, HC2.out⟩
    · have hkm2 : m = k := by omega
      subst hkm2
      have hkd : decide (m < m) = false := decide_eq_false (by omega)
      have HLC : Hid (lowK low 9223372036854775807 c m = lowC low 9223372036854775807 c) := by show _ = _; rw [HML.out]; exact lowK_all _ _ _
      have HIA : Hid (IntsAt wr (some ⟨og, pl, none⟩) (intL c)) := .inr ⟨og, pl, rfl, fun i hi => by rw [intL_at]; exact HC.out i (by rw [intL_length, ← HML.out] at hi; exact hi)⟩
      have HHC : Hid (∀ cp, Calls Tryd.prog 16 #[.slice (some ⟨og, pl, none⟩) m cp, .pointer (some ⟨p1, 0, none⟩)] wr fun e y => e = .returned (.tuple #[]) ∧ Q y) := fun cp => by
        have h1 := HH.out wr (some ⟨og, pl, none⟩) cp HK.out (by rw [← HLC.out]; exact HS.out) HIA.out (fun rb ro e => by cases e; exact ⟨HOB.out, open_block HS.out⟩)
        rw [← HML.out] at h1
        exact h1
      go_wp2_with fail
      refine Calls.mono (HHC.out _) ?_
      rintro e w9 ⟨rfl, hq9⟩
      have HQ9 := show Hid _ from hq9
      clear hq9
      go_wp2_with fail
      refine bodyPost_end (v := .tuple #[]) (by simp [results, Tryd.results41]) rfl ?_
      exact ⟨rfl, HQ9.out⟩
  case round =>
    obtain ⟨k, hk, hgk, rfl, hK, hS, hC⟩ := hrel
    have HGK : Hid (gk = m - k) := hgk
    have HK := show Hid _ from hK
    have HS := show Hid _ from hS
    have HC := show Hid _ from hC
    clear hgk hK hS hC HK2 HS2 HOC2
    by_cases hkm : k < m
    · have hkd : decide (k < m) = true := decide_eq_true hkm
      have hk0 : (0 : Int) ≤ (k : Int) := by omega
      have hk1 : (k : Int) < (m : Int) := by omega
      have hkc : k < c.length := by rw [← HML.out]; exact hkm
      have c0 := HC.out k hkm
      have hcN : c.getD k 0 < N := HCL.out _ (by rw [List.getD_eq_getElem?_getD, List.getElem?_eq_getElem hkc]; exact List.getElem_mem hkc)
      obtain ⟨x, hx⟩ : ∃ x, x = c.getD k 0 := ⟨_, rfl⟩
      have HX : Hid (x = c.getD k 0) := hx
      rw [← hx] at c0 hcN
      have hx0 : (0 : Int) ≤ (x : Int) := by omega
      have hx1 : (x : Int) < (N : Int) := by omega
      obtain ⟨z0, z1, z2, z3⟩ := HS.out.cells
      have zl := HS.out.val.cell x hcN
      have zf := HS.out.val.free x
      obtain ⟨lx, hlx⟩ : ∃ y, y = lowK low 9223372036854775807 c k x := ⟨_, rfl⟩
      rw [← hlx] at zl
      obtain ⟨hL, hLK⟩ := HS.out.setL (t := x) (v := 9223372036854775807)
      have HL := show Hid _ from hL
      have HLK := show Hid _ from HK.out.trans hLK
      have HC2 : Hid (∀ i, i < m → (wr.setCell ⟨lb, x, none⟩ (.int .i64 9223372036854775807)).cell? ⟨og, pl + i, none⟩ = some (.int .i64 ((c.getD i 0 : Nat) : Int))) := fun i hi => by
        have hG : wr.grownBy (wr.setCell ⟨lb, x, none⟩ (.int .i64 9223372036854775807)) (some lb) := grown_setCell _ _ _
        exact hG.cell (HC.out i hi) (by simpa using hsep)
      clear hx hlx hL hLK z0 z1 z2 hkc
      go_wp2_with fail
      go_roundg (m - (k + 1))
      case measure => have := HGK.out; omega
      case rel => exact ⟨k + 1, by omega, rfl, by go_num, HLK.out, by unfold lowK; rw [← HX.out]; exact HL.out, HC2.out⟩
    · have hkm2 : m = k := by omega
      subst hkm2
      have hkd : decide (m < m) = false := decide_eq_false (by omega)
      have HLC : Hid (lowK low 9223372036854775807 c m = lowC low 9223372036854775807 c) := by show _ = _; rw [HML.out]; exact lowK_all _ _ _
      have HIA : Hid (IntsAt wr (some ⟨og, pl, none⟩) (intL c)) := .inr ⟨og, pl, rfl, fun i hi => by rw [intL_at]; exact HC.out i (by rw [intL_length, ← HML.out] at hi; exact hi)⟩
      have HHC : Hid (∀ cp, Calls Tryd.prog 16 #[.slice (some ⟨og, pl, none⟩) m cp, .pointer (some ⟨p1, 0, none⟩)] wr fun e y => e = .returned (.tuple #[]) ∧ Q y) := fun cp => by
        have h1 := HH.out wr (some ⟨og, pl, none⟩) cp HK.out (by rw [← HLC.out]; exact HS.out) HIA.out (fun rb ro e => by cases e; exact ⟨HOB.out, open_block HS.out⟩)
        rw [← HML.out] at h1
        exact h1
      go_wp2_with fail
      refine Calls.mono (HHC.out _) ?_
      rintro e w9 ⟨rfl, hq9⟩
      have HQ9 := show Hid _ from hq9
      clear hq9
      go_wp2_with fail
      refine bodyPost_end (v := .tuple #[]) (by simp [results, Tryd.results41]) rfl ?_
      exact ⟨rfl, HQ9.out⟩

end Go.Proofs.YtjijagnpcmonbaaDoor.J

/-
  digraph: finish.
-/
namespace Go.Proofs.YtjijagnpcmonbaaDoor.J
open Go.RowKit Go.Maps Go.Shelf D

attribute [local go_sem] Oper.semAt_some

set_option maxRecDepth 100000 in
set_option maxHeartbeats 4000000 in
theorem finish_anyC (I : World → (Nat → Bool) → Prop) (B sb N : Nat) (ea : Option Addr) (ec lb : Nat) (E : Nat → List Nat) (ua : Nat → Option Addr) (uc : Nat → Nat) (p1 : Nat) (hN : N ≤ 5864062014805) (hE : ∀ x, x < N → ∀ y ∈ E x, y < N) (hEl : ∀ x, x < N → (E x).length ≤ 17592186044416)
    (hst : ∀ X Y C, I X C → SKeep B X Y → I Y C) (hed : ∀ X C, I X C → LsAt X ea N (fun i => intL (E i)) ua uc)
    (hh : ∀ X C c a cap, I X C → CompP N E C c → IntsAt X a (intL c) → (∀ rb ro, a = some ⟨rb, ro, none⟩ → B ≤ rb ∧ ∃ cs, X.heap[rb]? = some (.cells cs 3 (0, 0))) → Calls Tryd.prog 16 #[.slice a c.length cap, .pointer (some ⟨p1, 0, none⟩)] X fun e y => e = .returned (.tuple #[]) ∧ I y (addC C c) ∧ HKeep B X y)
    (X : World) (fs : List Fr) (low : Nat → Nat) (C : Nat → Bool) (hS : SjAt X B sb N ea ec lb E fs low C) (hI : I X C) :
    Calls Tryd.prog 30 #[.pointer (some ⟨sb, 0, none⟩), .func (.func 16) #[] #[.pointer (some ⟨p1, 0, none⟩)]] X fun e y => FinTold I B sb N ea ec lb E low e y := by
  have HE := show Hid _ from hE
  have HEL := show Hid _ from hEl
  have HST := show Hid _ from hst
  have HED := show Hid _ from hed
  have HH := show Hid _ from hh
  have HS := show Hid _ from hS
  have HI := show Hid _ from hI
  clear hE hEl hst hed hh hS hI
  go_enter Tryd.func30, Tryd.ntmps30
  go_wp2_with fail
  go_step3
  go_wp2_with fail
  try go_step3
  go_wp2_with fail
  go_loopg [] (unmet N low * 2 + fs.length) (fun gk wr => ∃ (fs' : List Fr) (low' : Nat → Nat) (C' : Nat → Bool), gk = unmet N low' * 2 + fs'.length ∧ SjAt wr B sb N ea ec lb E fs' low' C' ∧ I wr C' ∧ Met low low')
  case atStart => exact ⟨fs, low, C, rfl, HS.out, HI.out, .refl _⟩
  case round =>
    clear HS HI
    obtain ⟨fs1, low1, C1, hgk, hS, hI, hM⟩ := hrel
    have HGK : Hid (gk = unmet N low1 * 2 + fs1.length) := hgk
    have HM : Hid (Met low low1) := hM
    have HI := show Hid _ from hI
    obtain ⟨hT, wa, oa, wc, oc, hR⟩ := hS
    have HT := show Hid _ from hT
    have HR := show Hid _ from hR
    clear hgk hI hM hT hR
    obtain ⟨z0, z1, z2, z3⟩ := HR.out.cells
    cases fs1 with
    | nil =>
      have HS0 : Hid (SjAt wr B sb N ea ec lb E [] low1 C1) := ⟨HT.out, wa, oa, wc, oc, HR.out⟩
      have e0 : (wayL []).length = 0 := rfl
      rw [e0] at z1
      clear HT HR e0
      go_wp2_with fail
      first | rw [Exit.noGoto_normal] | rw [Exit.noGoto] | skip
      refine bodyPost_end (v := .tuple #[]) (by simp [results, Tryd.results30]) rfl ?_
      exact ⟨rfl, low1, C1, HS0.out, HI.out, HM.out⟩
    | cons f fs2 =>
      obtain ⟨nd, hnd⟩ : ∃ x, x = f.node := ⟨_, rfl⟩
      obtain ⟨pl, hpl⟩ : ∃ x, x = (opens fs2).length := ⟨_, rfl⟩
      obtain ⟨wn, hwn⟩ : ∃ x, x = (wayL fs2).length := ⟨_, rfl⟩
      obtain ⟨el, hel⟩ : ∃ x, x = (E nd).length := ⟨_, rfl⟩
      have hR1 : SrAt wr B sb N ea ec lb (wayL fs2 ++ [(nd, pl + 1, f.gone)]) (opens (f :: fs2)) low1 wa oa wc oc := by rw [hnd, hpl]; exact HR.out
      obtain ⟨hcap, g, hwa, _⟩ := hR1.last
      subst hwa
      have HR1 := show Hid _ from hR1
      have HND : Hid (nd = f.node) := hnd
      have HPL : Hid (pl = (opens fs2).length) := hpl
      have HWN : Hid (wn = (wayL fs2).length) := hwn
      have HEL2 : Hid (el = (E nd).length) := hel
      have hzl : (wayL (f :: fs2)).length = wn + 1 := by rw [wayL_length, hwn, wayL_length]; rfl
      have hndN : nd < N := by rw [hnd]; exact (HT.out.ocl _ (node_open (List.mem_cons_self ..))).2
      have hwnb : wn ≤ 5864062014805 := by
        have h1 := way_le fs2
        have h2 := HT.out.len
        have h3 : (opens (f :: fs2)).length = (opens fs2).length + (f.node :: f.rest).length := by show (opens fs2 ++ (f.node :: f.rest)).length = _; rw [List.length_append]
        rw [hwn, wayL_length]
        omega
      have helb : el ≤ 17592186044416 := by rw [hel]; exact HEL.out nd hndN
      rw [hzl] at z1
      rw [← hwn] at hcap
      have hw0 : (0 : Int) ≤ (wn : Int) := by omega
      have hw1 : IntKind.i64.wrap ((wn : Int) + 1 - 1) = (wn : Int) := by rw [IntKind.wrap_i64]; omega
      have hw2 : IntKind.i64.wrap (wn : Int) = (wn : Int) := by rw [IntKind.wrap_i64]; omega
      have hw3 : (wn : Int) + 1 - 1 = (wn : Int) := by omega
      have hw4 : (wn : Int) < (wn : Int) + 1 := by omega
      have hw5 : decide ((0 : Int) < (wn : Int) + 1) = true := decide_eq_true (by omega)
      have hw6 : decide (0 < wn + 1) = true := decide_eq_true (by omega)
      have HT1 : Hid (TjP N E 9223372036854775807 (⟨f.node, f.gone, f.rest⟩ :: fs2) low1 C1) := HT.out
      have hgl := HT.out.loc.1
      rw [← hnd, ← hel] at hgl
      clear hnd hpl hwn hel hR1 HR hzl hcap
      go_wp2_with fail
      go_quiet (fail)
      have hv1 := grown_drewN wr nq
      generalize wr.drewN nq = V1 at hv1 ⊢
      have HR2 := show Hid _ from HR1.out.kept hv1
      have HI2 := show Hid _ from HST.out _ _ _ HI.out (.none_ hv1)
      obtain ⟨gn0, hgn0⟩ : ∃ x, x = f.gone := ⟨_, rfl⟩
      rw [← hgn0] at HR2 HT1 hgl
      clear hv1 z0 z1 z2 z3 HR1 HI HT hgn0
      go_wp2_with fail
      go_loopg [] (el - gn0) (fun gk wr => ∃ (gn : Nat) (low2 : Nat → Nat), gn ≤ el ∧ gk = el - gn ∧ TjP N E 9223372036854775807 (⟨f.node, gn, f.rest⟩ :: fs2) low2 C1 ∧ SrAt wr B sb N ea ec lb (wayL fs2 ++ [(nd, pl + 1, gn)]) (opens (f :: fs2)) low2 (some ⟨g, 0, none⟩) oa wc oc ∧ I wr C1 ∧ Met low low2 ∧ unmet N low2 = unmet N low1)
      case atStart => exact ⟨gn0, low1, hgl, rfl, HT1.out, HR2.out, HI2.out, HM.out, rfl⟩
      case round =>
        clear HT1 HR2 HI2 HM
        obtain ⟨gn, low2, hgn, hgk, hT, hR, hI, hM, hU⟩ := hrel
        have HGK2 : Hid (gk = el - gn) := hgk
        have HT := show Hid _ from hT
        have HR := show Hid _ from hR
        have HI := show Hid _ from hI
        have HM : Hid (Met low low2) := hM
        have HU := show Hid _ from hU
        clear hgk hT hR hI hM hU
        generalize wr = Y at *
        obtain ⟨z0, z1, z2, z3⟩ := HR.out.cells
        obtain ⟨_, g', hg', v0, v1, v2, vf, _⟩ := HR.out.last
        have e1 : g' = g := by simpa using hg'.symm
        subst e1
        rw [← HWN.out] at v0 v1 v2 vf
        obtain ⟨kb, hkb, hke, hkI⟩ : ∃ kb, ea = some ⟨kb, 0, none⟩ ∧ Y.cell? ⟨kb, nd, none⟩ = some (.slice (ua nd) el (uc nd)) ∧ IntsAt Y (ua nd) (intL (E nd)) := by
          obtain ⟨h1, h2⟩ := HED.out Y C1 HI.out
          rcases h1 with h1 | ⟨kb, e, h1⟩
          · omega
          · refine ⟨kb, e, ?_, h2 nd hndN⟩
            have h3 := h1 nd hndN
            rw [intL_length, ← HEL2.out] at h3
            exact h3
        subst hkb
        have hn0 : (0 : Int) ≤ (nd : Int) := by omega
        have hn1 : (nd : Int) < (N : Int) := by omega
        by_cases hgl2 : gn < el
        · have hgd : decide (gn < el) = true := decide_eq_true hgl2
          have hg0 : (0 : Int) ≤ (gn : Int) := by omega
          have hg1 : (gn : Int) < (el : Int) := by omega
          have hgE : gn < (E nd).length := by rw [← HEL2.out]; exact hgl2
          obtain ⟨t, ht⟩ : ∃ t, t = (E nd).getD gn 0 := ⟨_, rfl⟩
          have htE : (E nd)[gn]? = some t := by rw [List.getElem?_eq_getElem hgE, ht, List.getD_eq_getElem?_getD, List.getElem?_eq_getElem hgE]; rfl
          have htN : t < N := HE.out nd hndN t (List.mem_of_getElem? htE)
          have HTE : Hid ((E f.node)[gn]? = some t) := by rw [← HND.out]; exact htE
          obtain ⟨rb, ro, hrb, r0⟩ : ∃ rb ro, ua nd = some ⟨rb, ro, none⟩ ∧ Y.cell? ⟨rb, ro + gn, none⟩ = some (.int .i64 (t : Int)) := by
            rcases hkI with h | ⟨rb, ro, e, h⟩
            · have := intL_length (E nd); rw [h] at this; simp at this; omega
            · refine ⟨rb, ro, e, ?_⟩
              have h2 := h gn (by rw [intL_length]; exact hgE)
              rw [intL_at, ← ht] at h2
              exact h2
          obtain ⟨ucn, hucn⟩ : ∃ x, x = uc nd := ⟨_, rfl⟩
          rw [hrb, ← hucn] at hke
          have ht0 : (0 : Int) ≤ (t : Int) := by omega
          have ht1 : (t : Int) < (N : Int) := by omega
          have zl := HR.out.val.cell t htN
          clear ht htE hkI hrb hucn hgE z1 z2
          go_wp2_with fail
          go_quiet (fail)
          have hv1 := grown_drewN Y nq
          generalize Y.drewN nq = V2 at hv1 ⊢
          have HV2 : Hid (Y.grownBy V2 none) := hv1
          replace v0 := hv1.cell v0 (by simp)
          replace v2 := hv1.cell v2 (by simp)
          replace z0 := hv1.cell z0 (by simp)
          replace hke := hv1.cell hke (by simp)
          replace r0 := hv1.cell r0 (by simp)
          clear hv1
          go_wp2_with fail
          go_quiet (fail)
          have hv3 := grown_drewN V2 nq
          generalize V2.drewN nq = V3 at hv3 ⊢
          have HV3 : Hid (Y.grownBy V3 none) := grown_trans HV2.out hv3
          have HR3 := show Hid _ from HR.out.kept HV3.out
          have HI3 := show Hid _ from HST.out _ _ _ HI.out (.none_ HV3.out)
          replace v0 := hv3.cell v0 (by simp)
          replace v2 := hv3.cell v2 (by simp)
          replace z3 := HV3.out.cell z3 (by simp)
          replace zl := HV3.out.cell zl (by simp)
          clear hv3 HV2 HV3 HR HI hke r0 z0 v1
          obtain ⟨lt, hlt⟩ : ∃ x, x = low2 t := ⟨_, rfl⟩
          have HLT : Hid (lt = low2 t) := hlt
          rw [← hlt] at zl
          clear hlt
          by_cases hl0 : lt = 0
          · have hl1 : ((lt : Int) == 0) = true := by rw [hl0]; rfl
            have hl2 : (lt == 0) = true := by rw [hl0]; rfl
            have hlen := HT.out.len
            have h0 : low2 t = 0 := by rw [← HLT.out]; exact hl0
            have HTN : Hid (TjP N E 9223372036854775807 (⟨t, 0, []⟩ :: ⟨f.node, gn, f.rest⟩ :: fs2) (upd low2 t ((opens (f :: fs2)).length + 1)) C1) := HT.out.enter htN h0 HTE.out
            have HEC := show Hid _ from enter_any V3 B sb N _ ec lb (wayL fs2 ++ [(nd, pl + 1, gn)]) (opens (f :: fs2)) low2 _ oa wc oc HR3.out t htN hN hlen (by
              rw [List.length_append, List.length_singleton, wayL_length]
              have h1 := way_le (f :: fs2)
              have h2 : (f :: fs2).length = fs2.length + 1 := rfl
              have h3 : (opens (f :: fs2)).length ≤ N := hlen
              omega)
            have HUN : Hid (unmet N (upd low2 t ((opens (f :: fs2)).length + 1)) + 1 = unmet N low2) := unmet_upd htN h0 (by omega)
            have HMN : Hid (Met low (upd low2 t ((opens (f :: fs2)).length + 1))) := Met.trans HM.out (Met.upd (by omega))
            clear hl0 hlen h0
            go_wp2_with fail
            refine Calls.mono HEC.out ?_
            rintro e y ⟨rfl, hk, wa5, oa5, wc5, oc5, hr⟩
            have HK5 := show Hid _ from hk
            have HR5 := show Hid _ from hr
            clear hk hr HEC
            go_wp2_with fail
            go_roundg (unmet N (upd low2 t ((opens (f :: fs2)).length + 1)) * 2 + ((f :: fs2).length + 1))
            case measure =>
              have h1 := HGK.out
              have h2 := HU.out
              have h3 := HUN.out
              omega
            case rel =>
              refine ⟨⟨t, 0, []⟩ :: ⟨f.node, gn, f.rest⟩ :: fs2, _, C1, rfl, ⟨HTN.out, wa5, oa5, wc5, oc5, ?_⟩, HST.out _ _ _ HI3.out HK5.out, HMN.out⟩
              have h1 := HR5.out
              rw [HND.out, HPL.out] at h1
              exact h1
          · have hl1 : ((lt : Int) == 0) = false := beq_eq_false_iff_ne.2 (by omega)
            have hl2 : (lt == 0) = false := beq_eq_false_iff_ne.2 hl0
            have h0 : low2 t ≠ 0 := by rw [← HLT.out]; exact hl0
            obtain ⟨mn, hmn⟩ : ∃ x, x = min (low2 nd) lt := ⟨_, rfl⟩
            have HTN : Hid (TjP N E 9223372036854775807 (⟨f.node, gn + 1, f.rest⟩ :: fs2) (upd low2 nd mn) C1) := by
              have h1 := HT.out.go (by omega) htN h0 HTE.out
              rw [hmn, HLT.out, HND.out]
              exact h1
            obtain ⟨ln, hln⟩ : ∃ x, x = low2 nd := ⟨_, rfl⟩
            have hnz : low2 nd ≠ 0 := (HT.out.met nd hndN).2 (.inl (by rw [HND.out]; exact node_open (f := ⟨f.node, gn, f.rest⟩) (List.mem_cons_self ..)))
            have hmz : mn ≠ 0 := by rw [hmn, HLT.out]; omega
            have HMN : Hid (Met low (upd low2 nd mn)) := Met.trans HM.out (Met.upd hmz)
            have HUN : Hid (unmet N (upd low2 nd mn) = unmet N low1) := by
              rw [← HU.out]
              exact unmet_same fun x => by
                by_cases e : x = nd
                · subst e; rw [upd_same]; omega
                · rw [upd_other _ _ e]
            have hmi : min (ln : Int) (lt : Int) = (mn : Int) := by rw [hmn, hln]; omega
            have zn := HR3.out.val.cell nd hndN
            have zf := HR3.out.val.free nd
            rw [← hln] at zn
            obtain ⟨h6, k6⟩ := HR3.out.setL (t := nd) (v := mn)
            have HR6 := show Hid _ from h6
            have HK6 := show Hid _ from k6
            clear h6 k6 hl0 h0 hmn hln hnz hmz
            have y3 := fun s : WBox (fun x => V3.grownBy x none) => s.ok.cell z3 (by simp)
            have yv := fun s : WBox (fun x => V3.grownBy x none) => s.ok.cell v0 (by simp)
            have yn := fun s : WBox (fun x => V3.grownBy x none) => s.ok.cell zn (by simp)
            have yt := fun s : WBox (fun x => V3.grownBy x none) => s.ok.cell zl (by simp)
            haveI hne : Nonempty (WBox (fun x => V3.grownBy x none)) := ⟨⟨_, grown_refl _ _⟩⟩
            go_wp2_with fail
            refine wp_region_last (C := fun w' => ∃ s : WBox (fun x => V3.grownBy x none), w' = s.w) (by kernel_rfl) rfl (by kernel_rfl) ⟨⟨_, grown_drewN V3 1⟩, rfl⟩ ?_
            simp only [List.dropLast]
            repeat (go_big_quiet_step (fail))
            refine wpQuiet_nil ?_
            rintro _ ⟨s, rfl⟩
            have HR4 := show Hid _ from HR3.out.kept s.ok
            have HI4 := show Hid _ from HST.out _ _ _ HI3.out (.none_ s.ok)
            generalize s.w = V4 at HR4 HI4 ⊢
            clear y3 yv yn yt hne HR6 HK6 HR3 HI3 z3 v0 v2 zl zn zf
            have zn := HR4.out.val.cell nd hndN
            have zf := HR4.out.val.free nd
            obtain ⟨h6, k6⟩ := HR4.out.setL (t := nd) (v := mn)
            obtain ⟨_, g6, hg6, _, _, w2, wf, _⟩ := h6.last
            have e6 : g6 = g' := by simpa using hg6.symm
            subst e6
            rw [← HWN.out] at w2 wf
            obtain ⟨h7, k7⟩ := h6.setG (k := gn + 1)
            rw [← HWN.out] at h7 k7
            have e7 : ((gn + 1 : Nat) : Int) = (gn : Int) + 1 := by omega
            rw [e7] at h7 k7
            have HR7 := show Hid _ from h7
            have HI7 := show Hid _ from HST.out _ _ _ (HST.out _ _ _ HI4.out k6) k7
            have hgw : IntKind.i64.wrap ((gn : Int) + 1) = (gn : Int) + 1 := by rw [IntKind.wrap_i64]; omega
            obtain ⟨lz, hlz⟩ : ∃ x, x = low2 nd := ⟨_, rfl⟩
            rw [← hlz] at zn
            clear h6 k6 hg6 h7 k7 e7 hlz
            go_wp2_with fail
            go_roundg (el - (gn + 1))
            case measure => have := HGK2.out; omega
            case rel => exact ⟨gn + 1, _, by omega, rfl, HTN.out, HR7.out, HI7.out, HMN.out, HUN.out⟩
        · have hge : el = gn := by omega
          subst hge
          have hgd : decide (el < el) = false := decide_eq_false (by omega)
          clear z1 z2 z3
          go_wp2_with fail
          go_quiet (fail)
          have hv1 := grown_drewN Y nq
          generalize Y.drewN nq = V2 at hv1 ⊢
          replace v0 := hv1.cell v0 (by simp)
          replace v1 := hv1.cell v1 (by simp)
          replace v2 := hv1.cell v2 (by simp)
          have HR3 := show Hid _ from HR.out.kept hv1
          have HI3 := show Hid _ from HST.out _ _ _ HI.out (.none_ hv1)
          clear hv1 HR HI z0
          by_cases hlo : low2 nd < pl + 1
          · have HLC := show Hid _ from leave_low V2 B sb N _ ec lb (wayL fs2) (opens (f :: fs2)) low2 _ oa wc oc nd (pl + 1) el HR3.out hndN hlo (by rw [← HWN.out]; exact hwnb) (.func (.func 16) #[] #[.pointer (some ⟨p1, 0, none⟩)])
            have e5 : ((pl + 1 : Nat) : Int) = (pl : Int) + 1 := by omega
            rw [e5] at HLC
            clear e5
            go_wp2_with fail
            refine Calls.mono HLC.out ?_
            rintro e y ⟨rfl, hk, hr⟩
            have HK4 := show Hid _ from hk
            have HR4 := show Hid _ from hr
            clear hk hr HLC
            go_wp2_with fail
            cases fs2 with
            | nil =>
              exfalso
              obtain ⟨j, hj⟩ := List.mem_iff_getElem?.1 (node_open (fs := [⟨f.node, el, f.rest⟩]) (f := ⟨f.node, el, f.rest⟩) (List.mem_cons_self ..))
              have h1 := (HT.out.plc j _ hj).1
              have h2 := HPL.out
              rw [HND.out] at hlo
              have h3 : (opens []).length = 0 := rfl
              have h4 : 1 ≤ low2 f.node := h1
              omega
            | cons h hs =>
              go_roundg (unmet N low2 * 2 + (h :: hs).length)
              case measure =>
                have h1 := HGK.out
                have h2 := HU.out
                simp only [List.length_cons] at h1 ⊢
                omega
              case rel =>
                have hT4 := HT.out.leave (by show el = (E f.node).length; rw [← HND.out]; exact HEL2.out) (by show low2 f.node < _; rw [← HND.out, ← HPL.out]; exact hlo)
                have e1 : opens (⟨h.node, h.gone, h.rest ++ (f.node :: f.rest)⟩ :: hs) = opens (f :: h :: hs) := by
                  show opens hs ++ (h.node :: (h.rest ++ (f.node :: f.rest))) = (opens hs ++ (h.node :: h.rest)) ++ (f.node :: f.rest)
                  simp
                have hR6 := HR4.out
                rw [← e1] at hR6
                exact ⟨⟨h.node, h.gone, h.rest ++ (f.node :: f.rest)⟩ :: hs, low2, C1, rfl, ⟨hT4, _, _, _, _, hR6⟩, HST.out _ _ _ HI3.out HK4.out, HM.out⟩
          · have hO1 : opens (f :: fs2) = opens fs2 ++ (f.node :: f.rest) := rfl
            have hOd : (opens (f :: fs2)).drop pl = f.node :: f.rest := by rw [hO1, HPL.out, List.drop_left]
            have hOt : (opens (f :: fs2)).take pl = opens fs2 := by rw [hO1, HPL.out, List.take_left]
            obtain ⟨hCP, hTC⟩ := HT.out.comp (by omega) HE.out (by show el = (E f.node).length; rw [← HND.out]; exact HEL2.out) (by show _ ≤ low2 f.node; rw [← HND.out, ← HPL.out]; omega)
            have hlen := HT.out.len
            have HLC := show Hid _ from leave_compC V2 B sb N _ ec lb (wayL fs2) (opens (f :: fs2)) low2 _ oa wc oc nd pl el HR3.out hndN (by omega) (by rw [← HWN.out]; exact hwnb) (by rw [hO1, List.length_append, ← HPL.out]; simp) (Nat.le_trans hlen hN) (fun x hx => (HT.out.ocl x hx).2) p1 (fun y => I y (addC C1 (f.node :: f.rest)) ∧ SjAt y B sb N (some ⟨kb, 0, none⟩) ec lb E fs2 (lowC low2 9223372036854775807 (f.node :: f.rest)) (addC C1 (f.node :: f.rest))) (fun Y' a' cap' hk hr hi hab => by
              rw [hOd] at hr hi ⊢
              rw [hOt] at hr
              refine (HH.out Y' C1 (f.node :: f.rest) a' cap' (HST.out _ _ _ HI3.out hk) hCP hi hab).mono ?_
              rintro e y ⟨h1, h2, h3⟩
              exact ⟨h1, h2, hTC, _, _, _, _, hr.hand h3⟩)
            have HMC : Hid (Met low (lowC low2 9223372036854775807 (f.node :: f.rest))) := Met.trans HM.out (Met.comp (by decide))
            have HUC : Hid (unmet N (lowC low2 9223372036854775807 (f.node :: f.rest)) ≤ unmet N low2) := unmet_anti (Met.comp (by decide))
            clear hO1 hOd hOt hCP hTC hlen
            go_wp2_with fail
            refine Calls.mono HLC.out ?_
            rintro e y ⟨rfl, hi4, hs4⟩
            have HI4 := show Hid _ from hi4
            have HS4 := show Hid _ from hs4
            clear hi4 hs4 HLC
            go_wp2_with fail
            go_roundg (unmet N (lowC low2 9223372036854775807 (f.node :: f.rest)) * 2 + fs2.length)
            case measure =>
              have h1 := HGK.out
              have h2 := HU.out
              have h3 := HUC.out
              simp only [List.length_cons] at h1
              omega
            case rel => exact ⟨fs2, _, _, rfl, HS4.out, HI4.out, HMC.out⟩

end Go.Proofs.YtjijagnpcmonbaaDoor.J

/-
  digraph: eachComponent.
-/
namespace Go.Proofs.YtjijagnpcmonbaaDoor.J
open Go.RowKit Go.Maps Go.Shelf D

attribute [local go_sem] Oper.semAt_some

set_option maxRecDepth 100000 in
set_option maxHeartbeats 4000000 in
theorem each_anyC (I : World → (Nat → Bool) → Prop) (w : World) (N : Nat) (ea : Option Addr) (ec : Nat) (E : Nat → List Nat) (ua : Nat → Option Addr) (uc : Nat → Nat) (p1 : Nat) (hN : N ≤ 5864062014805) (hE : ∀ x, x < N → ∀ y ∈ E x, y < N) (hEl : ∀ x, x < N → (E x).length ≤ 17592186044416)
    (hst : ∀ X Y C, I X C → SKeep w.heap.size X Y → I Y C) (hed : ∀ X C, I X C → LsAt X ea N (fun i => intL (E i)) ua uc)
    (hh : ∀ X C c a cap, I X C → CompP N E C c → IntsAt X a (intL c) → (∀ rb ro, a = some ⟨rb, ro, none⟩ → w.heap.size ≤ rb ∧ ∃ cs, X.heap[rb]? = some (.cells cs 3 (0, 0))) → Calls Tryd.prog 16 #[.slice a c.length cap, .pointer (some ⟨p1, 0, none⟩)] X fun e y => e = .returned (.tuple #[]) ∧ I y (addC C c) ∧ HKeep w.heap.size X y)
    (hI : I w (fun _ => false)) :
    Calls Tryd.prog 15 #[.slice ea N ec, .func (.func 16) #[] #[.pointer (some ⟨p1, 0, none⟩)]] w fun e y => e = .returned (.tuple #[]) ∧ ∃ C, I y C ∧ ∀ x, x < N → C x = true := by
  have HFI : Hid (∀ (sb lb : Nat) (X : World) (fs : List Fr) (low : Nat → Nat) (C : Nat → Bool), SjAt X w.heap.size sb N ea ec lb E fs low C → I X C → Calls Tryd.prog 30 #[.pointer (some ⟨sb, 0, none⟩), .func (.func 16) #[] #[.pointer (some ⟨p1, 0, none⟩)]] X fun e y => FinTold I w.heap.size sb N ea ec lb E low e y) := fun sb lb X fs low C h1 h2 => finish_anyC I w.heap.size sb N ea ec lb E ua uc p1 hN hE hEl hst hed hh X fs low C h1 h2
  have HST := show Hid _ from hst
  have HI := show Hid _ from hI
  obtain ⟨i0, hi0, hz0, hz1, hz2⟩ := info_parts infoInt
  clear hE hEl hst hed hh hI
  go_enter Tryd.func15, Tryd.ntmps15
  go_wp2_with (at_make; refine wpList_make_full _ rfl _ _ 28 rfl w.heap.size 3 i0 (.int .i64 0) 1 Tryd.underlying28 hi0 hz0 hz1 .i64 .i64 _ _ N rfl rfl (by simp) (by simp) (by rw [hz2]; omega) (by unfold maxLen; omega) (by simp) ?_)
  intro w3 hown hgrow
  have hval : ValAt w3 w.heap.size N 3 (fun _ => .int .i64 0) := made_rowK (B := w.heap.size) rfl (by simpa [Value.cells] using hown)
  obtain ⟨lb, hlb⟩ : ∃ b, b = w.heap.size := ⟨_, rfl⟩
  have hlb2 : w.heap.size ≤ lb := by omega
  rw [← hlb] at hval
  rw [← hlb]
  have HS0 : Hid (SrAt (w3.alloc (.cells #[.slice ea N ec, .slice none 0 0, .slice none 0 0, .slice (some ⟨lb, 0, none⟩) N N] 57)) w.heap.size w3.heap.size N ea ec lb [] [] (fun _ => 0) none none 0 0) :=
    ⟨heap_alloc_last w3 _, World.ownsRow_nil _ _ _ _, World.ownsRow_nil _ _ _ _, hval.kept (World.grownBy_alloc _ _ none), (fun h => by cases h), hgrow.size, hlb2, Nat.le_trans hgrow.size (World.grownBy_alloc w3 _ none).size⟩
  have HJ0 : Hid (SjAt (w3.alloc (.cells #[.slice ea N ec, .slice none 0 0, .slice none 0 0, .slice (some ⟨lb, 0, none⟩) N N] 57)) w.heap.size w3.heap.size N ea ec lb E [] (fun _ => 0) (fun _ => false)) := ⟨TjP.start, none, none, 0, 0, HS0.out⟩
  have HI0 : Hid (I (w3.alloc (.cells #[.slice ea N ec, .slice none 0 0, .slice none 0 0, .slice (some ⟨lb, 0, none⟩) N N] 57)) (fun _ => false)) := HST.out _ _ _ HI.out (.none_ (grown_trans hgrow (World.grownBy_alloc _ _ none)))
  clear hown hval hlb HI HS0
  obtain ⟨sb, hsb⟩ : ∃ b, b = w3.heap.size := ⟨_, rfl⟩
  rw [← hsb] at HJ0
  go_wp2_with fail
  rw [← hsb]
  clear hsb hgrow
  go_loopg [14] N (fun gk v14 wr => ∃ (i : Nat) (low : Nat → Nat) (C : Nat → Bool), i ≤ N ∧ gk = N - i ∧ v14 = .int .i64 i ∧ SjAt wr w.heap.size sb N ea ec lb E [] low C ∧ I wr C ∧ ∀ x, x < i → low x ≠ 0)
  case atStart => exact ⟨0, _, _, Nat.zero_le _, rfl, rfl, HJ0.out, HI0.out, fun x hx => absurd hx (Nat.not_lt_zero _)⟩
  case round =>
    obtain ⟨i, low, C, hi, hgk, rfl, hJ, hI, hM⟩ := hrel
    have HGK : Hid (gk = N - i) := hgk
    have HJ := show Hid _ from hJ
    have HI := show Hid _ from hI
    have HM : Hid (∀ x, x < i → low x ≠ 0) := hM
    clear hgk hJ hI hM HJ0 HI0
    by_cases hlt : i < N
    · have hid : decide (i < N) = true := decide_eq_true hlt
      have hi0' : (0 : Int) ≤ (i : Int) := by omega
      have hi1' : (i : Int) < (N : Int) := by omega
      obtain ⟨hT, wa, oa, wc, oc, hR⟩ := HJ.out
      obtain ⟨z0, z1, z2, z3⟩ := hR.cells
      have zl := hR.val.cell i hlt
      obtain ⟨li, hli⟩ : ∃ x, x = low i := ⟨_, rfl⟩
      have HLI : Hid (li = low i) := hli
      rw [← hli] at zl
      by_cases h0 : li = 0
      · have hl1 : ((li : Int) == 0) = true := by rw [h0]; rfl
        have hl2 : (li == 0) = true := by rw [h0]; rfl
        have HTN : Hid (TjP N E 9223372036854775807 [⟨i, 0, []⟩] (upd low i 1) C) := hT.enter0 hlt (by rw [← hli]; exact h0)
        have HEN := show Hid _ from enter_any wr w.heap.size sb N ea ec lb [] [] low wa oa wc oc hR i hlt hN (Nat.zero_le _) (Nat.zero_le _)
        clear hT hR hli h0 z0 z1 z2
        go_wp2_with fail
        refine Calls.mono HEN.out ?_
        rintro e y ⟨rfl, hk, wa5, oa5, wc5, oc5, hr⟩
        have HFN := show Hid _ from HFI.out sb lb y [⟨i, 0, []⟩] (upd low i 1) C ⟨HTN.out, wa5, oa5, wc5, oc5, hr⟩ (HST.out _ _ _ HI.out hk)
        clear hk hr HEN
        go_wp2_with fail
        refine Calls.mono HFN.out ?_
        rintro e y6 ⟨rfl, low6, C6, hJ6, hI6, hM6⟩
        have HJ6 := show Hid _ from hJ6
        have HI6 := show Hid _ from hI6
        have HM6 : Hid (∀ x, x < i + 1 → low6 x ≠ 0) := fun x hx => hM6 x (by
          by_cases e : x = i
          · rw [e, upd_same]; exact Nat.one_ne_zero
          · rw [upd_other _ _ e]; exact HM.out x (by omega))
        clear hJ6 hI6 hM6 HFN
        go_wp2_with fail
        go_roundg (N - (i + 1))
        case measure => have := HGK.out; omega
        case rel => exact ⟨i + 1, low6, C6, by omega, rfl, by go_num, HJ6.out, HI6.out, HM6.out⟩
      · have hl1 : ((li : Int) == 0) = false := beq_eq_false_iff_ne.2 (by omega)
        have hl2 : (li == 0) = false := beq_eq_false_iff_ne.2 h0
        have HM6 : Hid (∀ x, x < i + 1 → low x ≠ 0) := fun x hx => by
          by_cases e : x = i
          · rw [e, ← HLI.out]; exact h0
          · exact HM.out x (by omega)
        clear hT hR hli h0 z0 z1 z2
        go_wp2_with fail
        go_roundg (N - (i + 1))
        case measure => have := HGK.out; omega
        case rel => exact ⟨i + 1, low, C, by omega, rfl, by go_num, HJ.out, HI.out, HM6.out⟩
    · have hin : N = i := by omega
      subst hin
      have hid : decide (N < N) = false := decide_eq_false (by omega)
      have HCC : Hid (∀ x, x < N → C x = true) := fun x hx => by
        have h1 := (HJ.out.pure.met x hx).1 (HM.out x hx)
        rcases h1 with h1 | h1
        · simp [opens] at h1
        · exact h1
      go_wp2_with fail
      refine bodyPost_end (v := .tuple #[]) (by simp [results, Tryd.results15]) rfl ?_
      exact ⟨rfl, C, HI.out, HCC.out⟩

end Go.Proofs.YtjijagnpcmonbaaDoor.J

/-
  digraph: what Components does with each component.
-/
namespace Go.Proofs.YtjijagnpcmonbaaDoor.J
open Go.RowKit Go.Maps Go.Shelf D

attribute [local go_sem] Oper.semAt_some

/-- The least nodes, in memory. -/
structure CiAt (w X : World) (N : Nat) (E : Nat → List Nat) (pb lm : Nat) (C : Nat → Bool) (ls : Nat → Nat) : Prop where
  grown : w.grownBy X none
  box : X.heap[pb]? = some (.cells #[.slice (some ⟨lm, 0, none⟩) N N] 28 (0, 0))
  val : ValAt X lm N 3 (fun i => .int .i64 (ls i : Int))
  lo : w.heap.size ≤ lm ∧ w.heap.size ≤ pb
  cl : ClosedC E C
  lst : ∀ x, x < N → C x = true → IsLeast N E x (ls x)
theorem CiAt.skept {w X Y : World} {N : Nat} {E : Nat → List Nat} {pb lm B : Nat} {C : Nat → Bool} {ls : Nat → Nat} (h : CiAt w X N E pb lm C ls) (hB : lm < B ∧ pb < B ∧ w.heap.size ≤ B) (hk : SKeep B X Y) : CiAt w Y N E pb lm C ls :=
  ⟨hk.grown h.grown hB.2.2, (hk.block pb (Array.getElem?_eq_some_iff.1 h.box).1 (.inl hB.2.1)).trans h.box, (hk.block lm h.val.lt (.inl hB.1)).trans h.val, h.lo, h.cl, h.lst⟩

/-- The least nodes, once the first k of c have one. -/
def lsK (ls : Nat → Nat) (l : Nat) (c : List Nat) (k : Nat) : Nat → Nat := fun x => if x ∈ c.take k then l else ls x

set_option maxRecDepth 100000 in
set_option maxHeartbeats 2000000 in
theorem compF_any (w X : World) (N : Nat) (E : Nat → List Nat) (pb lm B : Nat) (C : Nat → Bool) (ls : Nat → Nat) (h : CiAt w X N E pb lm C ls) (hB : lm < B) (hN : N ≤ 5864062014805) (c : List Nat) (hc : CompP N E C c) (a : Option Addr) (cap : Nat) (hI : IntsAt X a (intL c)) (hne : ∀ rb ro, a = some ⟨rb, ro, none⟩ → rb ≠ lm) :
    Calls Tryd.prog 16 #[.slice a c.length cap, .pointer (some ⟨pb, 0, none⟩)] X fun e y => e = .returned (.tuple #[]) ∧ (∃ ls', CiAt w y N E pb lm (addC C c) ls') ∧ HKeep B X y := by
  have hcl : c.length ≤ N := nodup_len N c hc.nd fun x hx => (hc.lt x hx).1
  obtain ⟨n, hn⟩ : ∃ n, c.length = n + 1 := ⟨c.length - 1, by
    have : c.length ≠ 0 := fun e => hc.ne (List.eq_nil_of_length_eq_zero e)
    omega⟩
  have hIl : n + 1 = (intL c).length := by rw [intL_length, hn]
  obtain ⟨hm1, hm2⟩ := minL_spec (intL c) n (by omega)
  obtain ⟨l, hl1, hl2⟩ : ∃ l ∈ c, (l : Int) = minL (intL c) n := by
    unfold intL at hm1 ⊢
    obtain ⟨l, h1, h2⟩ := List.mem_map.1 hm1
    exact ⟨l, h1, h2⟩
  have hlm : ∀ y ∈ c, l ≤ y := fun y hy => by
    obtain ⟨i, hi, e⟩ := List.getElem_of_mem hy
    have h3 := hm2 i (by omega)
    rw [intL_at, List.getD_eq_getElem?_getD, List.getElem?_eq_getElem hi, e] at h3
    have h4 : minL (intL c) n ≤ (y : Int) := h3
    omega
  have HMN := show Hid _ from min_any a cap n (intL c) X hI hIl (by omega)
  rw [← hl2] at HMN
  have HL : Hid (∀ x ∈ c, IsLeast N E x l) := fun x hx => hc.least h.cl hx hl1 hlm
  have HC := show Hid _ from hc
  have HCI := show Hid _ from h
  obtain ⟨rb, ro, rfl, hcell⟩ : ∃ rb ro, a = some ⟨rb, ro, none⟩ ∧ ∀ i, i < c.length → X.cell? ⟨rb, ro + i, none⟩ = some (.int .i64 ((c.getD i 0 : Nat) : Int)) := by
    rcases hI with h1 | ⟨rb, ro, e, h1⟩
    · rw [h1] at hIl; simp at hIl
    · exact ⟨rb, ro, e, fun i hi => by rw [← intL_at]; exact h1 i (by rw [intL_length]; exact hi)⟩
  have hrl : rb ≠ lm := hne rb ro rfl
  have HCE := show Hid _ from hcell
  have HCN : Hid (c.length = n + 1) := hn
  have b0 : X.cell? ⟨pb, 0, none⟩ = some (.slice (some ⟨lm, 0, none⟩) N N) := by rw [cell_of_row _ _ _ _ _ _ h.box]; rfl
  rw [hn]
  have hnb : n + 1 ≤ 5864062014805 := by omega
  clear h hc hI hne hIl hm1 hm2 hl1 hl2 hlm hcell hn
  go_enter Tryd.func16, Tryd.ntmps16
  go_wp2_with fail
  refine Calls.mono HMN.out ?_
  rintro e X1 ⟨rfl, hX1⟩
  subst hX1
  go_wp2_with fail
  go_loopg [10] (n + 1) (fun gk v10 wr => ∃ (k : Nat), k ≤ n + 1 ∧ gk = n + 1 - k ∧ v10 = .int .i64 k ∧ X1.grownBy wr (some lm) ∧ ValAt wr lm N 3 (fun i => .int .i64 (lsK ls l c k i : Int)))
  case atStart => exact ⟨0, Nat.zero_le _, rfl, rfl, grown_refl _ _, HCI.out.val.ext fun i _ => by unfold lsK; simp⟩
  case round =>
    obtain ⟨k, hk, hgk, rfl, hg, hv⟩ := hrel
    have HGK : Hid (gk = n + 1 - k) := hgk
    have HG := show Hid _ from hg
    have HV : Hid (ValAt wr lm N 3 (fun i => .int .i64 (lsK ls l c k i : Int))) := hv
    have hpl : pb ≠ lm := ne_type HCI.out.box HCI.out.val (by decide)
    replace b0 : wr.cell? ⟨pb, 0, none⟩ = some (.slice (some ⟨lm, 0, none⟩) N N) := hg.cell b0 (by simpa using hpl)
    clear hgk hg hv
    by_cases hlt : k < n + 1
    · have hkd : decide (k < n + 1) = true := decide_eq_true hlt
      have hkd2 : decide ((k : Int) < (n : Int) + 1) = true := decide_eq_true (by omega)
      have hk0 : (0 : Int) ≤ (k : Int) := by omega
      have hk1 : (k : Int) < (n : Int) + 1 := by omega
      have hkc : k < c.length := by rw [HCN.out]; exact hlt
      have c0 := HG.out.cell (HCE.out k hkc) (by simpa using hrl)
      have hxc : c.getD k 0 ∈ c := by rw [List.getD_eq_getElem?_getD, List.getElem?_eq_getElem hkc]; exact List.getElem_mem hkc
      have hxN := (HC.out.lt _ hxc).1
      obtain ⟨x, hx⟩ : ∃ x, x = c.getD k 0 := ⟨_, rfl⟩
      rw [← hx] at c0 hxN
      have hx0 : (0 : Int) ≤ (x : Int) := by omega
      have hx1 : (x : Int) < (N : Int) := by omega
      have zl := HV.out.cell x hxN
      have zf := HV.out.free x
      obtain ⟨lv, hlv⟩ : ∃ y, y = lsK ls l c k x := ⟨_, rfl⟩
      rw [← hlv] at zl
      have HV2 : Hid (ValAt (wr.setCell ⟨lm, x, none⟩ (.int .i64 (l : Int))) lm N 3 (fun i => .int .i64 (lsK ls l c (k + 1) i : Int))) := (HV.out.set x (.int .i64 (l : Int))).ext fun i _ => by
        unfold put lsK
        rw [List.take_succ_eq_append_getElem hkc]
        have e1 : c[k] = x := by rw [hx, List.getD_eq_getElem?_getD, List.getElem?_eq_getElem hkc]; rfl
        rw [e1]
        by_cases e : i = x
        · rw [if_pos e, if_pos (List.mem_append_right _ (List.mem_singleton.2 e))]
        · rw [if_neg e]
          show Value.int IntKind.i64 (((if i ∈ c.take k then l else ls i) : Nat) : Int) = _
          by_cases e2 : i ∈ c.take k
          · rw [if_pos e2, if_pos (List.mem_append_left _ e2)]
          · rw [if_neg e2, if_neg]
            intro h3
            rcases List.mem_append.1 h3 with h3 | h3
            · exact e2 h3
            · exact e (List.mem_singleton.1 h3)
      have HG2 : Hid (X1.grownBy (wr.setCell ⟨lm, x, none⟩ (.int .i64 (l : Int))) (some lm)) := grown_trans HG.out (grown_setCell _ _ _)
      clear hx hlv hxc hkc hpl
      go_wp2_with fail
      go_roundg (n + 1 - (k + 1))
      case measure => have := HGK.out; omega
      case rel => exact ⟨k + 1, by omega, rfl, by go_num, HG2.out, HV2.out⟩
    · have hkn : k = n + 1 := by omega
      subst hkn
      have hkd : decide (n + 1 < n + 1) = false := decide_eq_false (by omega)
      have hkd2 : decide ((n : Int) + 1 < (n : Int) + 1) = false := decide_eq_false (by omega)
      have HF : Hid (CiAt w wr N E pb lm (addC C c) (lsK ls l c (n + 1))) := by
        refine ⟨grown_new HCI.out.grown HG.out HCI.out.lo.1, (HG.out.block pb (Array.getElem?_eq_some_iff.1 HCI.out.box).1 (by simpa using hpl)).trans HCI.out.box, HV.out, HCI.out.lo, HCI.out.cl.add HC.out, fun x hx hC => ?_⟩
        unfold lsK
        rw [← HCN.out, List.take_length]
        by_cases e : x ∈ c
        · rw [if_pos e]; exact HL.out x e
        · rw [if_neg e]
          rcases (addC_iff _ _ _).1 hC with h1 | h1
          · exact HCI.out.lst x hx h1
          · exact absurd h1 e
      have HK : Hid (HKeep B X1 wr) := ⟨HG.out.size, fun k cs t h1 h2 => (HG.out.block k (Array.getElem?_eq_some_iff.1 h1).1 (by
        intro e
        have e2 : k = lm := by simpa using e
        subst e2
        have h3 := HCI.out.val
        unfold ValAt at h3
        rw [h3] at h1
        simp only [Option.some.injEq, Obj.cells.injEq] at h1
        rcases h2 with h2 | h2 | h2
        · exact absurd (h1.2.1.trans h2) (by decide)
        · exact absurd (h1.2.1.trans h2) (by decide)
        · omega)).trans h1⟩
      clear hpl
      go_wp2_with fail
      refine bodyPost_end (v := .tuple #[]) (by simp [results, Tryd.results16]) rfl ?_
      exact ⟨rfl, ⟨_, HF.out⟩, HK.out⟩

end Go.Proofs.YtjijagnpcmonbaaDoor.J
