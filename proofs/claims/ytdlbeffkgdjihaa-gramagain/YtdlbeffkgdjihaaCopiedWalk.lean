/-
  copiedProds, walked: the same productions in new memory, no two right sides in one row.
-/
import Derived.Test.YtdlbeffkgdjihaaCopied
namespace Go.Proofs.Ytdlbeffkgdjihaa
open Go.RowKit Go.Maps Go.Shelf

/-- Productions in memory of their own: the first m of n right sides are new; no two of these lie in one row. -/
structure NewProds (w wr : World) (B : Nat) (v : Value) (n m : Nat) (L : Nat → Int) (R : Nat → List Int) (V : Nat → Int) (rg : Nat → Value) : Prop where
  row : wr.ownsRow B 52 3 v n (prodRow n L rg V)
  rights : ∀ i, i < m → wr.ownsRow B 3 1 (rg i) (R i).length ((R i).map (Value.int .i64))
  apart : ∀ i, i < m → ∀ g, (rg i).ownBlock = some g → v.ownBlock ≠ some g
  disj : ∀ i j, i < j → j < m → ∀ g, (rg i).ownBlock = some g → (rg j).ownBlock ≠ some g
  lo : w.heap.size ≤ B
  grown : w.grownBy wr none

theorem NewProds.kept {w wr wx : World} {B n m : Nat} {v : Value} {L : Nat → Int} {R : Nat → List Int} {V : Nat → Int} {rg : Nat → Value} (h : NewProds w wr B v n m L R V rg) (hg : wr.grownBy wx none) : NewProds w wx B v n m L R V rg :=
  ⟨h.row.kept hg (by cases hv : v.ownBlock <;> simp), fun i hi => (h.rights i hi).kept hg (by cases hv : (rg i).ownBlock <;> simp), h.apart, h.disj, h.lo, grown_trans h.grown hg⟩

theorem NewProds.push {w wr w1 : World} {B g n m c c' : Nat} {a' : Option Addr} {L : Nat → Int} {R : Nat → List Int} {V : Nat → Int} {rg : Nat → Value} (h : NewProds w wr B (.slice (some ⟨g, 0, none⟩) n c) n m L R V rg) (hm : m < n)
    (hown : w1.ownsRow wr.heap.size 3 1 (.slice a' (R m).length c') (R m).length ((R m).map (Value.int .i64))) (hg : wr.grownBy w1 none) :
    NewProds w (w1.setCell ⟨g, m * 3 + 1, none⟩ (.slice a' (R m).length c')) B (.slice (some ⟨g, 0, none⟩) n c) n (m + 1) L R V (updV rg m (.slice a' (R m).length c')) := by
  have h1 := h.kept hg
  have hgB := h.row.lt g rfl
  have hst := grown_setCell (w := w1) g (m * 3 + 1) (.slice a' (R m).length c')
  have hnew : ∀ x, (Value.slice a' (R m).length c').ownBlock = some x → wr.heap.size ≤ x := fun x hx => (hown.lt x hx).1
  have hlo := h.lo
  have hsz := h.grown.size
  have es : updV rg m (.slice a' (R m).length c') m = .slice a' (R m).length c' := by simp [updV]
  have eo : ∀ i, i < m → updV rg m (.slice a' (R m).length c') i = rg i := fun i hi => by simp [updV, show i ≠ m by omega]
  refine ⟨?_, fun i hi => ?_, fun i hi x hx => ?_, fun i j hij hj x hx => ?_, h.lo, grown_new h1.grown hst (Nat.le_trans hlo hgB.1)⟩
  · rw [← prodRow_setR L rg V m _ n hm]
    exact owns_set h1.row _
  · by_cases e : i = m
    · subst e
      rw [es]
      have h2 : w1.ownsRow B 3 1 (.slice a' (R i).length c') (R i).length ((R i).map (Value.int .i64)) := by
        refine ⟨hown.1, ?_⟩
        rcases hown.2 with h' | ⟨x, cap, cur, hv, hb, rest⟩
        · exact .inl h'
        · have hBle : B ≤ wr.heap.size := by
            rcases h.row.2 with ⟨h', _⟩ | ⟨x', _, _, hv', hb', hh', _⟩
            · cases h'
            · have := (Array.getElem?_eq_some_iff.1 hh').1; omega
          exact .inr ⟨x, cap, cur, hv, by omega, rest⟩
      refine h2.kept hst ?_
      cases hx : (Value.slice a' (R i).length c').ownBlock with
      | none => exact .inl rfl
      | some x => have := hnew x hx; exact .inr (by simp; omega)
    · rw [eo i (by omega)]
      refine (h1.rights i (by omega)).kept hst ?_
      cases hx : (rg i).ownBlock with
      | none => exact .inl rfl
      | some x => have := h.apart i (by omega) x hx; simp [Value.ownBlock] at this; exact .inr (by simp; omega)
  · by_cases e : i = m
    · subst e
      rw [es] at hx
      have := hnew x hx
      simp [Value.ownBlock]
      omega
    · rw [eo i (by omega)] at hx
      exact h.apart i (by omega) x hx
  · by_cases e : j = m
    · subst e
      rw [eo i hij] at hx
      rw [es]
      intro hh
      have h3 := hnew x hh
      have h4 := ((h.rights i hij).lt x hx).2
      omega
    · rw [eo i (by omega)] at hx
      rw [eo j (by omega)]
      exact h.disj i j hij (by omega) x hx

set_option maxRecDepth 100000 in
set_option maxHeartbeats 4000000 in
theorem copiedProds_some (b off n cap : Nat) (L : Nat → Int) (R : Nat → List Int) (ra : Nat → Option Addr) (rc : Nat → Nat) (V : Nat → Int) (w : World) (hP : ProdsAt w (some ⟨b, off, none⟩) n L R ra rc V) (h0 : 0 < n) (hb : n * 40 ≤ 140737488355328) :
    Calls Try.prog 39 #[.slice (some ⟨b, off, none⟩) n cap] w fun e w' => ∃ g c rg, e = .returned (.slice (some ⟨g, 0, none⟩) n c) ∧ NewProds w w' w.heap.size (.slice (some ⟨g, 0, none⟩) n c) n n L R V rg := by
  obtain ⟨b', off', hbe, hk⟩ : ∃ b' off', some (⟨b, off, none⟩ : Addr) = some ⟨b', off', none⟩ ∧ ∀ k, k < n → w.cell? ⟨b', off' + k * 3, none⟩ = some (.int .i64 (L k)) ∧ w.cell? ⟨b', off' + k * 3 + 1, none⟩ = some (.slice (ra k) (R k).length (rc k)) ∧ w.cell? ⟨b', off' + k * 3 + 2, none⟩ = some (.int .i64 (V k)) ∧ IntsAt w (ra k) (R k) ∧ (ra k = none → rc k = 0) ∧ (R k).length ≤ 17592186044416 := by
    rcases hP with h | h
    · omega
    · exact h
  simp only [Option.some.injEq, Addr.mk.injEq, and_true] at hbe
  obtain ⟨rfl, rfl⟩ := hbe
  have hcp := copiedProd_any (some ⟨b, off, none⟩) n cap (prodRow n L (fun k => .slice (ra k) (R k).length (rc k)) V) w (prodRow_length _ _ _ _) (fun h => by cases h) (fun x hx j u hu => by
    simp only [Option.some.injEq] at hx
    subst hx
    have hj : j < n * 3 := by have := (List.getElem?_eq_some_iff.1 hu).1; rwa [prodRow_length] at this
    have e : j = (j / 3) * 3 + j % 3 := by omega
    rw [e, prodRow_at L _ V n (j / 3) (by omega) (j % 3) (by omega)] at hu
    obtain ⟨h1, h2, h3, _⟩ := hk (j / 3) (by omega)
    rw [Addr.add_mid, e]
    have hr : j % 3 = 0 ∨ j % 3 = 1 ∨ j % 3 = 2 := by omega
    rcases hr with hr | hr | hr <;> rw [hr] at hu ⊢ <;> simp at hu <;> rw [← hu]
    · exact h1
    · exact h2
    · exact h3) (prodRow_oneCell n L ra (fun k => (R k).length) rc V) hb
  have HK : Hid (∀ k, k < n → IntsAt w (ra k) (R k) ∧ (ra k = none → rc k = 0) ∧ (R k).length ≤ 17592186044416) := fun k h => (hk k h).2.2.2
  clear hP hk
  go_enter Try.func39, Try.ntmps39
  go_wp2_with fail
  refine hcp.mono ?_
  clear hcp
  rintro e w1 ⟨a', c', rfl, hown, hg⟩
  obtain ⟨g, rfl⟩ : ∃ g, a' = some ⟨g, 0, none⟩ := by
    rcases hown.2 with ⟨_, h⟩ | ⟨g, _, _, hv, _⟩
    · omega
    · simp at hv; exact ⟨g, hv.1⟩
  have HN1 : Hid (NewProds w w1 w.heap.size (.slice (some ⟨g, 0, none⟩) n c') n 0 L R V (fun k => .slice (ra k) (R k).length (rc k))) := ⟨hown, fun i hi => absurd hi (Nat.not_lt_zero _), fun i hi => absurd hi (Nat.not_lt_zero _), fun i j _ hj => absurd hj (Nat.not_lt_zero _), Nat.le_refl _, hg⟩
  clear hown hg
  go_wp2_with fail
  go_loopw [8] (fun i wr => ∃ k : Nat, k ≤ n ∧ i = .int .i64 k ∧ ∃ rg, (∀ j, k ≤ j → rg j = .slice (ra j) (R j).length (rc j)) ∧ NewProds w wr w.heap.size (.slice (some ⟨g, 0, none⟩) n c') n k L R V rg) (fun i _ => n - (intOf i).toNat)
  case atStart => exact ⟨0, Nat.zero_le _, rfl, _, fun _ _ => rfl, HN1.out⟩
  case round =>
    obtain ⟨k, hk, rfl, rg, hrest, hNP⟩ := hrel
    have HNP : Hid (NewProds w wr w.heap.size (.slice (some ⟨g, 0, none⟩) n c') n k L R V rg) := hNP
    have HRE : Hid (∀ j, k ≤ j → rg j = .slice (ra j) (R j).length (rc j)) := hrest
    clear hNP hrest HN1
    by_cases hlt : k < n
    · have hck : wr.cell? ⟨g, k * 3 + 1, none⟩ = some (.slice (ra k) (R k).length (rc k)) := by
        refine owns_cell HNP.out.row ?_
        rw [prodRow_at L rg V n k hlt 1 (by omega), HRE.out k (Nat.le_refl _)]
        rfl
      obtain ⟨hI, hrn, hrl⟩ := HK.out k hlt
      have HCI : Hid (Calls Try.prog 38 #[.slice (ra k) (R k).length (rc k)] wr fun e w' => ∃ a' c', e = .returned (.slice a' (R k).length c') ∧ w'.ownsRow wr.heap.size 3 1 (.slice a' (R k).length c') (R k).length ((R k).map (Value.int .i64)) ∧ wr.grownBy w' none) := copiedInt_new (ra k) (rc k) (R k) wr (hI.kept HNP.out.grown) hrn hrl
      clear hI hrn
      go_wp2_with fail
      refine HCI.out.mono ?_
      clear HCI
      rintro e w2 ⟨a2, c2, rfl, hown2, hg2⟩
      have hN2 := HNP.out.kept hg2
      have hfz := owns_free hN2.row (k * 3 + 1)
      have hc2 : w2.cell? ⟨g, k * 3 + 1, none⟩ = some (.slice (ra k) (R k).length (rc k)) := hg2.cell hck (by simp)
      have HFIN : Hid (NewProds w (w2.setCell ⟨g, k * 3 + 1, none⟩ (.slice a2 (R k).length c2)) w.heap.size (.slice (some ⟨g, 0, none⟩) n c') n (k + 1) L R V (updV rg k (.slice a2 (R k).length c2))) := HNP.out.push hlt hown2 hg2
      clear hN2 hown2 hg2 hck
      go_wp2_with fail
      go_roundw
      case rel => exact ⟨k + 1, by omega, by go_num, _, fun j hj => by simp [updV, show j ≠ k by omega, HRE.out j (by omega)], HFIN.out⟩
      case measure => simp [intOf]; omega
    · obtain rfl : k = n := by omega
      go_wp2_with fail
      go_ret
      exact ⟨g, c', rg, rfl, HNP.out⟩

end Go.Proofs.Ytdlbeffkgdjihaa
