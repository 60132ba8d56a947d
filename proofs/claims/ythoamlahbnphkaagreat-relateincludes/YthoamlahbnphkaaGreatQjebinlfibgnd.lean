import Derived.Test.YthoamlahbnphkaaGreatQdoliolgblefd
import Derived.Test.YthoamlahbnphkaaGreatQbhbflfocdjab

/-
  lr0: states in memory; the document's place.
-/
namespace Go.Proofs.YthoamlahbnphkaaGreat.J
open Go.RowKit Go.Maps Go.Shelf

attribute [local go_sem] Oper.semAt_some

/-- The kernels of states in memory: ka and kc say where they lie and what room they have. -/
def KersAt (X : World) (a : Option Addr) (ks : List (List It)) (ka : Nat → Option Addr) (kc : Nat → Nat) : Prop := ks = [] ∨ ∃ b off, a = some ⟨b, off, none⟩ ∧ ∀ i, i < ks.length → X.cell? ⟨b, off + i * 2, none⟩ = some (.slice (ka i) (ks.getD i []).length (kc i)) ∧ ItsAt X (ka i) (ks.getD i [])
theorem KersAt.kept {X Y : World} {a : Option Addr} {ks : List (List It)} {ka : Nat → Option Addr} {kc : Nat → Nat} (h : KersAt X a ks ka kc) (hg : X.grownBy Y none) : KersAt Y a ks ka kc := by
  rcases h with h | ⟨b, off, e, h⟩
  · exact .inl h
  · exact .inr ⟨b, off, e, fun i hi => ⟨hg.cell (h i hi).1 (by simp), (h i hi).2.kept hg⟩⟩
theorem KersAt.at {X : World} {a : Option Addr} {ks : List (List It)} {ka : Nat → Option Addr} {kc : Nat → Nat} (h : KersAt X a ks ka kc) {i : Nat} (hi : i < ks.length) : ∃ b off, a = some ⟨b, off, none⟩ ∧ X.cell? ⟨b, off + i * 2, none⟩ = some (.slice (ka i) (ks.getD i []).length (kc i)) ∧ ItsAt X (ka i) (ks.getD i []) := by
  rcases h with h | ⟨b, off, e, h⟩
  · rw [h] at hi; cases hi
  · exact ⟨b, off, e, h i hi⟩

/-- The place of a kernel, -1: there is none. -/
def placeV (ks : List (List It)) (k : List It) : Int := if k ∈ ks then (ks.idxOf k : Int) else -1
end Go.Proofs.YthoamlahbnphkaaGreat.J

/-
  lr0: slices.Equal of items.
-/
namespace Go.Proofs.YthoamlahbnphkaaGreat.J
open Go.RowKit Go.Maps Go.Shelf

attribute [local go_sem] Oper.semAt_some

set_option maxRecDepth 100000 in
theorem equalItems_any (a1 a2 : Option Addr) (c1 c2 : Nat) (l m : List It) (w : World) (h1 : ItsAt w a1 l) (h2 : ItsAt w a2 m) (hb : l.length ≤ 1099511627776000) (hb2 : m.length ≤ 1099511627776000) (r : Bool) (hr : r = true ↔ l = m) :
    Calls Tryz.prog 112 #[.slice a1 l.length c1, .slice a2 m.length c2] w fun e y => e = .returned (.bool r) ∧ w.grownBy y none := by
  obtain ⟨n1, hn1⟩ : ∃ n, n = l.length := ⟨_, rfl⟩
  obtain ⟨n2, hn2⟩ : ∃ n, n = m.length := ⟨_, rfl⟩
  have HR : Hid (r = true ↔ l = m) := hr
  have HN : Hid (n1 = l.length ∧ n2 = m.length) := ⟨hn1, hn2⟩
  have HI : Hid (∀ X, w.grownBy X none → ItsAt X a1 l ∧ ItsAt X a2 m) := fun X hX => ⟨h1.kept hX, h2.kept hX⟩
  rw [← hn1] at hb
  rw [← hn2] at hb2
  rw [← hn1, ← hn2]
  have hgu := guard_item
  clear hr hn1 hn2 h1 h2
  by_cases hne : n1 = n2
  · subst hne
    have hd : ((n1 : Int) != (n1 : Int)) = false := bne_self_eq_false _
    go_enter Tryz.func112, Tryz.ntmps112
    go_wp2_with fail
    go_loopg [13] n1 (fun gk v13 wr => ∃ j : Nat, j ≤ n1 ∧ gk = n1 - j ∧ v13 = .int .i64 j ∧ w.grownBy wr none ∧ ∀ i, i < j → l.getD i (0, 0) = m.getD i (0, 0))
    case atStart => exact ⟨0, Nat.zero_le _, rfl, rfl, grown_refl _ _, fun i hi => absurd hi (Nat.not_lt_zero _)⟩
    case round =>
      obtain ⟨j, hj, hgj, rfl, hg, hs⟩ := hrel
      have HGJ : Hid (gk = n1 - j) := hgj
      have HG : Hid (w.grownBy wr none) := hg
      have HS : Hid (∀ i, i < j → l.getD i (0, 0) = m.getD i (0, 0)) := hs
      clear hgj hg hs
      by_cases hlt : j < n1
      · have hj0 : (0 : Int) ≤ (j : Int) := by omega
        have hj1 : (j : Int) < (n1 : Int) := by omega
        have hjd : decide (j < n1) = true := decide_eq_true hlt
        obtain ⟨b1, o1, rfl, c0, c1'⟩ := (HI.out wr HG.out).1.at (i := j) (by rw [← HN.out.1]; exact hlt)
        obtain ⟨b2, o2, rfl, d0, d1⟩ := (HI.out wr HG.out).2.at (i := j) (by rw [← HN.out.2]; exact hlt)
        obtain ⟨x, hx⟩ : ∃ x, x = l.getD j (0, 0) := ⟨_, rfl⟩
        obtain ⟨y, hy⟩ : ∃ y, y = m.getD j (0, 0) := ⟨_, rfl⟩
        have HXY : Hid (x = l.getD j (0, 0) ∧ y = m.getD j (0, 0)) := ⟨hx, hy⟩
        rw [← hx] at c0 c1'
        rw [← hy] at d0 d1
        clear hx hy
        obtain ⟨xp, xd⟩ := x
        obtain ⟨yp, yd⟩ := y
        simp only at c0 c1' d0 d1
        obtain ⟨bb, hbb⟩ : ∃ b, b = (xp == yp && xd == yd) := ⟨_, rfl⟩
        have HBB : Hid (bb = true ↔ l.getD j (0, 0) = m.getD j (0, 0)) := by
          rw [← HXY.out.1, ← HXY.out.2, hbb, Bool.and_eq_true, beq_iff_eq, beq_iff_eq]
          exact ⟨fun h => Prod.ext h.1 h.2, fun h => ⟨congrArg Prod.fst h, congrArg Prod.snd h⟩⟩
        have hE : ∀ X : World, (binOp .neq 69 (.agg #[.int .i64 xp, .int .i64 xd]) (.agg #[.int .i64 yp, .int .i64 yd])).run Tryz.prog X = .ok (.bool (!bb)) X := fun X => by rw [hbb]; exact neq_item xp xd yp yd X
        clear hbb
        cases bb with
        | true =>
          have HEQ : Hid (l.getD j (0, 0) = m.getD j (0, 0)) := HBB.out.1 rfl
          clear HBB
          go_wp2_with fail
          go_quiet (fail)
          go_wp2_with fail
          go_roundg (n1 - (j + 1))
          case measure => have := HGJ.out; omega
          case rel => exact ⟨j + 1, by omega, rfl, by go_num, grown_trans HG.out (grown_drewN _ _), fun i hi => by
            by_cases e : i = j
            · rw [e]; exact HEQ.out
            · exact HS.out i (by omega)⟩
        | false =>
          have HRF : Hid (r = false) := by
            show _ = _
            cases hrr : r with
            | false => rfl
            | true =>
              have := HR.out.1 hrr
              rw [this] at HBB
              exact absurd (HBB.out.2 rfl) (by decide)
          go_wp2_with fail
          go_quiet (fail)
          go_wp2_with fail
          go_ret
          exact ⟨by rw [HRF.out]; rfl, grown_trans HG.out (grown_drewN _ _)⟩
      · have hjn : n1 = j := by omega
        subst hjn
        have hjd : decide (n1 < n1) = false := decide_eq_false (by omega)
        have HRT : Hid (r = true) := HR.out.2 (by
          apply List.ext_getElem (by rw [← HN.out.1, ← HN.out.2])
          intro i q1 q2
          have h3 := HS.out i (by rw [HN.out.1]; exact q1)
          rwa [List.getD_eq_getElem?_getD, List.getD_eq_getElem?_getD, List.getElem?_eq_getElem q1, List.getElem?_eq_getElem q2] at h3)
        go_wp2_with fail
        go_ret
        exact ⟨by rw [HRT.out]; rfl, HG.out⟩
  · have hd : ((n1 : Int) != (n2 : Int)) = true := bne_iff_ne.2 (by omega)
    have HRF : Hid (r = false) := by
      show _ = _
      cases hrr : r with
      | false => rfl
      | true =>
        have h3 := HR.out.1 hrr
        exact absurd (by rw [HN.out.1, HN.out.2, h3]) hne
    go_enter Tryz.func112, Tryz.ntmps112
    go_wp2_with fail
    go_ret
    exact ⟨by rw [HRF.out]; rfl, grown_refl _ _⟩

end Go.Proofs.YthoamlahbnphkaaGreat.J
