/-
  The document's own sets: Members; two lists compared; which of n things a raw number speaks of.
-/
import Derived.Test.YtkmocjdjdlpphaaDoorRefAdd
namespace Go.Proofs.YtkmocjdjdlpphaaDoor
open Go.RowKit

/-- Behind an append to a list of the call's own. -/
theorem below_append {B : Nat} {w wr w1 : World} {e size n : Nat} {v : Value} {xs : List Value} {o : Obj} (hb : Below B w wr) (hown : wr.ownsRow B e size v n xs) (hgrow : (wr.alloc o).grownBy w1 v.ownBlock) (hB : B ≤ wr.heap.size := by omega) : Below B w w1 :=
  (hb.alloc hB _).grown hgrow (by simp; omega) (fun j ej => by
    rcases hown.2 with ⟨rfl, _⟩ | ⟨g, cap, cur, rfl, hg, _⟩
    · simp [Value.ownBlock] at ej
    · have : g = j := by simpa [Value.ownBlock] using ej
      omega)

set_option maxHeartbeats 1000000 in
theorem rmembers_core (br bi n m : Nat) (M : Nat → List Int) (w : World) (h : RefAt w br bi n m) (hM0 : M 0 = []) (hMs : Hid (∀ k, M (k + 1) = M k ++ (if m.testBit k then [(k : Int)] else []))) (hMl : Hid (∀ k, (M k).length ≤ k)) :
    Calls Tryd.prog 12 #[.pointer (some ⟨br, 0, none⟩)] w fun e w' => ∃ v, e = .returned v ∧ w'.ownsRow w.heap.size 3 1 v (M n).length ((M n).map (Value.int .i64)) ∧ Below w.heap.size w w' := by
  obtain ⟨i0, hi, hz0, hz1, hz2⟩ := info_parts info3
  have HR : Hid (RefAt w br bi n m) := h
  have hn := h.le
  clear h
  go_enter Tryd.func12, Tryd.ntmps12
  go_wp2
  go_loopw [3, 4] (fun v i wr => ∃ k : Nat, k ≤ n ∧ i = .int .i64 k ∧ wr.ownsRow w.heap.size 3 1 v (M k).length ((M k).map (Value.int .i64)) ∧ Below w.heap.size w wr) (fun _ i _ => n - (intOf i).toNat)
  case atStart => exact ⟨0, Nat.zero_le _, rfl, by rw [hM0]; exact World.ownsRow_nil _ _ _ _, Below.refl _ _⟩
  case round =>
    obtain ⟨k, hk, rfl, hown, hbel⟩ := hrel
    have hRw := HR.out.keep hbel
    have hh := hRw.hcell
    have hml := hMl.out k
    have hbs := hbel.size
    clear hM0
    by_cases hlt : k < n
    · have hc := hRw.cell k hlt
      have HS : Hid (M (k + 1) = M k ++ (if m.testBit k then [(k : Int)] else [])) := hMs.out k
      have HBEL : Hid (Below w.heap.size w wr) := hbel
      clear hRw hbel
      cases hb : m.testBit k with
      | true =>
        rw [hb] at hc HS
        clear hb
        generalize M k = Mk at *
        go_wp2_with (at_builtin; refine wpList_append_own _ rfl _ _ 29 rfl w.heap.size 3 i0 (.int .i64 0) 1 8 Tryd.underlying29 hi hz0 hz1 hz2 rfl (by decide) _ _ _ rfl (hown.alloc _) ⟨wr.heap.size, 0, none⟩ 1 1 [.int .i64 (k : Int)] rfl rfl (cell_one_new _ _ _) (by simp [Value.oneCell']) (by unfold maxLen; omega) (by omega) (by simp; omega) ?_; intro v' w1 hown' hgrow _)
        go_roundw
        case rel =>
          refine ⟨k + 1, by omega, by go_num, ?_, ?_⟩
          · rw [HS.out]; simpa using hown'
          · exact below_append HBEL.out hown hgrow
        case measure => simp [intOf]; omega
      | false =>
        rw [hb] at hc HS
        clear hb
        go_wp2
        go_roundw
        case rel => exact ⟨k + 1, by omega, by go_num, by rw [HS.out]; simpa using hown, HBEL.out⟩
        case measure => simp [intOf]; omega
    · have : k = n := by omega
      subst this
      go_wp2
      go_ret
      exact ⟨_, rfl, hown, hbel⟩

theorem rmembers_any (br bi n m : Nat) (w : World) (h : RefAt w br bi n m) :
    Calls Tryd.prog 12 #[.pointer (some ⟨br, 0, none⟩)] w fun e w' => ∃ v, e = .returned v ∧ w'.ownsRow w.heap.size 3 1 v (mems 1024 m).length ((mems 1024 m).map (Value.int .i64)) ∧ Below w.heap.size w w' := by
  have := rmembers_core br bi n m (fun k => mems k m) w h rfl (fun k => mems_succ k m) (fun k => by rw [mems_length]; exact pc_le k m)
  rw [← mems_full h.le h.lt]
  exact this

/-- Two lists of numbers compared. -/
theorem ints_ne (a b : Option Addr) (la lb ca cb : Nat) (w : World) (h : la ≠ lb) :
    Calls Tryd.prog 20 #[.slice a la ca, .slice b lb cb] w fun e w' => e = .returned (.bool false) ∧ ∃ k, w' = w.drewN k := by
  have hb : ((la : Int) != (lb : Int)) = true := by rw [bne_iff_ne]; omega
  go_enter Tryd.func20, Tryd.ntmps20
  go_wp2
  go_ret
  exact ⟨rfl, 0, rfl⟩

theorem ints_none (a b : Option Addr) (ca cb : Nat) (w : World) :
    Calls Tryd.prog 20 #[.slice a 0 ca, .slice b 0 cb] w fun e w' => e = .returned (.bool true) ∧ ∃ k, w' = w.drewN k := by
  go_enter Tryd.func20, Tryd.ntmps20
  go_wp2
  go_loop [5] (fun i => i = .int .i64 0) (fun _ => 0)
  case atStart => rfl
  case round =>
    subst hrel
    go_wp2
    go_ret
    exact ⟨rfl, 0, rfl⟩

theorem drewN2 (w : World) (j k : Nat) : ∃ i, (w.drewN j).drewN k = w.drewN i := ⟨j + k, by simp⟩

theorem ints_row (ba oa bb ob ca cb : Nat) (l1 l2 : List Int) (w : World) (hlen : l1.length = l2.length) (hsm : l1.length < 1152921504606846976)
    (h1 : ∀ i, i < l1.length → w.cell? ⟨ba, oa + i, none⟩ = some (.int .i64 (l1.getD i 0))) (h2 : ∀ i, i < l2.length → w.cell? ⟨bb, ob + i, none⟩ = some (.int .i64 (l2.getD i 0))) :
    Calls Tryd.prog 20 #[.slice (some ⟨ba, oa, none⟩) l1.length ca, .slice (some ⟨bb, ob, none⟩) l1.length cb] w fun e w' => e = .returned (.bool (decide (l1 = l2))) ∧ ∃ k, w' = w.drewN k := by
  have H1 : Hid (∀ i, i < l1.length → w.cell? ⟨ba, oa + i, none⟩ = some (.int .i64 (l1.getD i 0))) := h1
  have H2 : Hid (∀ i, i < l2.length → w.cell? ⟨bb, ob + i, none⟩ = some (.int .i64 (l2.getD i 0))) := h2
  have HLEN : Hid (l1.length = l2.length) := hlen
  have hb : ((l1.length : Int) != (l1.length : Int)) = false := by simp
  clear h1 h2 hlen
  go_enter Tryd.func20, Tryd.ntmps20
  go_wp2
  go_loopw [5] (fun i wr => ∃ k j : Nat, k ≤ l1.length ∧ i = .int .i64 k ∧ (∀ i, i < k → l1.getD i 0 = l2.getD i 0) ∧ wr = w.drewN j) (fun i _ => l1.length - (intOf i).toNat)
  case atStart => exact ⟨0, 0, Nat.zero_le _, rfl, fun i hi => absurd hi (Nat.not_lt_zero i), rfl⟩
  case round =>
    obtain ⟨k, j, hk, rfl, hsame, rfl⟩ := hrel
    have HSAME : Hid (∀ i, i < k → l1.getD i 0 = l2.getD i 0) := hsame
    clear hsame
    by_cases hlt : k < l1.length
    · have hc1 := H1.out k hlt
      have hc2 := H2.out k (by rw [← HLEN.out]; exact hlt)
      obtain ⟨x, hx⟩ : ∃ x, x = l1.getD k 0 := ⟨_, rfl⟩
      obtain ⟨y, hy⟩ : ∃ y, y = l2.getD k 0 := ⟨_, rfl⟩
      rw [← hx] at hc1
      rw [← hy] at hc2
      have HX : Hid (x = l1.getD k 0) := hx
      have HY : Hid (y = l2.getD k 0) := hy
      clear hx hy
      have hki : (k : Int) < (l1.length : Int) := by omega
      have hki0 : (0 : Int) ≤ (k : Int) := by omega
      by_cases hxy : x = y
      · subst hxy
        have hbb : (x != x) = false := by simp
        go_wp2_with fail
        go_quiet (fail)
        go_wp2
        go_roundw
        case rel =>
          refine ⟨k + 1, _, by omega, by go_num, fun i hi => ?_, rfl⟩
          by_cases e : i = k
          · subst e; rw [← HX.out, ← HY.out]
          · exact HSAME.out i (by omega)
        case measure => simp [intOf]; omega
      · have hbb : (x != y) = true := by rw [bne_iff_ne]; exact hxy
        go_wp2_with fail
        go_quiet (fail)
        go_wp2
        go_ret
        have hne : l1 ≠ l2 := fun e => hxy (by rw [HX.out, HY.out, e])
        rw [decide_eq_false hne]
        exact ⟨rfl, drewN2 _ _ _⟩
    · have hE : l1 = l2 := by
        apply List.ext_getElem HLEN.out
        intro i h1 h2
        have := HSAME.out i (by omega)
        simpa [List.getD, h1, h2] using this
      have HE : Hid (l1 = l2) := hE
      clear hE
      go_wp2
      go_ret
      rw [decide_eq_true HE.out]
      exact ⟨rfl, _, rfl⟩

theorem ints_any (a b : Option Addr) (ca cb : Nat) (l1 l2 : List Int) (w : World) (hsm : l1.length < 1152921504606846976) (h1 : IntsAt w a l1) (h2 : IntsAt w b l2) :
    Calls Tryd.prog 20 #[.slice a l1.length ca, .slice b l2.length cb] w fun e w' => e = .returned (.bool (decide (l1 = l2))) ∧ ∃ k, w' = w.drewN k := by
  by_cases hlen : l1.length = l2.length
  · rcases h1 with rfl | ⟨ba, oa, rfl, hc1⟩
    · have : l2 = [] := List.length_eq_zero_iff.1 hlen.symm
      subst this
      exact ints_none a b ca cb w
    · rcases h2 with rfl | ⟨bb, ob, rfl, hc2⟩
      · have : l1 = [] := List.length_eq_zero_iff.1 hlen
        subst this
        exact ints_none _ b ca cb w
      · rw [← hlen]
        exact ints_row ba oa bb ob ca cb l1 l2 w hlen hsm hc1 hc2
  · have : l1 ≠ l2 := fun e => hlen (by rw [e])
    rw [decide_eq_false this]
    exact ints_ne a b _ _ ca cb w hlen

/-- Which of n things. -/
def pickN (x : Int) (n : Nat) : Nat := (if x < 0 then -(x + 1) else x).toNat % n
theorem pickN_lt (x : Int) (n : Nat) (h : 0 < n) : pickN x n < n := Nat.mod_lt _ h

theorem pick_any (x : Int) (n : Nat) (w : World) (hx : -9223372036854775808 ≤ x) (hx2 : x ≤ 9223372036854775807) (hn : 0 < n) (hn2 : n < 1000000) :
    Calls Tryd.prog 17 #[.int .i64 x, .int .i64 n] w fun e w' => e = .returned (.int .i64 (pickN x n : Nat)) ∧ w' = w := by
  by_cases h0 : x < 0
  · have e : ((pickN x n : Nat) : Int) = -((x + 1).tmod (n : Int)) := by
      rw [← Int.neg_tmod, Int.tmod_eq_emod_of_nonneg (by omega)]
      unfold pickN; rw [if_pos h0, Int.natCast_emod]; congr 1; omega
    rw [e]
    go_enter Tryd.func17, Tryd.ntmps17
    go_wp2
    go_ret
    exact ⟨rfl, rfl⟩
  · have e : ((pickN x n : Nat) : Int) = x % (n : Int) := by
      unfold pickN; rw [if_neg h0, Int.natCast_emod]; congr 1; omega
    rw [e]
    go_enter Tryd.func17, Tryd.ntmps17
    go_wp2
    go_ret
    exact ⟨rfl, rfl⟩

end Go.Proofs.YtkmocjdjdlpphaaDoor
