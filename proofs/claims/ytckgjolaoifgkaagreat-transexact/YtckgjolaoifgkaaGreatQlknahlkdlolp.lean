/-
  lr0: slices.Compact of items.
-/
import Derived.Test.YtckgjolaoifgkaaGreatQmgghdphbncjm
import Derived.Test.YtckgjolaoifgkaaGreatQakjkggbohpoc
import Derived.Deep.AppendSrc
namespace Go.Proofs.YtckgjolaoifgkaaGreat.J
open Go.RowKit Go.Maps Go.Shelf

attribute [local go_sem] Oper.semAt_some

/-- While a row is compacted: its first k cells hold pre, those from k on what they held. -/
structure CmAt (w X : World) (g c N k : Nat) (l pre : List It) : Prop where
  grown : w.grownBy X (some g)
  row : ∃ cur : Array Value, X.heap[g]? = some (.cells cur 68 (0, 0)) ∧ cur.size = c * 2 ∧ (∀ i, i < k → cur[i * 2]? = some (.int .i64 (pre.getD i (0, 0)).1) ∧ cur[i * 2 + 1]? = some (.int .i64 (pre.getD i (0, 0)).2)) ∧ ∀ i, k ≤ i → i < N → cur[i * 2]? = some (.int .i64 (l.getD i (0, 0)).1) ∧ cur[i * 2 + 1]? = some (.int .i64 (l.getD i (0, 0)).2)
section
variable {w X Y : World} {g c N k : Nat} {l pre : List It}
theorem CmAt.cell (h : CmAt w X g c N k l pre) {i : Nat} (h1 : k ≤ i) (h2 : i < N) : X.cell? ⟨g, i * 2, none⟩ = some (.int .i64 (l.getD i (0, 0)).1) ∧ X.cell? ⟨g, i * 2 + 1, none⟩ = some (.int .i64 (l.getD i (0, 0)).2) := by
  obtain ⟨cur, e1, e2, e3, e4⟩ := h.row
  rw [cell_of_row _ _ _ _ _ _ e1, cell_of_row _ _ _ _ _ _ e1]
  exact e4 i h1 h2
theorem CmAt.free (h : CmAt w X g c N k l pre) (j : Nat) : X.frozen? ⟨g, j, none⟩ = false := by
  obtain ⟨cur, e1, _⟩ := h.row
  exact frozen_of_row _ _ _ _ _ e1
theorem CmAt.drawn (h : CmAt w X g c N k l pre) (j : Nat) : CmAt w (X.drewN j) g c N k l pre := ⟨grown_two' h.grown (grown_drewN X j), h.row⟩
  where grown_two' {x y z : World} {b : Nat} (h1 : x.grownBy y (some b)) (h2 : y.grownBy z none) : x.grownBy z (some b) := ⟨h2.os.trans h1.os, h2.tape.trans h1.tape, h2.output.trans h1.output, Nat.le_trans h1.size h2.size, fun k hk hne => (h2.block k (Nat.lt_of_lt_of_le hk h1.size) (by simp)).trans (h1.block k hk hne)⟩
theorem CmAt.front (h : CmAt w X g c N 0 l []) {m : Nat} (hm : m ≤ N) (hl : N = l.length) : CmAt w X g c N m l (l.take m) := by
  obtain ⟨cur, e1, e2, e3, e4⟩ := h.row
  refine ⟨h.grown, cur, e1, e2, fun i hi => ?_, fun i h1 h2 => e4 i (Nat.zero_le _) h2⟩
  have : (l.take m).getD i (0, 0) = l.getD i (0, 0) := by
    rw [List.getD_eq_getElem?_getD, List.getElem?_take, if_pos hi, ← List.getD_eq_getElem?_getD]
  rw [this]
  exact e4 i (Nat.zero_le _) (by omega)
theorem CmAt.put (h : CmAt w X g c N k l pre) (hk : k < N) (hc : N ≤ c) (hp : pre.length = k) (x : It) : CmAt w ((X.setCell ⟨g, k * 2, none⟩ (.int .i64 x.1)).setCell ⟨g, k * 2 + 1, none⟩ (.int .i64 x.2)) g c N (k + 1) l (pre ++ [x]) := by
  obtain ⟨cur, e1, e2, e3, e4⟩ := h.row
  have G1 : X.grownBy (X.setCell ⟨g, k * 2, none⟩ (.int .i64 x.1)) (some g) := grown_setCell _ _ _
  have G2 : (X.setCell ⟨g, k * 2, none⟩ (.int .i64 x.1)).grownBy ((X.setCell ⟨g, k * 2, none⟩ (.int .i64 x.1)).setCell ⟨g, k * 2 + 1, none⟩ (.int .i64 x.2)) (some g) := grown_setCell _ _ _
  refine ⟨two (two h.grown G1) G2, _, heap_setCell_same _ _ _ _ _ _ (heap_setCell_same _ _ _ _ _ _ e1), by simp [e2], fun i hi => ?_, fun i h1 h2 => ?_⟩
  · by_cases e : i = k
    · subst e
      have h5 : (pre ++ [x]).getD i (0, 0) = x := by rw [List.getD_eq_getElem?_getD, List.getElem?_append_right (by omega), hp]; simp
      rw [h5]
      have h6 : i * 2 < cur.size := by omega
      have h7 : i * 2 + 1 < cur.size := by omega
      simp [h6, h7]
    · have h5 : (pre ++ [x]).getD i (0, 0) = pre.getD i (0, 0) := by rw [List.getD_eq_getElem?_getD, List.getElem?_append_left (by omega), ← List.getD_eq_getElem?_getD]
      rw [h5]
      have h6 := e3 i (by omega)
      refine ⟨?_, ?_⟩
      · rw [Array.getElem?_setIfInBounds, if_neg (by omega), Array.getElem?_setIfInBounds, if_neg (by omega)]; exact h6.1
      · rw [Array.getElem?_setIfInBounds, if_neg (by omega), Array.getElem?_setIfInBounds, if_neg (by omega)]; exact h6.2
  · have h6 := e4 i (by omega) h2
    refine ⟨?_, ?_⟩
    · rw [Array.getElem?_setIfInBounds, if_neg (by omega), Array.getElem?_setIfInBounds, if_neg (by omega)]; exact h6.1
    · rw [Array.getElem?_setIfInBounds, if_neg (by omega), Array.getElem?_setIfInBounds, if_neg (by omega)]; exact h6.2
  where two {x y z : World} {b : Nat} (h1 : x.grownBy y (some b)) (h2 : y.grownBy z (some b)) : x.grownBy z (some b) := ⟨h2.os.trans h1.os, h2.tape.trans h1.tape, h2.output.trans h1.output, Nat.le_trans h1.size h2.size, fun k hk hne => (h2.block k (Nat.lt_of_lt_of_le hk h1.size) hne).trans (h1.block k hk hne)⟩
end
theorem setCells_block {g : Nat} {t : TypeId} : ∀ (vs : List Value) (o : Nat) (X : World) (cur : Array Value), X.heap[g]? = some (.cells cur t (0, 0)) → ∃ cur', (X.setCells g o vs).heap[g]? = some (.cells cur' t (0, 0)) ∧ cur'.size = cur.size ∧ (∀ j, j < o → cur'[j]? = cur[j]?) ∧ X.grownBy (X.setCells g o vs) (some g)
  | [], _, X, cur, h => ⟨cur, h, rfl, fun _ _ => rfl, ⟨rfl, rfl, rfl, Nat.le_refl _, fun _ _ _ => rfl⟩⟩
  | v :: vs, o, X, cur, h => by
    have h1 := heap_setCell_same X g o _ _ v h
    obtain ⟨cur', e1, e2, e3, e4⟩ := setCells_block vs (o + 1) (X.setCell ⟨g, o, none⟩ v) _ h1
    refine ⟨cur', e1, by rw [e2]; simp, fun j hj => ?_, ?_⟩
    · rw [e3 j (by omega), Array.getElem?_setIfInBounds, if_neg (by omega)]
    · have G : X.grownBy (X.setCell ⟨g, o, none⟩ v) (some g) := grown_setCell _ _ _
      exact ⟨e4.os.trans G.os, e4.tape.trans G.tape, e4.output.trans G.output, Nat.le_trans G.size e4.size, fun k hk hne => (e4.block k (Nat.lt_of_lt_of_le hk G.size) hne).trans (G.block k hk hne)⟩
/-- clear of a row of items. -/
theorem run_clear_its (w : World) (ty : TypeId) (b o n c : Nat) (hn : 0 < n) (hc : ∀ j, j < n * 2 → (w.cell? ⟨b, o + j, none⟩).isSome = true) (hf : ∀ j, j < n * 2 → w.frozen? ⟨b, o + j, none⟩ = false) :
    (Builtin.clear_ #[69] ty #[.slice (some ⟨b, o, none⟩) n c]).run Tryz.prog w = .ok (.tuple #[]) (w.setCells b o (Builtin.zeroCells (Value.agg #[.int .i64 0, .int .i64 0]).cells n).toList) := by
  have hlen : (Builtin.zeroCells (Value.agg #[.int .i64 0, .int .i64 0]).cells n).toList.length = n * 2 := by
    rw [Array.length_toList, size_zeroCells]; rfl
  have hone : ∀ v ∈ (Builtin.zeroCells (Value.agg #[.int .i64 0, .int .i64 0]).cells n).toList, v.oneCell' = true := by
    intro v hv
    simp only [Builtin.zeroCells, Value.cells] at hv
    simp at hv
    obtain ⟨a, ha, rfl⟩ := hv
    have hm : a % 2 = 0 ∨ a % 2 = 1 := by omega
    rcases hm with hm | hm <;> simp [hm] <;> rfl
  have hst := run_storeCells_cells (P := Tryz.prog) b o (Builtin.zeroCells (Value.agg #[.int .i64 0, .int .i64 0]).cells n).toList 0 w (by rw [hlen]; simpa using hc) (by rw [hlen]; simpa using hf) hone
  simp only [Nat.add_zero] at hst
  obtain ⟨m, rfl⟩ : ∃ m, n = m + 1 := ⟨n - 1, by omega⟩
  simp only [Builtin.clear_]
  simp [run_underlying Tryz.underlying69, hst]

/-- What compacting tells. -/
def CompTold (B : Nat) (a : Option Addr) (c : Nat) (l : List It) (w : World) (e : Ending) (y : World) : Prop := ∃ m : Nat, m = (ddT l l.length).length ∧ e = .returned (.slice a m c) ∧ y.ownsRow B 68 2 (.slice a m c) m (itsV (ddT l l.length)) ∧ w.grownBy y (Value.slice a l.length c).ownBlock

theorem its_take {cur : Array Value} {pre : List It} (h : ∀ i, i < pre.length → cur[i * 2]? = some (.int .i64 (pre.getD i (0, 0)).1) ∧ cur[i * 2 + 1]? = some (.int .i64 (pre.getD i (0, 0)).2)) : cur.toList.take (pre.length * 2) = itsV pre := by
  apply List.ext_getElem?
  intro j
  by_cases hj : j < pre.length * 2
  · rw [List.getElem?_take_of_lt hj, Array.getElem?_toList]
    have h1 := h (j / 2) (by omega)
    have h2 := itsV_at pre (j / 2) (by omega)
    have hm : j % 2 = 0 ∨ j % 2 = 1 := by omega
    rcases hm with hm | hm
    · have e : j = j / 2 * 2 := by omega
      have h3 := h1.1.trans h2.1.symm
      rwa [← e] at h3
    · have e : j = j / 2 * 2 + 1 := by omega
      have h3 := h1.2.trans h2.2.symm
      rwa [← e] at h3
  · rw [List.getElem?_take_eq_none (by omega), List.getElem?_eq_none (by rw [itsV_length]; omega)]

theorem ddT_dup {l : List It} {k : Nat} (hk : 0 < k) (h : l.getD k (0, 0) = l.getD (k - 1) (0, 0)) : ddT l (k + 1) = ddT l k := if_pos ⟨hk, h⟩
theorem ddT_new {l : List It} {k : Nat} (h : ¬ (0 < k ∧ l.getD k (0, 0) = l.getD (k - 1) (0, 0))) : ddT l (k + 1) = ddT l k ++ [l.getD k (0, 0)] := if_neg h
theorem take_at {l : List It} {k : Nat} (hk : k < l.length) : l.take (k + 1) = l.take k ++ [l.getD k (0, 0)] := by
  rw [List.take_succ_eq_append_getElem hk, List.getD_eq_getElem?_getD, List.getElem?_eq_getElem hk]; rfl

set_option maxRecDepth 100000 in
set_option maxHeartbeats 2000000 in
theorem compact_big (w : World) (B g c N : Nat) (l : List It) (hN : N = l.length) (hNc : N ≤ c) (hc : c ≤ maxLen) (hB : B ≤ g) (h2 : 2 ≤ N) (hb : N ≤ 1099511627776000) (h : CmAt w w g c N 0 l []) :
    Calls Tryz.prog 84 #[.slice (some ⟨g, 0, none⟩) N c] w fun e y => CompTold B (some ⟨g, 0, none⟩) c l w e y := by
  have HN : Hid (N = l.length) := hN
  have HC0 : Hid (CmAt w w g c N 0 l []) := h
  have hd2 : decide (N < 2) = false := decide_eq_false (by omega)
  have hgu := guard_item
  clear hN h
  go_enter Tryz.func84, Tryz.ntmps84
  go_wp2_with fail
  go_loopg [3] (N - 1) (fun gk v3 wr => ∃ k : Nat, 1 ≤ k ∧ k ≤ N ∧ gk = N - k ∧ v3 = .int .i64 k ∧ CmAt w wr g c N 0 l [] ∧ ddT l k = l.take k)
  case atStart => exact ⟨1, Nat.le_refl _, by omega, rfl, rfl, HC0.out, by
    have := HN.out
    rw [ddT_new (by omega)]
    rw [take_at (by omega)]; rfl⟩
  case round =>
    obtain ⟨k, hk1, hkN, hgk, rfl, hC, hT⟩ := hrel
    have HGK : Hid (gk = N - k) := hgk
    have HC : Hid (CmAt w wr g c N 0 l []) := hC
    have HT : Hid (ddT l k = l.take k) := hT
    clear hgk hC hT HC0
    by_cases hlt : k < N
    · have hk0 : (0 : Int) ≤ (k : Int) := by omega
      have hki : (k : Int) < (N : Int) := by omega
      have hkd : decide (k < N) = true := decide_eq_true hlt
      obtain ⟨j, hkj⟩ : ∃ j, k = j + 1 := ⟨k - 1, by omega⟩
      have HKJ : Hid (k = j + 1) := hkj
      obtain ⟨c0, c1⟩ := HC.out.cell (Nat.zero_le k) hlt
      obtain ⟨c2, c3⟩ := HC.out.cell (Nat.zero_le j) (by omega)
      have hw1 : IntKind.i64.wrap ((k : Int) - 1) = (j : Int) := by rw [IntKind.wrap_i64]; omega
      have hw2 : (k : Int) - 1 = (j : Int) := by omega
      have hw3 : IntKind.i64.wrap (j : Int) = (j : Int) := by rw [IntKind.wrap_i64]; omega
      have hj0 : (0 : Int) ≤ (j : Int) := by omega
      have hj1 : (j : Int) < (N : Int) := by omega
      obtain ⟨x, hx⟩ : ∃ x, x = l.getD k (0, 0) := ⟨_, rfl⟩
      obtain ⟨y, hy⟩ : ∃ y, y = l.getD j (0, 0) := ⟨_, rfl⟩
      have HXY : Hid (x = l.getD k (0, 0) ∧ y = l.getD j (0, 0)) := ⟨hx, hy⟩
      rw [← hx] at c0 c1
      rw [← hy] at c2 c3
      clear hx hy hkj
      obtain ⟨p, d⟩ := x
      obtain ⟨p', d'⟩ := y
      simp only at c0 c1 c2 c3
      obtain ⟨bb, hbb⟩ : ∃ b, b = (p == p' && d == d') := ⟨_, rfl⟩
      have HBB : Hid (bb = true ↔ l.getD k (0, 0) = l.getD j (0, 0)) := by
        rw [← HXY.out.1, ← HXY.out.2, hbb, Bool.and_eq_true, beq_iff_eq, beq_iff_eq]
        exact ⟨fun h => Prod.ext h.1 h.2, fun h => ⟨congrArg Prod.fst h, congrArg Prod.snd h⟩⟩
      have hE : ∀ X : World, (binOp .eql 68 (.agg #[.int .i64 p, .int .i64 d]) (.agg #[.int .i64 p', .int .i64 d'])).run Tryz.prog X = .ok (.bool bb) X := fun X => by rw [hbb]; exact eq_item p d p' d' X
      clear hbb
      cases bb with
      | false =>
        have HNT : Hid (ddT l (k + 1) = l.take (k + 1)) := by
          show _ = _
          have hno : ¬ l.getD k (0, 0) = l.getD j (0, 0) := fun h => absurd (HBB.out.2 h) (by decide)
          rw [ddT_new (by rw [HKJ.out, Nat.add_sub_cancel, ← HKJ.out]; exact fun h => hno h.2), HT.out, take_at (by rw [← HN.out]; exact hlt)]
        go_wp2_with fail
        go_quiet (fail)
        go_wp2_with fail
        go_roundg (N - (k + 1))
        case measure => have := HGK.out; omega
        case rel => exact ⟨k + 1, by omega, by omega, rfl, by go_num, HC.out.drawn _, HNT.out⟩
      | true =>
        have HDU : Hid (ddT l (k + 1) = l.take k) := by
          show _ = _
          rw [ddT_dup (by omega) (by rw [HKJ.out, Nat.add_sub_cancel, ← HKJ.out]; exact HBB.out.1 rfl), HT.out]
        have hcd : decide (k < c) = true := decide_eq_true (by omega)
        have hkc : ¬ c = k := by omega
        have HST : Hid (∀ j, CmAt w (wr.drewN j) g c N k l (ddT l (k + 1))) := fun j => by
          rw [HDU.out]
          exact (HC.out.drawn j).front (by omega) HN.out
        have HLE : Hid (k = (ddT l (k + 1)).length) := by
          show _ = _
          rw [HDU.out, List.length_take, ← HN.out]; omega
        go_wp2_with fail
        go_quiet (fail)
        go_wp2_with fail
        obtain ⟨M, hM⟩ : ∃ M, M = N - k := ⟨_, rfl⟩
        obtain ⟨C2, hC2⟩ : ∃ M, M = c - k := ⟨_, rfl⟩
        rw [← hM, ← hC2]
        have hMk : M + k = N := by omega
        have HMK : Hid (M + k = N) := hMk
        have hM1 : 1 ≤ M := by omega
        have hMb : M ≤ 1099511627776000 := by omega
        clear hM hC2 hMk c0 c1 c2 c3 hE hw1 hw2 hw3
        go_loopg [3, 5] (M - 1) (fun gq v3 v5 wr => ∃ kk q : Nat, 1 ≤ kk ∧ 1 ≤ q ∧ q ≤ M ∧ kk + 1 ≤ k + q ∧ gq = M - q ∧ v3 = .int .i64 kk ∧ v5 = .int .i64 q ∧ kk = (ddT l (k + q)).length ∧ CmAt w wr g c N kk l (ddT l (k + q)))
        case atStart => exact ⟨k, 1, hk1, Nat.le_refl _, hM1, Nat.le_refl _, rfl, rfl, rfl, HLE.out, HST.out _⟩
        case round =>
          obtain ⟨kk, q, hkk1, hq1, hqM, hkq, hgq, rfl, rfl, hle, hC3⟩ := hrel
          have HGQ : Hid (gk = M - q) := hgq
          have HLE2 : Hid (kk = (ddT l (k + q)).length) := hle
          have HC3 : Hid (CmAt w wr g c N kk l (ddT l (k + q))) := hC3
          have HKN : Hid (kk < N) := by have := HMK.out; show _ < _; omega
          clear hgq hle hC3 HC HST
          have hkk0 : (0 : Int) ≤ (kk : Int) := by omega
          have hkk2 : (kk : Int) < (N : Int) := by have := HKN.out; omega
          by_cases hqlt : q < M
          · have hq0 : (0 : Int) ≤ (q : Int) := by omega
            have hqi : (q : Int) < (M : Int) := by omega
            have hqd : decide (q < M) = true := decide_eq_true hqlt
            obtain ⟨r, hqr⟩ : ∃ r, q = r + 1 := ⟨q - 1, by omega⟩
            have HQR : Hid (q = r + 1) := hqr
            obtain ⟨c0, c1⟩ := HC3.out.cell (i := k + q) (by omega) (by have := HMK.out; omega)
            obtain ⟨c2, c3⟩ := HC3.out.cell (i := k + r) (by omega) (by have := HMK.out; omega)
            obtain ⟨y0, y1⟩ := HC3.out.cell (i := kk) (Nat.le_refl _) HKN.out
            have f0 := HC3.out.free (kk * 2)
            have f1 := HC3.out.free (kk * 2 + 1)
            rw [show (k + q) * 2 = k * 2 + q * 2 by omega] at c0 c1
            rw [show (k + r) * 2 = k * 2 + r * 2 by omega] at c2 c3
            have hw1 : IntKind.i64.wrap ((q : Int) - 1) = (r : Int) := by rw [IntKind.wrap_i64]; omega
            have hw2 : (q : Int) - 1 = (r : Int) := by omega
            have hw3 : IntKind.i64.wrap (r : Int) = (r : Int) := by rw [IntKind.wrap_i64]; omega
            have hr0 : (0 : Int) ≤ (r : Int) := by omega
            have hr1 : (r : Int) < (M : Int) := by omega
            obtain ⟨x, hx⟩ : ∃ x, x = l.getD (k + q) (0, 0) := ⟨_, rfl⟩
            obtain ⟨y, hy⟩ : ∃ y, y = l.getD (k + r) (0, 0) := ⟨_, rfl⟩
            obtain ⟨zz, hzz⟩ : ∃ y, y = l.getD kk (0, 0) := ⟨_, rfl⟩
            have HXY2 : Hid (x = l.getD (k + q) (0, 0) ∧ y = l.getD (k + r) (0, 0)) := ⟨hx, hy⟩
            rw [← hx] at c0 c1
            rw [← hy] at c2 c3
            rw [← hzz] at y0 y1
            clear hx hy hqr hzz
            obtain ⟨xp, xd⟩ := x
            obtain ⟨yp, yd⟩ := y
            obtain ⟨zp, zd⟩ := zz
            simp only at c0 c1 c2 c3 y0 y1
            obtain ⟨bb, hbb⟩ : ∃ b, b = (xp == yp && xd == yd) := ⟨_, rfl⟩
            have HBB2 : Hid (bb = true ↔ l.getD (k + q) (0, 0) = l.getD (k + r) (0, 0)) := by
              rw [← HXY2.out.1, ← HXY2.out.2, hbb, Bool.and_eq_true, beq_iff_eq, beq_iff_eq]
              exact ⟨fun h => Prod.ext h.1 h.2, fun h => ⟨congrArg Prod.fst h, congrArg Prod.snd h⟩⟩
            have hE : ∀ X : World, (binOp .neq 68 (.agg #[.int .i64 xp, .int .i64 xd]) (.agg #[.int .i64 yp, .int .i64 yd])).run Tryz.prog X = .ok (.bool (!bb)) X := fun X => by rw [hbb]; exact neq_item xp xd yp yd X
            clear hbb
            cases bb with
            | true =>
              have HDT : Hid (ddT l (k + (q + 1)) = ddT l (k + q)) := by
                show _ = _
                rw [← Nat.add_assoc]
                exact ddT_dup (by omega) (by rw [show k + q - 1 = k + r by have := HQR.out; omega]; exact HBB2.out.1 rfl)
              go_wp2_with fail
              go_quiet (fail)
              go_wp2_with fail
              go_roundg (M - (q + 1))
              case measure => have := HGQ.out; omega
              case rel => exact ⟨kk, q + 1, hkk1, by omega, by omega, by omega, rfl, rfl, by go_num, by rw [HDT.out]; exact HLE2.out, by rw [HDT.out]; exact HC3.out.drawn _⟩
            | false =>
              have HDT : Hid (ddT l (k + (q + 1)) = ddT l (k + q) ++ [(xp, xd)]) := by
                show _ = _
                rw [← Nat.add_assoc, HXY2.out.1]
                refine ddT_new fun h => ?_
                rw [show k + q - 1 = k + r by have := HQR.out; omega] at h
                exact absurd (HBB2.out.2 h.2) (by decide)
              have HPU : Hid (∀ j, CmAt w (((wr.drewN j).setCell ⟨g, kk * 2, none⟩ (.int .i64 xp)).setCell ⟨g, kk * 2 + 1, none⟩ (.int .i64 xd)) g c N (kk + 1) l (ddT l (k + q) ++ [(xp, xd)])) := fun j => (HC3.out.drawn j).put HKN.out hNc HLE2.out.symm (xp, xd)
              have hkb : kk ≤ 1099511627776000 := by have := HKN.out; omega
              go_wp2_with fail
              go_quiet (fail)
              go_wp2_with fail
              go_roundg (M - (q + 1))
              case measure => have := HGQ.out; omega
              case rel => exact ⟨kk + 1, q + 1, by omega, by omega, by omega, by omega, rfl, by go_num, by go_num, by rw [HDT.out, List.length_append, ← HLE2.out]; rfl, by rw [HDT.out]; exact HPU.out _⟩
          · have hqn : M = q := by omega
            subst hqn
            have hqd : decide (M < M) = false := decide_eq_false (by omega)
            have HFI : Hid (ddT l l.length = ddT l (k + M)) := by show _ = _; rw [← HN.out, ← HMK.out, Nat.add_comm]
            have hkc2 : ¬ c = kk := by have := HKN.out; omega
            have hkc3 : decide (kk < c) = true := decide_eq_true (by have := HKN.out; omega)
            have hcl := fun ty => run_clear_its wr ty g (kk * 2) (N - kk) (c - kk) (by have := HKN.out; omega) (fun j hj => by
              obtain ⟨cur, e1, e2, _⟩ := HC3.out.row
              rw [cell_of_row _ _ _ _ _ _ e1]
              have : kk * 2 + j < cur.size := by have := HKN.out; omega
              rw [Array.getElem?_eq_getElem this]; rfl) (fun j _ => HC3.out.free _)
            obtain ⟨vs, hvs⟩ : ∃ vs, vs = (Builtin.zeroCells (Value.agg #[.int .i64 0, .int .i64 0]).cells (N - kk)).toList := ⟨_, rfl⟩
            rw [← hvs] at hcl
            obtain ⟨Z, hZ⟩ : ∃ Z, Z = wr.setCells g (kk * 2) vs := ⟨_, rfl⟩
            rw [← hZ] at hcl
            have HFN : Hid (Z.ownsRow B 68 2 (.slice (some ⟨g, 0, none⟩) kk c) kk (itsV (ddT l (k + M))) ∧ w.grownBy Z (some g)) := by
              obtain ⟨cur, e1, e2, e3, e4⟩ := HC3.out.row
              obtain ⟨cur', b1, b2, b3, b4⟩ := setCells_block vs (kk * 2) wr cur e1
              rw [hZ]
              refine ⟨⟨by rw [itsV_length, ← HLE2.out], .inr ⟨g, c, cur', rfl, hB, b1, by have := HKN.out; omega, hc, by rw [b2, e2], ?_⟩⟩, CmAt.put.two HC3.out.grown b4⟩
              have h9 := its_take (cur := cur') (pre := ddT l (k + M)) (fun i hi => by
                rw [← HLE2.out] at hi
                rw [b3 _ (by omega), b3 _ (by omega)]
                exact e3 i hi)
              rwa [← HLE2.out] at h9
            clear hZ hvs
            go_wp2_with fail
            go_ret
            exact ⟨kk, by rw [HFI.out]; exact HLE2.out, rfl, by rw [HFI.out]; exact HFN.out.1, HFN.out.2⟩
    · have hkn : N = k := by omega
      subst hkn
      have hkd : decide (N < N) = false := decide_eq_false (by omega)
      have HTL : Hid (ddT l l.length = l) := by show _ = _; rw [← HN.out, HT.out, HN.out]; exact List.take_length
      go_wp2_with fail
      go_ret
      obtain ⟨cur, e1, e2, e3, e4⟩ := HC.out.row
      have e5 := its_take (pre := l) (fun i hi => e4 i (Nat.zero_le _) (by rw [HN.out]; exact hi))
      refine ⟨N, by rw [HTL.out]; exact HN.out, rfl, ⟨by rw [HTL.out, itsV_length, HN.out], .inr ⟨g, c, cur, rfl, hB, e1, hNc, hc, e2, ?_⟩⟩, HC.out.grown⟩
      rw [HTL.out, HN.out]; exact e5

end Go.Proofs.YtckgjolaoifgkaaGreat.J
