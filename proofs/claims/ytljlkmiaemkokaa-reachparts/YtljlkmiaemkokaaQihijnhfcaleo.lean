import Derived.Test.YtljlkmiaemkokaaQinfmidchdjdc
import Derived.Test.YtljlkmiaemkokaaQdclampaolkdo

/-
  reach: moved.
-/
namespace Go.Proofs.Ytljlkmiaemkokaa
open Go.RowKit Go.Maps Go.Shelf

attribute [local go_sem] Oper.semAt_some

theorem ValAt.owns {w : World} {B k len : Nat} {t : TypeId} {c : Nat → Value} (h : ValAt w k len t c) (hB : B ≤ k) (hl : len ≤ maxLen) : w.ownsRow B t 1 (.slice (some ⟨k, 0, none⟩) len len) len ((List.range len).map c) :=
  ⟨by simp, .inr ⟨k, len, _, rfl, hB, h, Nat.le_refl _, hl, by simp, by rw [Nat.mul_one]; exact List.take_of_length_le (by simp)⟩⟩
theorem ValAt.ext {w : World} {k len : Nat} {t : TypeId} {c d : Nat → Value} (h : ValAt w k len t c) (e : ∀ i, i < len → c i = d i) : ValAt w k len t d := by
  unfold ValAt at *
  rw [h, List.map_congr_left fun i hi => e i (by simpa using hi)]

/-- A row of numbers, whole in block k. -/
def NumAt (w : World) (k len : Nat) (f : Nat → Int) : Prop := ValAt w k len 3 (fun i => .int .i64 (f i))
def setN (f : Nat → Int) (x : Nat) (v : Int) : Nat → Int := fun i => if i = x then v else f i
theorem NumAt.cell {w : World} {k len : Nat} {f : Nat → Int} (h : NumAt w k len f) (i : Nat) (hi : i < len) : w.cell? ⟨k, i, none⟩ = some (.int .i64 (f i)) := ValAt.cell h i hi
theorem NumAt.kept {w w' : World} {k len : Nat} {f : Nat → Int} (h : NumAt w k len f) (hg : w.grownBy w' none) : NumAt w' k len f := ValAt.kept h hg
theorem NumAt.at {w w' : World} {k len b : Nat} {f : Nat → Int} (h : NumAt w k len f) (hg : w.grownBy w' (some b)) (hne : k ≠ b) : NumAt w' k len f := ValAt.at h hg hne
theorem NumAt.lt {w : World} {k len : Nat} {f : Nat → Int} (h : NumAt w k len f) : k < w.heap.size := ValAt.lt h
theorem NumAt.free {w : World} {k len : Nat} {f : Nat → Int} (h : NumAt w k len f) (i : Nat) : w.frozen? ⟨k, i, none⟩ = false := ValAt.free h i
theorem NumAt.set {w : World} {k len : Nat} {f : Nat → Int} (h : NumAt w k len f) (x : Nat) (v : Int) : NumAt (w.setCell ⟨k, x, none⟩ (.int .i64 v)) k len (setN f x v) := by
  have h2 := ValAt.set h x (.int .i64 v)
  refine ValAt.ext h2 fun i _ => ?_
  unfold put setN
  by_cases e : i = x
  · rw [if_pos e, if_pos e]
  · rw [if_neg e, if_neg e]
theorem NumAt.ext {w : World} {k len : Nat} {f g : Nat → Int} (h : NumAt w k len f) (e : ∀ i, i < len → f i = g i) : NumAt w k len g := ValAt.ext h fun i hi => by rw [e i hi]
theorem infoInt1 : (Try.prog.info? 3).map (fun i => (i.zero, i.size, i.bytes)) = some (some (.int .i64 0), 1, 8) := by kernel_rfl
theorem made_nums {w w1 : World} {B n : Nat} (h : w1.ownsRow B 3 1 (.slice (some ⟨w.heap.size, 0, none⟩) n n) n (madeCells (Value.int .i64 0).cells (n * 1)).toList) : NumAt w1 w.heap.size n (fun _ => 0) := by
  rcases h.2 with ⟨h', _⟩ | ⟨g, cap, cur, hv, _, hh, _, _, hs, ht⟩
  · cases h'
  · simp only [Value.slice.injEq, Option.some.injEq, Addr.mk.injEq, and_true, true_and] at hv
    obtain ⟨rfl, rfl⟩ := hv
    have e : cur = ((List.range n).map fun _ => Value.int .i64 0).toArray := by
      apply Array.ext'
      rw [show cur.toList = cur.toList.take (n * 1) by rw [List.take_of_length_le (by simp; omega)], ht]
      rw [show (Value.int .i64 0).cells = #[.int .i64 0] from rfl, toList_madeCells_one, Nat.mul_one]
      rw [List.map_const', List.length_range]
    unfold NumAt ValAt
    rw [hh, e]

/-- While a production is moved: its box, the result's, the new row. -/
structure MvAt (w wr : World) (ps : Array Value) (g len : Nat) (f : Nat → Int) : Prop where
  grown : w.grownBy wr none
  box : wr.heap[w.heap.size]? = some (.cells ps 45 (0, 0))
  res : wr.heap[w.heap.size + 1]? = some (.cells #[.int .i64 0, .slice none 0 0, .int .i64 0] 45 (0, 0))
  row : NumAt wr g len f
  lo : w.heap.size + 2 ≤ g
theorem MvAt.set {w wr : World} {ps : Array Value} {g len : Nat} {f : Nat → Int} (h : MvAt w wr ps g len f) (x : Nat) (v : Int) : MvAt w (wr.setCell ⟨g, x, none⟩ (.int .i64 v)) ps g len (setN f x v) :=
  have hg : wr.grownBy (wr.setCell ⟨g, x, none⟩ (.int .i64 v)) (some g) := grown_setCell _ _ _
  have hl := h.lo
  ⟨grown_at h.grown hg (by omega), (hg.block _ (Array.getElem?_eq_some_iff.1 h.box).1 (by simp; omega)).trans h.box, (hg.block _ (Array.getElem?_eq_some_iff.1 h.res).1 (by simp; omega)).trans h.res, h.row.set x v, h.lo⟩

/-- The first k of a row by their new numbers. -/
def movedTo (num : Nat → Int) (l : List Int) (k : Nat) (i : Nat) : Int := if i < k then num (l.getD i 0).toNat else 0
theorem movedTo_succ (num : Nat → Int) (l : List Int) (k : Nat) : setN (movedTo num l k) k (num (l.getD k 0).toNat) = movedTo num l (k + 1) := by
  funext i
  unfold setN movedTo
  by_cases e : i = k
  · subst e; simp
  · rw [if_neg e]
    by_cases h : i < k
    · rw [if_pos h, if_pos (by omega)]
    · rw [if_neg h, if_neg (by omega)]
theorem movedTo_all (num : Nat → Int) (l : List Int) : (List.range l.length).map (fun i => Value.int .i64 (movedTo num l l.length i)) = (l.map fun x => num x.toNat).map (Value.int .i64) := by
  apply List.ext_getElem?
  intro i
  by_cases h : i < l.length
  · simp [h, movedTo, List.getD]
  · simp [h]

/-- The answer of moved. -/
def MovedTold (num : Nat → Int) (l : Int) (R : List Int) (v : Int) (w : World) (e : Ending) (y : World) : Prop :=
  ∃ g, e = .returned (.agg #[.int .i64 (num l.toNat), .slice (some ⟨g, 0, none⟩) R.length R.length, .int .i64 v]) ∧ y.ownsRow w.heap.size 3 1 (.slice (some ⟨g, 0, none⟩) R.length R.length) R.length ((R.map fun x => num x.toNat).map (Value.int .i64)) ∧ w.grownBy y none

theorem infoProd3 : (Try.prog.info? 45).map (·.size) = some 3 := by kernel_rfl

set_option maxRecDepth 100000 in
set_option maxHeartbeats 2000000 in
theorem moved_any (a : Option Addr) (rc nb N : Nat) (num : Nat → Int) (l v : Int) (R : List Int) (w : World) (hI : IntsAt w a R) (hlen : R.length ≤ 17592186044416) (hN : NumAt w nb N num) (hl : 0 ≤ l ∧ l < (N : Int)) (hR : ∀ x ∈ R, 0 ≤ x ∧ x < (N : Int)) :
    Calls Try.prog 55 #[.agg #[.int .i64 l, .slice a R.length rc, .int .i64 v], .slice (some ⟨nb, 0, none⟩) N N] w fun e y => MovedTold num l R v w e y := by
  have HI : Hid (IntsAt w a R) := hI
  have HN : Hid (NumAt w nb N num) := hN
  have HR : Hid (∀ x ∈ R, 0 ≤ x ∧ x < (N : Int)) := hR
  obtain ⟨m, hm⟩ : ∃ m, m = R.length := ⟨_, rfl⟩
  have HM : Hid (m = R.length) := hm
  rw [← hm] at hlen ⊢
  have hW : w.grownBy ((w.alloc (.cells #[.int .i64 l, .slice a m rc, .int .i64 v] 45)).alloc (.cells #[.int .i64 0, .slice none 0 0, .int .i64 0] 45)) none := grown_trans (World.grownBy_alloc _ _ none) (World.grownBy_alloc _ _ none)
  have HW : Hid (w.grownBy ((w.alloc (.cells #[.int .i64 l, .slice a m rc, .int .i64 v] 45)).alloc (.cells #[.int .i64 0, .slice none 0 0, .int .i64 0] 45)) none) := hW
  clear hI hN hR hm hW
  obtain ⟨i0, hi, hz0, hz1, hz2⟩ := info_parts infoInt1
  go_enter Try.func55, Try.ntmps55
  go_wp2_with (at_make; refine wpList_make_full _ rfl _ _ 24 rfl (w.heap.size + 2) 3 i0 (.int .i64 0) 1 Try.underlying24 hi hz0 hz1 .i64 .i64 _ _ m rfl rfl (by simp) (by simp) (by rw [hz2]; omega) (by unfold maxLen; omega) (by simp) ?_)
  intro w1 hown hgrow
  have hmv : MvAt w w1 #[.int .i64 l, .slice a m rc, .int .i64 v] (w.heap.size + 1 + 1) m (movedTo num R 0) := by
    refine ⟨grown_trans HW.out hgrow, ?_, ?_, ?_, by omega⟩
    · refine (hgrow.block _ (by simp; omega) (by simp)).trans ?_
      exact ((World.grownBy_alloc (w.alloc _) _ none).block _ (by simp) (by simp)).trans (heap_alloc_last w _)
    · refine (hgrow.block _ (by simp) (by simp)).trans ?_
      have := heap_alloc_last (w.alloc (.cells #[.int .i64 l, .slice a m rc, .int .i64 v] 45)) (.cells #[.int .i64 0, .slice none 0 0, .int .i64 0] 45)
      rw [World.size_alloc] at this
      exact this
    · have h9 := made_nums (w := (w.alloc (.cells #[.int .i64 l, .slice a m rc, .int .i64 v] 45)).alloc (.cells #[.int .i64 0, .slice none 0 0, .int .i64 0] 45)) (w1 := w1) (B := w.heap.size + 2) (n := m) (by simpa [Value.cells] using hown)
      have e9 : movedTo num R 0 = fun _ => 0 := by funext i; simp [movedTo]
      rw [e9]
      simpa using h9
  have HMV : Hid (MvAt w w1 #[.int .i64 l, .slice a m rc, .int .i64 v] (w.heap.size + 1 + 1) m (movedTo num R 0)) := hmv
  have q1 : w1.cell? ⟨w.heap.size, 1, none⟩ = some (.slice a m rc) := by rw [cell_of_row _ _ _ _ _ _ hmv.box]; rfl
  clear hown hgrow hmv HW hi hz0 hz1 hz2
  go_wp2_with fail
  go_loopg [6, 7, 15] m (fun gk b d i wr => ∃ k : Nat, k ≤ m ∧ gk = m - k ∧ i = .int .i64 k ∧ MvAt w wr #[.int .i64 l, .slice a m rc, .int .i64 v] (w.heap.size + 1 + 1) m (movedTo num R k))
  case atStart => exact ⟨0, Nat.zero_le _, rfl, rfl, HMV.out⟩
  case round =>
    obtain ⟨k, hk, hgk, rfl, hO⟩ := hrel
    have HGK : Hid (gk = m - k) := hgk
    have HO : Hid (MvAt w wr #[.int .i64 l, .slice a m rc, .int .i64 v] (w.heap.size + 1 + 1) m (movedTo num R k)) := hO
    clear hgk hO HMV
    by_cases hlt : k < m
    · obtain ⟨b, off, rfl, hcs⟩ : ∃ b off, a = some ⟨b, off, none⟩ ∧ ∀ i, i < R.length → w.cell? ⟨b, off + i, none⟩ = some (.int .i64 (R.getD i 0)) := by
        rcases HI.out with h | h
        · have := HM.out; rw [h] at this; simp at this; omega
        · exact h
      have hkR : k < R.length := by rw [← HM.out]; exact hlt
      have c0 := HO.out.grown.cell (hcs k hkR) (by simp)
      obtain ⟨hx0, hx1⟩ := HR.out _ (int_mem hkR)
      obtain ⟨y, hy⟩ : ∃ y : Nat, R.getD k 0 = (y : Int) := ⟨(R.getD k 0).toNat, by omega⟩
      have hyN : y < N := by omega
      rw [hy] at c0
      have n0 := HO.out.grown.cell (HN.out.cell y hyN) (by simp)
      have r0 := HO.out.row.cell k hlt
      have rf := HO.out.row.free k
      have HST : Hid (setN (movedTo num R k) k (num y) = movedTo num R (k + 1)) := by
        have := movedTo_succ num R k
        rw [hy] at this
        exact this
      have hk0 : (0 : Int) ≤ (k : Int) := by omega
      have hk1 : (k : Int) < (m : Int) := by omega
      have hy0 : (0 : Int) ≤ (y : Int) := by omega
      have hy1 : (y : Int) < (N : Int) := by omega
      obtain ⟨z, hz⟩ : ∃ z, z = num y := ⟨_, rfl⟩
      rw [← hz] at n0 HST
      obtain ⟨r, hr⟩ : ∃ r, r = movedTo num R k k := ⟨_, rfl⟩
      rw [← hr] at r0
      clear hcs hx0 hx1 hy hkR hz hr
      go_wp2_with fail
      go_roundg (m - (k + 1))
      case measure => have := HGK.out; omega
      case rel => exact ⟨k + 1, by omega, rfl, by go_num, by rw [← HST.out]; exact HO.out.set k z⟩
    · have hkn : m = k := by omega
      subst hkn
      obtain ⟨x, hx⟩ : ∃ x : Nat, l = (x : Int) := ⟨l.toNat, by omega⟩
      subst hx
      have hxN : x < N := by omega
      have hx0 : (0 : Int) ≤ (x : Int) := by omega
      have hx1 : (x : Int) < (N : Int) := by omega
      have n0 := HO.out.grown.cell (HN.out.cell x hxN) (by simp)
      obtain ⟨z, hz⟩ : ∃ z, z = num x := ⟨_, rfl⟩
      have HZ : Hid (z = num x) := hz
      rw [← hz] at n0
      obtain ⟨⟨p0, p1, p2⟩, _⟩ := box3 HO.out.box
      obtain ⟨⟨r0, r1, r2⟩, g0, g1, g2⟩ := box3 HO.out.res
      have hnb : nb < w.heap.size := HN.out.lt
      have hne1 : nb ≠ w.heap.size + 1 := by omega
      have hne2 : w.heap.size + 1 ≠ nb := by omega
      clear hl hz
      go_wp2_with fail
      go_region_held3 (fun x5 => x5.cell? ⟨w.heap.size, 0, none⟩ = some (.int .i64 (x : Int)) ∧ x5.cell? ⟨w.heap.size, 2, none⟩ = some (.int .i64 v) ∧ x5.cell? ⟨nb, x, none⟩ = some (.int .i64 z)) (go_keep) (fail)
      go_wp2_with fail
      have hv0 : (((wr.drew.setCell ⟨w.heap.size + 1, 0, none⟩ (.int .i64 z)).setCell ⟨w.heap.size + 1, 1, none⟩ (.slice (some ⟨w.heap.size + 1 + 1, 0, none⟩) m m)).setCell ⟨w.heap.size + 1, 2, none⟩ (.int .i64 v)).heap[w.heap.size + 1]? = some (.cells #[.int .i64 z, .slice (some ⟨w.heap.size + 1 + 1, 0, none⟩) m m, .int .i64 v] 45 (0, 0)) := by
        rw [heap_setCell_same _ _ _ _ _ _ (heap_setCell_same _ _ _ _ _ _ (heap_setCell_same _ _ _ _ _ _ (show wr.drew.heap[w.heap.size + 1]? = _ from HO.out.res)))]; rfl
      refine bodyPost_ret (v := .agg #[.int .i64 z, .slice (some ⟨w.heap.size + 1 + 1, 0, none⟩) m m, .int .i64 v]) (results_cell_row (fr := (0, 0)) rfl _ _ (w.heap.size + 1) 45 #[.int .i64 z, .slice (some ⟨w.heap.size + 1 + 1, 0, none⟩) m m, .int .i64 v] _ rfl hv0 Try.underlying45 rfl infoProd3) rfl ?_
      have G : wr.grownBy (((wr.drew.setCell ⟨w.heap.size + 1, 0, none⟩ (.int .i64 z)).setCell ⟨w.heap.size + 1, 1, none⟩ (.slice (some ⟨w.heap.size + 1 + 1, 0, none⟩) m m)).setCell ⟨w.heap.size + 1, 2, none⟩ (.int .i64 v)) (some (w.heap.size + 1)) := grown_then (grown_drewN wr 1) (grown_two (grown_two (grown_setCell _ _ _) (grown_setCell _ _ _)) (grown_setCell _ _ _))
      have hrow := (HO.out.row.at G (by omega)).owns (B := w.heap.size) (by omega) (by unfold maxLen; omega)
      have e1 := movedTo_all num R
      rw [← HM.out] at e1
      rw [e1] at hrow
      refine ⟨w.heap.size + 1 + 1, ?_, ?_, grown_at HO.out.grown G (by omega)⟩
      · rw [← HM.out, HZ.out]; simp
      · rw [← HM.out]; exact hrow

end Go.Proofs.Ytljlkmiaemkokaa

/-
  reach: the reduced grammar, pure and half made.
-/
namespace Go.Proofs.Ytljlkmiaemkokaa
open Go.RowKit Go.Maps Go.Shelf

/-! ### Pure -/
def cntU (g : Nat → Bool) (k : Nat) : Nat := ((List.range k).filter g).length
def namesTo (g : Nat → Bool) (ns : List ByteArray) (k : Nat) : List ByteArray := ⟨#[]⟩ :: ((List.range k).filter g).map fun i => ns.getD i ⟨#[]⟩
def numTo (tn : Nat) (g : Nat → Bool) (k : Nat) : Nat → Int := fun i => if i < tn then (i : Int) else if i - tn < k ∧ g (i - tn) = true then (tn : Int) + ((1 + cntU g (i - tn) : Nat) : Int) else 0
def numT (k : Nat) : Nat → Int := fun i => if i < k then (i : Int) else 0
def prOf (num : Nat → Int) (L : Nat → Int) (R : Nat → List Int) (V : Nat → Int) (j : Nat) : PR := ⟨num (L j).toNat, (R j).map fun x => num x.toNat, V j⟩
def prodsTo (tn : Nat) (num : Nat → Int) (st : Int) (L : Nat → Int) (R : Nat → List Int) (V : Nat → Int) (go : Nat → Bool) (k : Nat) : List PR := ⟨tn, [num st.toNat], 0⟩ :: ((List.range k).filter go).map (prOf num L R V)
def redGR (ts : List (ByteArray × Int)) (ns : List ByteArray) (lv : List Int) (tn nn n : Nat) (st : Int) (L : Nat → Int) (R : Nat → List Int) (V : Nat → Int) (g go : Nat → Bool) : GR :=
  ⟨ts, namesTo g ns nn, lv, numTo tn g nn st.toNat, prodsTo tn (numTo tn g nn) st L R V go n⟩

theorem namesTo_len (g : Nat → Bool) (ns : List ByteArray) (k : Nat) : (namesTo g ns k).length = 1 + cntU g k := by simp [namesTo, cntU]; omega
theorem namesTo_yes {g : Nat → Bool} {ns : List ByteArray} {k : Nat} (h : g k = true) : namesTo g ns (k + 1) = namesTo g ns k ++ [ns.getD k ⟨#[]⟩] := by
  unfold namesTo
  rw [List.range_succ, List.filter_append]
  simp [h]
theorem namesTo_no {g : Nat → Bool} {ns : List ByteArray} {k : Nat} (h : g k = false) : namesTo g ns (k + 1) = namesTo g ns k := by
  unfold namesTo
  rw [List.range_succ, List.filter_append]
  simp [h]
theorem cntU_le (g : Nat → Bool) (k : Nat) : cntU g k ≤ k := by
  unfold cntU
  have := List.length_filter_le g (List.range k)
  simpa using this
theorem numTo_yes {tn : Nat} {g : Nat → Bool} {k : Nat} (h : g k = true) : setN (numTo tn g k) (tn + k) ((tn : Int) + ((1 + cntU g k : Nat) : Int)) = numTo tn g (k + 1) := by
  funext i
  unfold setN numTo
  by_cases e : i = tn + k
  · subst e
    have e2 : tn + k - tn = k := by omega
    have e3 : ¬ tn + k < tn := by omega
    rw [if_pos rfl, if_neg e3, if_pos ⟨by omega, by rw [e2]; exact h⟩, e2]
  · rw [if_neg e]
    by_cases ht : i < tn
    · rw [if_pos ht, if_pos ht]
    · rw [if_neg ht, if_neg ht]
      by_cases h2 : i - tn < k ∧ g (i - tn) = true
      · rw [if_pos h2, if_pos ⟨by omega, h2.2⟩]
      · rw [if_neg h2, if_neg (fun h3 => h2 ⟨by omega, h3.2⟩)]
theorem numTo_no {tn : Nat} {g : Nat → Bool} {k : Nat} (h : g k = false) : numTo tn g (k + 1) = numTo tn g k := by
  funext i
  unfold numTo
  by_cases ht : i < tn
  · rw [if_pos ht, if_pos ht]
  · rw [if_neg ht, if_neg ht]
    by_cases h2 : i - tn < k ∧ g (i - tn) = true
    · rw [if_pos h2, if_pos ⟨by omega, h2.2⟩]
    · rw [if_neg h2, if_neg (fun h3 => h2 ⟨by
        have : i - tn ≠ k := fun e => by rw [e, h] at h3; exact absurd h3.2 (by simp)
        omega, h3.2⟩)]
theorem numT_succ (k : Nat) : setN (numT k) k (k : Int) = numT (k + 1) := by
  funext i
  unfold setN numT
  by_cases e : i = k
  · subst e; simp
  · rw [if_neg e]
    by_cases h : i < k
    · rw [if_pos h, if_pos (by omega)]
    · rw [if_neg h, if_neg (by omega)]
theorem numT_all (tn : Nat) (g : Nat → Bool) : numT tn = numTo tn g 0 := by
  funext i
  unfold numT numTo
  by_cases h : i < tn
  · rw [if_pos h, if_pos h]
  · rw [if_neg h, if_neg h, if_neg (by omega)]
theorem prodsTo_yes {tn : Nat} {num : Nat → Int} {st : Int} {L : Nat → Int} {R : Nat → List Int} {V : Nat → Int} {go : Nat → Bool} {k : Nat} (h : go k = true) : prodsTo tn num st L R V go (k + 1) = prodsTo tn num st L R V go k ++ [prOf num L R V k] := by
  unfold prodsTo
  rw [List.range_succ, List.filter_append]
  simp [h]
theorem prodsTo_no {tn : Nat} {num : Nat → Int} {st : Int} {L : Nat → Int} {R : Nat → List Int} {V : Nat → Int} {go : Nat → Bool} {k : Nat} (h : go k = false) : prodsTo tn num st L R V go (k + 1) = prodsTo tn num st L R V go k := by
  unfold prodsTo
  rw [List.range_succ, List.filter_append]
  simp [h]
theorem prodsTo_len {tn : Nat} {num : Nat → Int} {st : Int} {L : Nat → Int} {R : Nat → List Int} {V : Nat → Int} {go : Nat → Bool} (k : Nat) : (prodsTo tn num st L R V go k).length ≤ k + 1 := by
  unfold prodsTo
  have := List.length_filter_le go (List.range k)
  simp at this ⊢
  exact this

/-! ### A grammar that is being made, in box cb -/
structure GmAt (X : World) (B cb : Nat) (vt vn vl vp : Value) (st : Int) (ts : List (ByteArray × Int)) (ns : List ByteArray) (lv : List Int) (ps : List PR) : Prop where
  box : X.heap[cb]? = some (.cells #[vt, vn, vl, .int .i64 st, vp] 27 (0, 0))
  tr : X.ownsRow B 57 2 vt ts.length (tmsL ts)
  nr : X.ownsRow B 9 1 vn ns.length (ns.map Value.string)
  lr : X.ownsRow B 3 1 vl lv.length (lv.map (Value.int .i64))
  pr : ∃ rs : List Value, rs.length = ps.length ∧ X.ownsRow B 45 3 vp ps.length ((ps.zip rs).flatMap fun x => prL x.1 x.2) ∧
    ∀ i, i < ps.length → X.ownsRow B 3 1 (rs.getD i undef) (ps.getD i ⟨0, [], 0⟩).right.length ((ps.getD i ⟨0, [], 0⟩).right.map (Value.int .i64))

section
variable {X Y : World} {B cb : Nat} {vt vn vl vp : Value} {st : Int} {ts : List (ByteArray × Int)} {ns : List ByteArray} {lv : List Int} {ps : List PR}
theorem GmAt.lt (h : GmAt X B cb vt vn vl vp st ts ns lv ps) : cb < X.heap.size := (Array.getElem?_eq_some_iff.1 h.box).1
theorem GmAt.kept (h : GmAt X B cb vt vn vl vp st ts ns lv ps) (hg : X.grownBy Y none) : GmAt Y B cb vt vn vl vp st ts ns lv ps := by
  obtain ⟨rs, e1, e2, e3⟩ := h.pr
  exact ⟨(hg.block _ h.lt (by simp)).trans h.box, keep0 h.tr hg, keep0 h.nr hg, keep0 h.lr hg, rs, e1, keep0 e2 hg, fun i hi => keep0 (e3 i hi) hg⟩
theorem GmAt.cells (h : GmAt X B cb vt vn vl vp st ts ns lv ps) : (X.cell? ⟨cb, 0, none⟩ = some vt ∧ X.cell? ⟨cb, 1, none⟩ = some vn ∧ X.cell? ⟨cb, 2, none⟩ = some vl ∧ X.cell? ⟨cb, 3, none⟩ = some (.int .i64 st) ∧ X.cell? ⟨cb, 4, none⟩ = some vp) ∧ ∀ i, X.frozen? ⟨cb, i, none⟩ = false := by
  refine ⟨⟨?_, ?_, ?_, ?_, ?_⟩, fun i => frozen_of_row _ _ _ _ _ h.box⟩ <;> rw [cell_of_row _ _ _ _ _ _ h.box] <;> rfl
/-- A store into the box. -/
theorem GmAt.boxed {vt' vn' vl' vp' : Value} {st' : Int} {i : Nat} {u : Value} (hbox : X.heap[cb]? = some (.cells #[vt, vn, vl, .int .i64 st, vp] 27 (0, 0))) (hset : (#[vt, vn, vl, .int .i64 st, vp] : Array Value).setIfInBounds i u = #[vt', vn', vl', .int .i64 st', vp'])
    (tr : X.ownsRow B 57 2 vt' ts.length (tmsL ts)) (nr : X.ownsRow B 9 1 vn' ns.length (ns.map Value.string)) (lr : X.ownsRow B 3 1 vl' lv.length (lv.map (Value.int .i64)))
    (rs : List Value) (e1 : rs.length = ps.length) (e2 : X.ownsRow B 45 3 vp' ps.length ((ps.zip rs).flatMap fun x => prL x.1 x.2)) (e3 : ∀ i, i < ps.length → X.ownsRow B 3 1 (rs.getD i undef) (ps.getD i ⟨0, [], 0⟩).right.length ((ps.getD i ⟨0, [], 0⟩).right.map (Value.int .i64))) :
    GmAt (X.setCell ⟨cb, i, none⟩ u) B cb vt' vn' vl' vp' st' ts ns lv ps := by
  have hst := grown_setCell (w := X) cb i u
  exact ⟨by rw [heap_setCell_same X _ _ _ _ _ hbox, hset], tr.kept hst (owns_nebox tr hbox (by decide)), nr.kept hst (owns_nebox nr hbox (by decide)), lr.kept hst (owns_nebox lr hbox (by decide)), rs, e1, e2.kept hst (owns_nebox e2 hbox (by decide)), fun j hj => (e3 j hj).kept hst (owns_nebox (e3 j hj) hbox (by decide))⟩
theorem GmAt.boxKept {e s n : Nat} {v : Value} {xs : List Value} (h : GmAt X B cb vt vn vl vp st ts ns lv ps) (hv : X.ownsRow B e s v n xs) (he : e ≠ 27) (hg : X.grownBy Y v.ownBlock) : Y.heap[cb]? = some (.cells #[vt, vn, vl, .int .i64 st, vp] 27 (0, 0)) := by
  refine (hg.block _ h.lt fun e1 => ?_).trans h.box
  rcases owns_nebox hv h.box he with h1 | h1
  · rw [h1] at e1; cases e1
  · exact h1 e1.symm
/-- The names, set. -/
theorem GmAt.setN {v' : Value} {ns' : List ByteArray} (h : GmAt X B cb vt vn vl vp st ts ns lv ps) (hg : X.grownBy Y vn.ownBlock) (ho : Y.ownsRow B 9 1 v' ns'.length (ns'.map Value.string)) : GmAt (Y.setCell ⟨cb, 1, none⟩ v') B cb vt v' vl vp st ts ns' lv ps := by
  obtain ⟨rs, e1, e2, e3⟩ := h.pr
  exact GmAt.boxed (h.boxKept h.nr (by decide) hg) rfl (h.tr.kept hg (owns_ne h.tr h.nr (by decide))) ho (h.lr.kept hg (owns_ne h.lr h.nr (by decide))) rs e1 (e2.kept hg (owns_ne e2 h.nr (by decide))) (fun i hi => (e3 i hi).kept hg (owns_ne (e3 i hi) h.nr (by decide)))
theorem GmAt.setStart {x : Int} (h : GmAt X B cb vt vn vl vp st ts ns lv ps) : GmAt (X.setCell ⟨cb, 3, none⟩ (.int .i64 x)) B cb vt vn vl vp x ts ns lv ps := by
  obtain ⟨rs, e1, e2, e3⟩ := h.pr
  exact GmAt.boxed h.box rfl h.tr h.nr h.lr rs e1 e2 e3
/-- A production more: its right side lies in a row of its own. -/
theorem GmAt.pushP {v' v : Value} {p : PR} (h : GmAt X B cb vt vn vl vp st ts ns lv ps) (hg : X.grownBy Y vp.ownBlock) (hv : X.ownsRow B 3 1 v p.right.length (p.right.map (Value.int .i64)))
    (rs : List Value) (e1 : rs.length = ps.length) (e2 : X.ownsRow B 45 3 vp ps.length ((ps.zip rs).flatMap fun x => prL x.1 x.2)) (e3 : ∀ i, i < ps.length → X.ownsRow B 3 1 (rs.getD i undef) (ps.getD i ⟨0, [], 0⟩).right.length ((ps.getD i ⟨0, [], 0⟩).right.map (Value.int .i64)))
    (ho : Y.ownsRow B 45 3 v' (ps.length + 1) (((ps.zip rs).flatMap fun x => prL x.1 x.2) ++ prL p v)) : GmAt (Y.setCell ⟨cb, 4, none⟩ v') B cb vt vn vl v' st ts ns lv (ps ++ [p]) := by
  have e : (((ps ++ [p]).zip (rs ++ [v])).flatMap fun x => prL x.1 x.2) = ((ps.zip rs).flatMap fun x => prL x.1 x.2) ++ prL p v := by
    rw [List.zip_append e1.symm, List.flatMap_append]
    simp
  refine GmAt.boxed (h.boxKept e2 (by decide) hg) rfl (h.tr.kept hg (owns_ne h.tr e2 (by decide))) (h.nr.kept hg (owns_ne h.nr e2 (by decide))) (h.lr.kept hg (owns_ne h.lr e2 (by decide))) (rs ++ [v]) (by simp [e1]) (by rw [e, show (ps ++ [p]).length = ps.length + 1 by simp]; exact ho) (fun i hi => ?_)
  by_cases hi' : i < ps.length
  · have a1 : (rs ++ [v]).getD i undef = rs.getD i undef := by simp [List.getD, List.getElem?_append_left (show i < rs.length by omega)]
    have a2 : (ps ++ [p]).getD i ⟨0, [], 0⟩ = ps.getD i ⟨0, [], 0⟩ := by simp [List.getD, List.getElem?_append_left hi']
    rw [a1, a2]
    exact (e3 i hi').kept hg (owns_ne (e3 i hi') e2 (by decide))
  · have hie : i = ps.length := by simp at hi; omega
    have a1 : (rs ++ [v]).getD i undef = v := by simp [List.getD, hie, ← e1]
    have a2 : (ps ++ [p]).getD i ⟨0, [], 0⟩ = p := by simp [List.getD, hie]
    rw [a1, a2]
    exact hv.kept hg (owns_ne hv e2 (by decide))
/-- A number is written elsewhere, while there are no productions. -/
theorem GmAt.elsewhere {q : Nat} {cs : Array Value} (h : GmAt X B cb vt vn vl vp st ts ns lv []) (hq : X.heap[q]? = some (.cells cs 3 (0, 0))) (hl : vl.ownBlock ≠ some q) (hg : X.grownBy Y (some q)) : GmAt Y B cb vt vn vl vp st ts ns lv [] := by
  obtain ⟨rs, e1, e2, e3⟩ := h.pr
  have hne : cb ≠ q := by
    rintro rfl
    rw [h.box] at hq
    simp at hq
  exact ⟨(hg.block _ h.lt (by simpa using hne)).trans h.box, h.tr.kept hg (owns_nebox h.tr hq (by decide)), h.nr.kept hg (owns_nebox h.nr hq (by decide)), h.lr.kept hg (.inr hl), rs, e1, e2.kept hg (owns_nebox e2 hq (by decide)), fun i hi => absurd hi (Nat.not_lt_zero i)⟩
theorem flat_prodRow (ps : List PR) (rs : List Value) (h : rs.length = ps.length) : ((ps.zip rs).flatMap fun x => prL x.1 x.2) = prodRow ps.length (fun i => (ps.getD i ⟨0, [], 0⟩).left) (fun i => rs.getD i undef) (fun i => (ps.getD i ⟨0, [], 0⟩).level) := by
  induction ps generalizing rs with
  | nil => simp [prodRow]
  | cons p ps ih =>
    cases rs with
    | nil => simp at h
    | cons r rs =>
      have := ih rs (by simpa using h)
      rw [List.zip_cons_cons, List.flatMap_cons, this]
      unfold prodRow
      rw [List.length_cons, List.range_succ_eq_map, List.flatMap_cons, List.flatMap_map]
      simp [prL]
/-- What is made is a grammar in new memory. -/
theorem GmAt.gram (h : GmAt X B cb vt vn vl vp st ts ns lv ps) : GramNew X B ⟨ts, ns, lv, st, ps⟩ vt vn vl vp := by
  obtain ⟨rs, e1, e2, e3⟩ := h.pr
  rw [flat_prodRow ps rs e1] at e2
  exact ⟨h.tr, h.nr, h.lr, fun i => rs.getD i undef, e2, e3⟩
end

end Go.Proofs.Ytljlkmiaemkokaa

/-
  reach: reduced.
-/
namespace Go.Proofs.Ytljlkmiaemkokaa
open Go.RowKit Go.Maps Go.Shelf

attribute [local go_sem] Oper.semAt_some

/-- While a grammar is reduced: the boxes of the grammar, the use and the result, the numbers. -/
structure RdAt (w X : World) (gv uv : Array Value) (nb N : Nat) (num : Nat → Int) : Prop where
  grown : w.grownBy X none
  gbox : X.heap[w.heap.size]? = some (.cells gv 27 (0, 0))
  ubox : X.heap[w.heap.size + 1]? = some (.cells uv 53 (0, 0))
  rbox : X.heap[w.heap.size + 1 + 1]? = some (.cells #[.slice none 0 0, .slice none 0 0, .slice none 0 0, .int .i64 0, .slice none 0 0] 27 (0, 0))
  nums : NumAt X nb N num
  lo : w.heap.size + 3 ≤ nb
section
variable {w X Y : World} {gv uv : Array Value} {nb N : Nat} {num : Nat → Int}
theorem RdAt.kept (h : RdAt w X gv uv nb N num) (hg : X.grownBy Y none) : RdAt w Y gv uv nb N num :=
  ⟨grown_trans h.grown hg, (boxKept h.gbox hg).out, (boxKept h.ubox hg).out, (boxKept h.rbox hg).out, h.nums.kept hg, h.lo⟩
theorem RdAt.at {b : Nat} (h : RdAt w X gv uv nb N num) (hg : X.grownBy Y (some b)) (hb : w.heap.size + 3 ≤ b) (hn : nb ≠ b) : RdAt w Y gv uv nb N num :=
  ⟨grown_at h.grown hg (by omega), (hg.block _ (Array.getElem?_eq_some_iff.1 h.gbox).1 (by simp; omega)).trans h.gbox, (hg.block _ (Array.getElem?_eq_some_iff.1 h.ubox).1 (by simp; omega)).trans h.ubox, (hg.block _ (Array.getElem?_eq_some_iff.1 h.rbox).1 (by simp; omega)).trans h.rbox, h.nums.at hg hn, h.lo⟩
theorem RdAt.setNum (h : RdAt w X gv uv nb N num) (i : Nat) (v : Int) : RdAt w (X.setCell ⟨nb, i, none⟩ (.int .i64 v)) gv uv nb N (setN num i v) :=
  have hg : X.grownBy (X.setCell ⟨nb, i, none⟩ (.int .i64 v)) (some nb) := grown_setCell _ _ _
  have hb := h.lo
  ⟨grown_at h.grown hg (by omega), (hg.block _ (Array.getElem?_eq_some_iff.1 h.gbox).1 (by simp; omega)).trans h.gbox, (hg.block _ (Array.getElem?_eq_some_iff.1 h.ubox).1 (by simp; omega)).trans h.ubox, (hg.block _ (Array.getElem?_eq_some_iff.1 h.rbox).1 (by simp; omega)).trans h.rbox, h.nums.set i v, h.lo⟩
theorem RdAt.g (h : RdAt w X gv uv nb N num) (k : Nat) (v : Value) (hv : gv[k]? = some v) : X.cell? ⟨w.heap.size, k, none⟩ = some v := by rw [cell_of_row _ _ _ _ _ _ h.gbox]; exact hv
theorem RdAt.u (h : RdAt w X gv uv nb N num) (k : Nat) (v : Value) (hv : uv[k]? = some v) : X.cell? ⟨w.heap.size + 1, k, none⟩ = some v := by rw [cell_of_row _ _ _ _ _ _ h.ubox]; exact hv
theorem RdAt.ne {b : Nat} {cs : Array Value} {t : TypeId} (h : RdAt w X gv uv nb N num) (hb : X.heap[b]? = some (.cells cs t (0, 0))) (ht : t ≠ 3) : nb ≠ b := by
  rintro rfl
  have := h.nums
  unfold NumAt ValAt at this
  rw [hb] at this
  simp at this
  exact ht this.2
/-- A row of another kind has grown. -/
theorem RdAt.row {B e s n : Nat} {v : Value} {xs : List Value} (h : RdAt w X gv uv nb N num) (ho : X.ownsRow B e s v n xs) (hB : w.heap.size + 3 ≤ B) (he : e ≠ 3) (hg : X.grownBy Y v.ownBlock) : RdAt w Y gv uv nb N num := by
  cases hv : v.ownBlock with
  | none => rw [hv] at hg; exact h.kept hg
  | some q =>
    have h1 := (ho.lt q hv).1
    have h2 := owns_nebox ho (show X.heap[nb]? = some (.cells _ 3 (0, 0)) from h.nums) he
    rw [hv] at hg h2
    exact h.at hg (by omega) (fun e1 => by
      rcases h2 with h2 | h2
      · cases h2
      · exact h2 (by rw [e1]))
end
theorem grown_any {w w' : World} (o : Option Nat) (h : w.grownBy w' none) : w.grownBy w' o := ⟨h.os, h.tape, h.output, h.size, fun k hk _ => h.block k hk (by simp)⟩
theorem GAt.two {w : World} {ta na la pa : Option Addr} {tc nc lc pc : Nat} {ts : List (ByteArray × Int)} {ns : List ByteArray} {lv : List Int} {n : Nat} {L : Nat → Int} {R : Nat → List Int} {ra : Nat → Option Addr} {rc : Nat → Nat} {V : Nat → Int} (h : GAt w ta na la pa tc nc lc pc ts ns lv n L R ra rc V) : GAt w ta none la none tc 0 lc 0 ts [] lv 0 L R ra rc V :=
  ⟨h.terms, .inl rfl, h.levels, .inl rfl, h.tcap, Nat.le_refl _, Nat.le_refl _, fun _ => ⟨rfl, rfl⟩, fun _ => ⟨rfl, rfl⟩, h.tlen, by simp, h.llen, by omega⟩

theorem GramNew.off {X Y : World} {B B' k : Nat} {G : GR} {vt vn vl vp : Value} (h : GramNew X B' G vt vn vl vp) (hk : B' = k + 1) (hg : X.grownBy Y (some k)) (hB : B ≤ k) : GramNew Y B G vt vn vl vp := by
  subst hk
  obtain ⟨rg, p1, p2⟩ := h.prods
  exact ⟨owns_off h.terms hg hB, owns_off h.nons hg hB, owns_off h.levels hg hB, rg, owns_off p1 hg hB, fun i hi => owns_off (p2 i hi) hg hB⟩

theorem owns_past {X Y : World} {B B' e s n k : Nat} {v : Value} {xs : List Value} (h : X.ownsRow B' e s v n xs) (hg : X.grownBy Y (some k)) (hk : k < B') (hB : B ≤ B') : Y.ownsRow B e s v n xs := by
  refine owns_lower (h.kept hg ?_) hB
  cases hv : v.ownBlock with
  | none => exact .inl rfl
  | some g => have := (h.lt g hv).1; exact .inr (by simp; omega)
theorem GramNew.off' {X Y : World} {B B' k : Nat} {G : GR} {vt vn vl vp : Value} (h : GramNew X B' G vt vn vl vp) (hg : X.grownBy Y (some k)) (hk : k < B') (hB : B ≤ B') : GramNew Y B G vt vn vl vp := by
  obtain ⟨rg, p1, p2⟩ := h.prods
  exact ⟨owns_past h.terms hg hk hB, owns_past h.nons hg hk hB, owns_past h.levels hg hk hB, rg, owns_past p1 hg hk hB, fun i hi => owns_past (p2 i hi) hg hk hB⟩

/-- The added production, in rows of its own. -/
theorem GmAt.firstP {X : World} {B cb : Nat} {vt vn vl vp : Value} {st : Int} {ts : List (ByteArray × Int)} {ns : List ByteArray} {lv : List Int} {l z : Int} (h : GmAt X B cb vt vn vl vp st ts ns lv []) (hB : B ≤ X.heap.size) :
    GmAt (((X.alloc (.cells #[.int .i64 z] 3)).alloc (.cells #[.int .i64 l, .slice (some ⟨X.heap.size, 0, none⟩) 1 1, .int .i64 0] 45)).setCell ⟨cb, 4, none⟩ (.slice (some ⟨X.heap.size + 1, 0, none⟩) 1 1)) B cb vt vn vl (.slice (some ⟨X.heap.size + 1, 0, none⟩) 1 1) st ts ns lv [⟨l, [z], 0⟩] := by
  have b1 := heap_alloc_last X (.cells #[.int .i64 z] 3)
  have g1 := World.grownBy_alloc X (.cells #[.int .i64 z] 3) none
  have b2 := heap_alloc_last (X.alloc (.cells #[.int .i64 z] 3)) (.cells #[.int .i64 l, .slice (some ⟨X.heap.size, 0, none⟩) 1 1, .int .i64 0] 45)
  have g2 := World.grownBy_alloc (X.alloc (.cells #[.int .i64 z] 3)) (.cells #[.int .i64 l, .slice (some ⟨X.heap.size, 0, none⟩) 1 1, .int .i64 0] 45) none
  rw [World.size_alloc] at b2
  have hK := (h.kept g1).kept g2
  refine GmAt.boxed hK.box rfl hK.tr hK.nr hK.lr [.slice (some ⟨X.heap.size, 0, none⟩) 1 1] rfl ?_ (fun i hi => ?_)
  · exact ⟨rfl, .inr ⟨X.heap.size + 1, 1, _, rfl, by omega, b2, Nat.le_refl _, by unfold maxLen; omega, rfl, rfl⟩⟩
  · have : i = 0 := by simpa using hi
    subst this
    exact ⟨rfl, .inr ⟨X.heap.size, 1, _, rfl, hB, (g2.block _ (Array.getElem?_eq_some_iff.1 b1).1 (by simp)).trans b1, Nat.le_refl _, by unfold maxLen; omega, rfl, rfl⟩⟩

end Go.Proofs.Ytljlkmiaemkokaa
