import Derived.Test.YtljlkmiaemkokaaQfgfolbpnmmak
import Derived.Test.YtljlkmiaemkokaaQjfbjlfkilcge

/-
  reach: the document's Fits; rows of marks.
-/
namespace Go.Proofs.Ytljlkmiaemkokaa
open Go.RowKit Go.Maps Go.Shelf

attribute [local go_sem] Oper.semAt_some

/-- A row of marks, whole in block k. -/
def boolsL (n : Nat) (f : Nat → Bool) : List Value := (List.range n).map fun i => Value.bool (f i)
def BoolAt (w : World) (k n : Nat) (f : Nat → Bool) : Prop := w.heap[k]? = some (.cells (boolsL n f).toArray 4 (0, 0))
theorem boolsL_length (n : Nat) (f : Nat → Bool) : (boolsL n f).length = n := by simp [boolsL]
theorem BoolAt.cell {w : World} {k n : Nat} {f : Nat → Bool} (h : BoolAt w k n f) (i : Nat) (hi : i < n) : w.cell? ⟨k, i, none⟩ = some (.bool (f i)) := by
  rw [cell_of_row _ _ _ _ _ _ h]; simp [boolsL, hi]
theorem BoolAt.free {w : World} {k n : Nat} {f : Nat → Bool} (h : BoolAt w k n f) (i : Nat) : w.frozen? ⟨k, i, none⟩ = false := frozen_of_row _ _ _ _ _ h
theorem BoolAt.lt {w : World} {k n : Nat} {f : Nat → Bool} (h : BoolAt w k n f) : k < w.heap.size := (Array.getElem?_eq_some_iff.1 h).1
theorem BoolAt.kept {w w' : World} {k n : Nat} {f : Nat → Bool} (h : BoolAt w k n f) (hg : w.grownBy w' none) : BoolAt w' k n f := (hg.block k h.lt (by simp)).trans h
theorem BoolAt.at {w w' : World} {k c n : Nat} {f : Nat → Bool} (h : BoolAt w k n f) (hg : w.grownBy w' (some c)) (hne : k ≠ c) : BoolAt w' k n f := (hg.block k h.lt (by simpa using hne)).trans h
/-- The marks with one more. -/
def mark (f : Nat → Bool) (x : Nat) (b : Bool) : Nat → Bool := fun i => if i = x then b else f i
theorem BoolAt.set {w : World} {k n : Nat} {f : Nat → Bool} (h : BoolAt w k n f) (x : Nat) (b : Bool) : BoolAt (w.setCell ⟨k, x, none⟩ (.bool b)) k n (mark f x b) := by
  unfold BoolAt
  rw [heap_setCell_same _ _ _ _ _ _ h]
  congr 2
  apply Array.ext'
  apply List.ext_getElem?
  intro i
  simp only [Array.toList_setIfInBounds, boolsL, mark, List.getElem?_set, List.getElem?_map]
  by_cases hi : i < n
  · by_cases e : x = i
    · subst e; simp [hi]
    · have e2 : ¬ i = x := fun h => e h.symm
      simp [e, e2, hi]
  · by_cases e : x = i
    · subst e; simp [hi]
    · simp [e, hi]

theorem int_mem {l : List Int} {k : Nat} (h : k < l.length) : l.getD k 0 ∈ l := by
  rw [List.getD_eq_getElem?_getD, List.getElem?_eq_getElem h, Option.getD_some]; exact List.getElem_mem h

/-- Are all nonterminals of a row marked? -/
def fitsP (tn : Nat) (f : Nat → Bool) (l : List Int) : Prop := ∀ x ∈ l, (tn : Int) ≤ x → f (x - tn).toNat = true

set_option maxRecDepth 100000 in
set_option maxHeartbeats 1000000 in
theorem rfits_any (ta na la pa ra : Option Addr) (tn nn ln n tc nc lc pc rc km : Nat) (st : Int) (f : Nat → Bool) (l : List Int) (w : World) (hB : BoolAt w km nn f) (hl : IntsAt w ra l) (hlen : l.length ≤ 17592186044416) (hnn : nn ≤ 1000) (hx : ∀ x ∈ l, 0 ≤ x ∧ x < ((tn + nn : Nat) : Int)) (r : Bool) (hr : r = true ↔ fitsP tn f l) :
    Calls Try.prog 35 #[.agg #[.slice ta tn tc, .slice na nn nc, .slice la ln lc, .int .i64 st, .slice pa n pc], .slice (some ⟨km, 0, none⟩) nn nn, .slice ra l.length rc] w fun e w' => e = .returned (.bool r) ∧ w.grownBy w' none := by
  have HB : Hid (BoolAt w km nn f) := hB
  have HL : Hid (IntsAt w ra l) := hl
  have HXX : Hid (∀ x ∈ l, 0 ≤ x ∧ x < ((tn + nn : Nat) : Int)) := hx
  have HR : Hid (r = true ↔ fitsP tn f l) := hr
  have HX0 : Hid (PhAt w (w.alloc (.cells #[.slice ta tn tc, .slice na nn nc, .slice la ln lc, .int .i64 st, .slice pa n pc] 27)) w.heap.size #[.slice ta tn tc, .slice na nn nc, .slice la ln lc, .int .i64 st, .slice pa n pc]) := ⟨World.grownBy_alloc _ _ none, heap_alloc_last w _⟩
  clear hB hl hx hr
  obtain ⟨m, hm⟩ : ∃ m, m = l.length := ⟨_, rfl⟩
  rw [← hm] at hlen ⊢
  have HM : Hid (m = l.length) := hm
  clear hm
  go_enter Try.func35, Try.ntmps35
  go_wp2_with fail
  go_loopg [7] m (fun gk i wr => ∃ k : Nat, k ≤ m ∧ gk = m - k ∧ i = .int .i64 k ∧ PhAt w wr w.heap.size #[.slice ta tn tc, .slice na nn nc, .slice la ln lc, .int .i64 st, .slice pa n pc] ∧ ∀ j, j < k → (tn : Int) ≤ l.getD j 0 → f (l.getD j 0 - tn).toNat = true)
  case atStart => exact ⟨0, Nat.zero_le _, rfl, rfl, HX0.out, fun j h1 => by omega⟩
  case round =>
    obtain ⟨k, hk, hgk, rfl, hX, hall⟩ := hrel
    have HX : Hid (PhAt w wr w.heap.size #[.slice ta tn tc, .slice na nn nc, .slice la ln lc, .int .i64 st, .slice pa n pc]) := hX
    have HA : Hid (∀ j, j < k → (tn : Int) ≤ l.getD j 0 → f (l.getD j 0 - tn).toNat = true) := hall
    have HGK : Hid (gk = m - k) := hgk
    clear hX hall hgk HX0
    obtain ⟨m0, m1, m2, m3, m4⟩ := HX.out.cells
    by_cases hlt : k < m
    · obtain ⟨b, off, rfl, hcs⟩ : ∃ b off, ra = some ⟨b, off, none⟩ ∧ ∀ i, i < l.length → w.cell? ⟨b, off + i, none⟩ = some (.int .i64 (l.getD i 0)) := by
        rcases HL.out with h | h
        · have := HM.out; rw [h] at this; simp at this; omega
        · exact h
      have c0 := HX.out.grown.cell (hcs k (by rw [← HM.out]; exact hlt)) (by simp)
      have hxx := HXX.out _ (int_mem (by rw [← HM.out]; exact hlt) : l.getD k 0 ∈ l)
      have HST : Hid (((tn : Int) ≤ l.getD k 0 → f (l.getD k 0 - tn).toNat = true) → ∀ j, j < k + 1 → (tn : Int) ≤ l.getD j 0 → f (l.getD j 0 - tn).toNat = true) := fun h j hj => by
        by_cases e : j = k
        · rw [e]; exact h
        · exact HA.out j (by omega)
      have HNO : Hid (¬ ((tn : Int) ≤ l.getD k 0 → f (l.getD k 0 - tn).toNat = true) → r = false) := fun h => Bool.eq_false_iff.2 fun hh => h (HR.out.1 hh _ (int_mem (by rw [← HM.out]; exact hlt)))
      generalize l.getD k 0 = x at c0 hxx HST HNO
      clear hcs
      obtain ⟨y, rfl⟩ := Int.eq_ofNat_of_zero_le hxx.1
      have hyn : y < tn + nn := by omega
      clear hxx
      have hk0 : (0 : Int) ≤ (k : Int) := by omega
      have hk1 : (k : Int) < (m : Int) := by omega
      by_cases hq : tn ≤ y
      · obtain ⟨v, hvy⟩ : ∃ v, y = tn + v := ⟨y - tn, by omega⟩
        have hv : v < nn := by omega
        have b0 := (HB.out.kept HX.out.grown).cell v hv
        have ev : ((y : Int) - (tn : Int)).toNat = v := by omega
        rw [ev] at HST HNO
        have d1 : decide ((tn : Int) ≤ (y : Int)) = true := decide_eq_true (by omega)
        have d1n : decide (tn ≤ y) = true := decide_eq_true hq
        have d2 : (y : Int) - (tn : Int) = (v : Int) := by omega
        have hv0 : (0 : Int) ≤ (v : Int) := by omega
        have hv1 : (v : Int) < (nn : Int) := by omega
        have d3 : IntKind.i64.wrap (v : Int) = (v : Int) := by rw [IntKind.wrap_i64]; omega
        have HQ : Hid (tn ≤ y) := hq
        clear ev hvy hq
        cases hfv : f v with
        | true =>
          rw [hfv] at b0
          have HFV : Hid (f v = true) := hfv
          clear hfv
          go_wp2_with fail
          go_quiet (fail)
          go_wp2_with fail
          go_roundg (m - (k + 1))
          case measure => have := HGK.out; omega
          case rel => exact ⟨k + 1, by omega, rfl, by go_num, HX.out.kept (grown_drewN _ _), HST.out (fun _ => HFV.out)⟩
        | false =>
          rw [hfv] at b0
          have hf := HNO.out (fun h => by have := h (by have := HQ.out; omega); rw [hfv] at this; cases this)
          clear hfv
          go_wp2_with fail
          go_quiet (fail)
          go_wp2_with fail
          go_ret
          exact ⟨by first | rfl | (rw [hf]; rfl), grown_trans HX.out.grown (grown_drewN _ _)⟩
      · have d1 : decide ((tn : Int) ≤ (y : Int)) = false := decide_eq_false (by omega)
        have d1n : decide (tn ≤ y) = false := decide_eq_false hq
        have HQ : Hid (¬ tn ≤ y) := hq
        clear hq
        go_wp2_with fail
        go_quiet (fail)
        go_wp2_with fail
        go_roundg (m - (k + 1))
        case measure => have := HGK.out; omega
        case rel => exact ⟨k + 1, by omega, rfl, by go_num, HX.out.kept (grown_drewN _ _), HST.out (fun h => absurd (by omega) HQ.out)⟩
    · have hkm : k = m := by omega
      subst hkm
      have hf : r = true := HR.out.2 fun x hx hle => by
        obtain ⟨i, hi, rfl⟩ := List.getElem_of_mem hx
        have := HA.out i (by rw [HM.out]; exact hi)
        rw [List.getD_eq_getElem?_getD, List.getElem?_eq_getElem hi, Option.getD_some] at this
        exact this hle
      go_wp2_with fail
      go_ret
      exact ⟨by first | rfl | (rw [hf]; rfl), HX.out.grown⟩

end Go.Proofs.Ytljlkmiaemkokaa

/-
  reach, pure: rounds of steps until a round turns nothing.
-/
namespace Go.Proofs.Ytljlkmiaemkokaa

section
variable {σ : Type} (step : Nat → σ → σ) (chg : Nat → σ → Bool)
/-- The first n steps of a round. -/
def rnd : Nat → σ → σ
  | 0, s => s
  | n + 1, s => step n (rnd n s)
/-- Did one of them turn anything? -/
def rchg : Nat → σ → Bool
  | 0, _ => false
  | n + 1, s => rchg n s || chg n (rnd step n s)
/-- So many rounds. -/
def itr (n : Nat) : Nat → σ → σ
  | 0, s => s
  | t + 1, s => rnd step n (itr n t s)
/-- What rounds come to, once one has turned nothing. -/
def Fix (n : Nat) (s0 F : σ) : Prop := ∃ t, F = itr step n t s0 ∧ rchg step chg n F = false

theorem rnd_same (h : ∀ k s, chg k s = false → step k s = s) (s : σ) : ∀ n, rchg step chg n s = false → rnd step n s = s
  | 0, _ => rfl
  | n + 1, hn => by
    simp only [rchg, Bool.or_eq_false_iff] at hn
    have e := rnd_same h s n hn.1
    simp only [rnd]
    rw [h n _ hn.2, e]

theorem itr_stay (h : ∀ k s, chg k s = false → step k s = s) (n : Nat) (s0 : σ) (t : Nat) (hf : rchg step chg n (itr step n t s0) = false) : ∀ d, itr step n (t + d) s0 = itr step n t s0
  | 0 => rfl
  | d + 1 => by
    show rnd step n (itr step n (t + d) s0) = _
    rw [itr_stay h n s0 t hf d]
    exact rnd_same step chg h _ n hf

theorem Fix.unique (h : ∀ k s, chg k s = false → step k s = s) {n : Nat} {s0 F F' : σ} (h1 : Fix step chg n s0 F) (h2 : Fix step chg n s0 F') : F = F' := by
  obtain ⟨t, rfl, f1⟩ := h1
  obtain ⟨t', rfl, f2⟩ := h2
  rcases Nat.le_total t t' with hle | hle
  · obtain ⟨d, rfl⟩ := Nat.le.dest hle
    exact (itr_stay step chg h n s0 t f1 d).symm
  · obtain ⟨d, rfl⟩ := Nat.le.dest hle
    exact itr_stay step chg h n s0 t' f2 d
end

/-- How many of the first n are not marked. -/
def un : Nat → (Nat → Bool) → Nat
  | 0, _ => 0
  | n + 1, f => un n f + (if f n then 0 else 1)
theorem un_out (f : Nat → Bool) (x : Nat) (b : Bool) : ∀ n, n ≤ x → un n (mark f x b) = un n f
  | 0, _ => rfl
  | n + 1, h => by
    have e : mark f x b n = f n := by unfold mark; rw [if_neg (by omega)]
    simp only [un, un_out f x b n (by omega), e]
theorem un_mark (f : Nat → Bool) (x : Nat) (hf : f x = false) : ∀ n, x < n → un n (mark f x true) + 1 = un n f
  | 0, h => by omega
  | n + 1, h => by
    by_cases e : x = n
    · subst e
      have e1 : mark f x true x = true := by simp [mark]
      simp [un, un_out f x true x (Nat.le_refl _), e1, hf]
    · have e1 : mark f x true n = f n := by unfold mark; rw [if_neg (fun h => e h.symm)]
      have ih := un_mark f x hf n (by omega)
      simp only [un, e1]
      omega
theorem un_le (f : Nat → Bool) : ∀ n, un n f ≤ n
  | 0 => Nat.le_refl _
  | n + 1 => by have := un_le f n; simp only [un]; split <;> omega

/-- Are all nonterminals of a row marked? -/
def fitsB (tn : Nat) (f : Nat → Bool) (l : List Int) : Bool := l.all fun x => decide (x < (tn : Int)) || f (x - tn).toNat
theorem fitsB_iff (tn : Nat) (f : Nat → Bool) (l : List Int) : fitsB tn f l = true ↔ fitsP tn f l := by
  unfold fitsB fitsP
  rw [List.all_eq_true]
  refine forall_congr' fun x => forall_congr' fun _ => ?_
  by_cases h : x < (tn : Int)
  · simp [h]; omega
  · simp [h]; omega

/-- A production's step: its left side is marked, if all of its right side is. -/
def chM (tn : Nat) (L : Nat → Int) (R : Nat → List Int) (k : Nat) (f : Nat → Bool) : Bool := !f (L k - tn).toNat && fitsB tn f (R k)
def stM (tn : Nat) (L : Nat → Int) (R : Nat → List Int) (k : Nat) (f : Nat → Bool) : Nat → Bool := if chM tn L R k f = true then mark f (L k - tn).toNat true else f
theorem stM_same (tn : Nat) (L : Nat → Int) (R : Nat → List Int) (k : Nat) (f : Nat → Bool) (h : chM tn L R k f = false) : stM tn L R k f = f := by unfold stM; rw [if_neg (by rw [h]; simp)]
theorem un_rnd (tn nn : Nat) (L : Nat → Int) (R : Nat → List Int) (f : Nat → Bool) : ∀ n, (∀ k, k < n → (tn : Int) ≤ L k ∧ L k < ((tn + nn : Nat) : Int)) → un nn (rnd (stM tn L R) n f) + (rchg (stM tn L R) (chM tn L R) n f).toNat ≤ un nn f
  | 0, _ => by simp [rnd, rchg]
  | n + 1, h => by
    have ih := un_rnd tn nn L R f n fun k hk => h k (by omega)
    obtain ⟨h1, h2⟩ := h n (by omega)
    simp only [rnd, rchg]
    generalize rnd (stM tn L R) n f = g at *
    cases hc : chM tn L R n g with
    | false => rw [stM_same _ _ _ _ _ hc, Bool.or_false]; exact ih
    | true =>
      have hg : g (L n - tn).toNat = false := by
        unfold chM at hc
        rw [Bool.and_eq_true, Bool.not_eq_true'] at hc
        exact hc.1
      have := un_mark g _ hg nn (by omega)
      unfold stM
      rw [if_pos hc, Bool.or_true]
      simp only [Bool.toNat_true]
      omega

end Go.Proofs.Ytljlkmiaemkokaa

/-
  reach: the document's Marks.
-/
namespace Go.Proofs.Ytljlkmiaemkokaa
open Go.RowKit Go.Maps Go.Shelf

attribute [local go_sem] Oper.semAt_some

theorem infoBool : (Try.prog.info? 4).map (fun i => (i.zero, i.size, i.bytes)) = some (some (.bool false), 1, 1) := by kernel_rfl
theorem made_bools {w w1 : World} {B n : Nat} (h : w1.ownsRow B 4 1 (.slice (some ⟨w.heap.size, 0, none⟩) n n) n (madeCells (Value.bool false).cells (n * 1)).toList) : BoolAt w1 w.heap.size n (fun _ => false) := by
  rcases h.2 with ⟨h', _⟩ | ⟨g, cap, cur, hv, _, hh, _, _, hs, ht⟩
  · cases h'
  · simp only [Value.slice.injEq, Option.some.injEq, Addr.mk.injEq, and_true, true_and] at hv
    obtain ⟨rfl, rfl⟩ := hv
    have e : cur = (boolsL n (fun _ => false)).toArray := by
      apply Array.ext'
      rw [show cur.toList = cur.toList.take (n * 1) by rw [List.take_of_length_le (by simp; omega)], ht]
      rw [show (Value.bool false).cells = #[.bool false] from rfl, toList_madeCells_one, Nat.mul_one]
      unfold boolsL
      rw [List.map_const', List.length_range]
    unfold BoolAt
    rw [hh, e]

/-- While the marks of a grammar are made: its box, and the row. -/
structure MkAt (w wr : World) (cs : Array Value) (km nn : Nat) (f : Nat → Bool) : Prop where
  ph : PhAt w wr w.heap.size cs
  row : BoolAt wr km nn f
  lo : w.heap.size + 1 ≤ km
section
variable {w wr wx : World} {cs : Array Value} {km nn : Nat} {f : Nat → Bool}
theorem MkAt.kept (h : MkAt w wr cs km nn f) (hg : wr.grownBy wx none) : MkAt w wx cs km nn f := ⟨h.ph.kept hg, h.row.kept hg, h.lo⟩
theorem MkAt.set (h : MkAt w wr cs km nn f) (x : Nat) (b : Bool) : MkAt w (wr.setCell ⟨km, x, none⟩ (.bool b)) cs km nn (mark f x b) := ⟨h.ph.keptRow (grown_setCell _ _ _) h.lo, h.row.set x b, h.lo⟩
end

/-- The marks of the productive ones, in block k. -/
def MadeM (w : World) (k nn tn n : Nat) (L : Nat → Int) (R : Nat → List Int) : Prop := ∃ F, BoolAt w k nn F ∧ Fix (stM tn L R) (chM tn L R) n (fun _ => false) F

set_option maxRecDepth 100000 in
set_option maxHeartbeats 1000000 in
theorem rmarks_any (ta na la pa : Option Addr) (tn nn ln n tc nc lc pc : Nat) (st : Int) (L : Nat → Int) (R : Nat → List Int) (ra : Nat → Option Addr) (rc : Nat → Nat) (V : Nat → Int) (w : World) (hP : ProdsAt w pa n L R ra rc V) (hn : n ≤ 97) (hnn : nn ≤ 66)
    (hL : ∀ k, k < n → (tn : Int) ≤ L k ∧ L k < ((tn + nn : Nat) : Int)) (hR : ∀ k, k < n → ∀ x ∈ R k, 0 ≤ x ∧ x < ((tn + nn : Nat) : Int)) :
    Calls Try.prog 25 #[.agg #[.slice ta tn tc, .slice na nn nc, .slice la ln lc, .int .i64 st, .slice pa n pc]] w fun e w' => ∃ k, e = .returned (.slice (some ⟨k, 0, none⟩) nn nn) ∧ w.heap.size ≤ k ∧ MadeM w' k nn tn n L R ∧ w.grownBy w' none := by
  have HP : Hid (ProdsAt w pa n L R ra rc V) := hP
  have HL : Hid (∀ k, k < n → (tn : Int) ≤ L k ∧ L k < ((tn + nn : Nat) : Int)) := hL
  have HR : Hid (∀ k, k < n → ∀ x ∈ R k, 0 ≤ x ∧ x < ((tn + nn : Nat) : Int)) := hR
  have HX0 : Hid (PhAt w (w.alloc (.cells #[.slice ta tn tc, .slice na nn nc, .slice la ln lc, .int .i64 st, .slice pa n pc] 27)) w.heap.size #[.slice ta tn tc, .slice na nn nc, .slice la ln lc, .int .i64 st, .slice pa n pc]) := ⟨World.grownBy_alloc _ _ none, heap_alloc_last w _⟩
  clear hP hL hR
  obtain ⟨i0, hi, hz0, hz1, hz2⟩ := info_parts infoBool
  go_enter Try.func25, Try.ntmps25
  go_wp2_with (at_make; refine wpList_make_full _ rfl _ _ 29 rfl (w.heap.size + 1) 4 i0 (.bool false) 1 Try.underlying29 hi hz0 hz1 .i64 .i64 _ _ nn rfl rfl (by simp) (by simp) (by rw [hz2]; omega) (by unfold maxLen; omega) (by simp) ?_)
  intro w1 hown hgrow
  have hmk : MkAt w w1 #[.slice ta tn tc, .slice na nn nc, .slice la ln lc, .int .i64 st, .slice pa n pc] (w.heap.size + 1) nn (fun _ => false) := by
    refine ⟨HX0.out.kept hgrow, ?_, Nat.le_refl _⟩
    have h9 := made_bools (w := w.alloc (.cells #[.slice ta tn tc, .slice na nn nc, .slice la ln lc, .int .i64 st, .slice pa n pc] 27)) (w1 := w1) (B := w.heap.size + 1) (n := nn) (by simpa [Value.cells] using hown)
    simpa using h9
  have HMK : Hid (MkAt w w1 #[.slice ta tn tc, .slice na nn nc, .slice la ln lc, .int .i64 st, .slice pa n pc] (w.heap.size + 1) nn (fun _ => false)) := hmk
  clear hown hgrow hmk HX0 hi hz0 hz1 hz2
  go_wp2_with fail
  go_loopg [4] (un nn (fun _ => false) + 1) (fun gk a wr => ∃ (b : Bool) (t : Nat) (f : Nat → Bool), a = .bool b ∧ f = itr (stM tn L R) n t (fun _ => false) ∧ (b = false → rchg (stM tn L R) (chM tn L R) n f = false) ∧ gk = (if b = true then un nn f + 1 else 0) ∧ MkAt w wr #[.slice ta tn tc, .slice na nn nc, .slice la ln lc, .int .i64 st, .slice pa n pc] (w.heap.size + 1) nn f)
  case atStart => exact ⟨true, 0, fun _ => false, rfl, rfl, by simp, by simp, HMK.out⟩
  case round =>
    obtain ⟨b, t, f, rfl, hf, hbf, hgk, hM⟩ := hrel
    have HF : Hid (f = itr (stM tn L R) n t (fun _ => false)) := hf
    have HBF : Hid (b = false → rchg (stM tn L R) (chM tn L R) n f = false) := hbf
    have HGK : Hid (gk = (if b = true then un nn f + 1 else 0)) := hgk
    have HM : Hid (MkAt w wr #[.slice ta tn tc, .slice na nn nc, .slice la ln lc, .int .i64 st, .slice pa n pc] (w.heap.size + 1) nn f) := hM
    clear hf hbf hgk hM HMK
    cases b with
    | false =>
      go_wp2_with fail
      go_ret
      exact ⟨w.heap.size + 1, rfl, by omega, ⟨f, HM.out.row, t, HF.out, HBF.out (by first | rfl | trivial)⟩, HM.out.ph.grown⟩
    | true =>
      generalize wr = W0 at *
      go_wp2_with fail
      go_loopg [4, 5] n (fun gx a i wx => ∃ k : Nat, k ≤ n ∧ gx = n - k ∧ i = .int .i64 k ∧ a = .bool (rchg (stM tn L R) (chM tn L R) k f) ∧ MkAt w wx #[.slice ta tn tc, .slice na nn nc, .slice la ln lc, .int .i64 st, .slice pa n pc] (w.heap.size + 1) nn (rnd (stM tn L R) k f))
      case atStart => exact ⟨0, Nat.zero_le _, rfl, rfl, rfl, HM.out⟩
      case round =>
        obtain ⟨k, hk, hgx, rfl, rfl, hN⟩ := hrel
        have HGX : Hid (gk = n - k) := hgx
        clear hgx HM
        have HN0 : Hid (MkAt w wr #[.slice ta tn tc, .slice na nn nc, .slice la ln lc, .int .i64 st, .slice pa n pc] (w.heap.size + 1) nn (rnd (stM tn L R) k f)) := hN
        clear hN
        obtain ⟨m0, m1, m2, m3, m4⟩ := HN0.out.ph.cells
        by_cases hlt : k < n
        · obtain ⟨bp, off, rfl, hcs⟩ : ∃ b off, pa = some ⟨b, off, none⟩ ∧ ∀ k, k < n → w.cell? ⟨b, off + k * 3, none⟩ = some (.int .i64 (L k)) ∧ w.cell? ⟨b, off + k * 3 + 1, none⟩ = some (.slice (ra k) (R k).length (rc k)) ∧ w.cell? ⟨b, off + k * 3 + 2, none⟩ = some (.int .i64 (V k)) ∧ IntsAt w (ra k) (R k) ∧ (ra k = none → rc k = 0) ∧ (R k).length ≤ 17592186044416 := by
            rcases HP.out with h | h
            · omega
            · exact h
          obtain ⟨h1, h2, h3, hI, _, hlen⟩ := hcs k hlt
          have c0 := HN0.out.ph.grown.cell h1 (by simp)
          have c1 := HN0.out.ph.grown.cell h2 (by simp)
          have c2 := HN0.out.ph.grown.cell h3 (by simp)
          obtain ⟨hl1, hl2⟩ := HL.out k hlt
          obtain ⟨v, hv⟩ : ∃ v : Nat, L k = ((tn + v : Nat) : Int) := ⟨(L k - tn).toNat, by omega⟩
          have hvn : v < nn := by omega
          have ev : (L k - (tn : Int)).toNat = v := by omega
          have HCH : Hid (∀ g, chM tn L R k g = (!g v && fitsB tn g (R k))) := fun g => by unfold chM; rw [ev]
          have HSTp : Hid (∀ g, chM tn L R k g = true → stM tn L R k g = mark g v true) := fun g hg => by unfold stM; rw [if_pos hg, ev]
          obtain ⟨y, hy⟩ : ∃ y, y = tn + v := ⟨_, rfl⟩
          rw [hv, ← hy] at c0
          have d2 : (y : Int) - (tn : Int) = (v : Int) := by omega
          have d3 : IntKind.i64.wrap (v : Int) = (v : Int) := by rw [IntKind.wrap_i64]; omega
          have hv0 : (0 : Int) ≤ (v : Int) := by omega
          have hv1 : (v : Int) < (nn : Int) := by omega
          have HFT : Hid (∀ X, w.grownBy X none → ∀ g, BoolAt X (w.heap.size + 1) nn g → Calls Try.prog 35 #[.agg #[.slice ta tn tc, .slice na nn nc, .slice la ln lc, .int .i64 st, .slice (some ⟨bp, off, none⟩) n pc], .slice (some ⟨w.heap.size + 1, 0, none⟩) nn nn, .slice (ra k) (R k).length (rc k)] X fun e w' => e = .returned (.bool (fitsB tn g (R k))) ∧ X.grownBy w' none) := fun X hX g hB =>
            rfits_any ta na la (some ⟨bp, off, none⟩) (ra k) tn nn ln n tc nc lc pc (rc k) (w.heap.size + 1) st g (R k) X hB (hI.kept hX) hlen (by omega) (HR.out k hlt) _ (fitsB_iff tn g (R k))
          have HRS : Hid (rnd (stM tn L R) (k + 1) f = stM tn L R k (rnd (stM tn L R) k f) ∧ rchg (stM tn L R) (chM tn L R) (k + 1) f = (rchg (stM tn L R) (chM tn L R) k f || chM tn L R k (rnd (stM tn L R) k f))) := ⟨rfl, rfl⟩
          obtain ⟨g, hg⟩ : ∃ g, g = rnd (stM tn L R) k f := ⟨_, rfl⟩
          obtain ⟨ch, hch⟩ : ∃ ch, ch = rchg (stM tn L R) (chM tn L R) k f := ⟨_, rfl⟩
          rw [← hg] at HRS
          have HNG : Hid (MkAt w wr #[.slice ta tn tc, .slice na nn nc, .slice la ln lc, .int .i64 st, .slice (some ⟨bp, off, none⟩) n pc] (w.heap.size + 1) nn g) := by rw [hg]; exact HN0.out
          rw [← hch] at HRS ⊢
          have HFG := HFT.out
          obtain ⟨fb, hfb⟩ : ∃ fb, fb = fitsB tn g (R k) := ⟨_, rfl⟩
          have HCB : Hid (chM tn L R k g = (!g v && fb)) := by rw [hfb]; exact HCH.out g
          have HF2 : Hid (∀ X, w.grownBy X none → BoolAt X (w.heap.size + 1) nn g → Calls Try.prog 35 #[.agg #[.slice ta tn tc, .slice na nn nc, .slice la ln lc, .int .i64 st, .slice (some ⟨bp, off, none⟩) n pc], .slice (some ⟨w.heap.size + 1, 0, none⟩) nn nn, .slice (ra k) (R k).length (rc k)] X fun e w' => e = .returned (.bool fb) ∧ X.grownBy w' none) := fun X hX hB => by rw [hfb]; exact HFT.out X hX g hB
          have b0 := HNG.out.row.cell v hvn
          obtain ⟨z, hz⟩ : ∃ z, z = V k := ⟨_, rfl⟩
          rw [← hz] at c2
          obtain ⟨al, hal⟩ : ∃ al, al = ra k := ⟨_, rfl⟩
          obtain ⟨rl, hrl⟩ : ∃ rl, rl = (R k).length := ⟨_, rfl⟩
          obtain ⟨cl, hcl⟩ : ∃ cl, cl = rc k := ⟨_, rfl⟩
          rw [← hal, ← hrl, ← hcl] at c1 HF2
          have HN1 : Hid (MkAt w (wr.alloc (.cells #[.int .i64 (y : Int), .slice al rl cl, .int .i64 z] 45)) #[.slice ta tn tc, .slice na nn nc, .slice la ln lc, .int .i64 st, .slice (some ⟨bp, off, none⟩) n pc] (w.heap.size + 1) nn g ∧ (wr.alloc (.cells #[.int .i64 (y : Int), .slice al rl cl, .int .i64 z] 45)).heap[wr.heap.size]? = some (.cells #[.int .i64 (y : Int), .slice al rl cl, .int .i64 z] 45 (0, 0))) := ⟨HNG.out.kept (World.grownBy_alloc _ _ none), heap_alloc_last wr _⟩
          clear hcs h1 h2 h3 hI hlen hl1 hl2 hv ev HCH HFT HFG hg hch hfb hz hal hrl hcl hy HN0
          obtain ⟨n0, n1, n2, n3, n4⟩ := HN1.out.1.ph.cells
          have q0 : (wr.alloc (.cells #[.int .i64 (y : Int), .slice al rl cl, .int .i64 z] 45)).cell? ⟨wr.heap.size, 0, none⟩ = some (.int .i64 (y : Int)) := by rw [cell_of_row _ _ _ _ _ _ HN1.out.2]; rfl
          have q1 : (wr.alloc (.cells #[.int .i64 (y : Int), .slice al rl cl, .int .i64 z] 45)).cell? ⟨wr.heap.size, 1, none⟩ = some (.slice al rl cl) := by rw [cell_of_row _ _ _ _ _ _ HN1.out.2]; rfl
          have b1 := HN1.out.1.row.cell v hvn
          have HBX : Hid ((wr.alloc (.cells #[.int .i64 (y : Int), .slice al rl cl, .int .i64 z] 45)).heap[w.heap.size]? = some (.cells #[.slice ta tn tc, .slice na nn nc, .slice la ln lc, .int .i64 st, .slice (some ⟨bp, off, none⟩) n pc] 27 (0, 0))) := HN1.out.1.ph.box
          cases hgv : g v with
          | true =>
            rw [hgv] at b0 b1
            have HE : Hid (chM tn L R k g = false) := by rw [HCB.out, hgv]; exact rfl
            clear hgv
            go_wp2_with fail
            go_roundg (n - (k + 1))
            case measure => have := HGX.out; omega
            case rel => exact ⟨k + 1, by omega, rfl, by go_num, by rw [HRS.out.2, HE.out, Bool.or_false], by rw [HRS.out.1, stM_same _ _ _ _ _ HE.out]; exact HN1.out.1⟩
          | false =>
            rw [hgv] at b0 b1
            have HGV : Hid (g v = false) := hgv
            clear hgv
            go_wp2_with (refine wpList_load_row rfl 27 _ rfl w.heap.size rfl 27 #[.slice ta tn tc, .slice na nn nc, .slice la ln lc, .int .i64 st, .slice (some ⟨bp, off, none⟩) n pc] (0, 0) _ HBX.out Try.underlying27 rfl (by kernel_rfl) ?_)
            refine Calls.mono (HF2.out _ HN1.out.1.ph.grown HN1.out.1.row) ?_
            rintro e w5 ⟨rfl, hg5⟩
            have HN2 : Hid (MkAt w w5 #[.slice ta tn tc, .slice na nn nc, .slice la ln lc, .int .i64 st, .slice (some ⟨bp, off, none⟩) n pc] (w.heap.size + 1) nn g) := HN1.out.1.kept hg5
            have hb5 := (hg5.block _ (Array.getElem?_eq_some_iff.1 HN1.out.2).1 (by simp)).trans HN1.out.2
            have e0 : w5.cell? ⟨wr.heap.size, 0, none⟩ = some (.int .i64 (y : Int)) := by rw [cell_of_row _ _ _ _ _ _ hb5]; rfl
            obtain ⟨o0, o1, o2, o3, o4⟩ := HN2.out.ph.cells
            have b2 := HN2.out.row.cell v hvn
            have fz := HN2.out.row.free v
            clear hg5 hb5 n0 n1 n2 n3 n4 q0 q1 b0 b1 m0 m1 m2 m3 m4 c0 c1 c2
            cases fb with
            | true =>
              have HE : Hid (chM tn L R k g = true) := by rw [HCB.out, HGV.out]; exact rfl
              go_wp2_with fail
              go_roundg (n - (k + 1))
              case measure => have := HGX.out; omega
              case rel => exact ⟨k + 1, by omega, rfl, by go_num, by rw [HRS.out.2, HE.out, Bool.or_true], by rw [HRS.out.1, HSTp.out g HE.out]; exact HN2.out.set v true⟩
            | false =>
              have HE : Hid (chM tn L R k g = false) := by rw [HCB.out, Bool.and_false]; exact rfl
              go_wp2_with fail
              go_roundg (n - (k + 1))
              case measure => have := HGX.out; omega
              case rel => exact ⟨k + 1, by omega, rfl, by go_num, by rw [HRS.out.2, HE.out, Bool.or_false], by rw [HRS.out.1, stM_same _ _ _ _ _ HE.out]; exact HN2.out⟩
        · have hkn : k = n := by omega
          subst hkn
          have HUN := un_rnd tn nn L R f k (fun i hi => HL.out i hi)
          obtain ⟨g, hg⟩ : ∃ g, g = rnd (stM tn L R) k f := ⟨_, rfl⟩
          have HITR : Hid (g = itr (stM tn L R) k (t + 1) (fun _ => false)) := by rw [hg, HF.out]; exact rfl
          have HSAME : Hid (rchg (stM tn L R) (chM tn L R) k f = false → rchg (stM tn L R) (chM tn L R) k g = false) := fun h => by rw [hg, rnd_same _ _ (fun i s hs => stM_same tn L R i s hs) f k h]; exact h
          obtain ⟨ch, hch⟩ : ∃ ch, ch = rchg (stM tn L R) (chM tn L R) k f := ⟨_, rfl⟩
          have HNG : Hid (MkAt w wr #[.slice ta tn tc, .slice na nn nc, .slice la ln lc, .int .i64 st, .slice pa k pc] (w.heap.size + 1) nn g) := by rw [hg]; exact HN0.out
          rw [← hg, ← hch] at HUN
          rw [← hch] at HSAME ⊢
          have HUU : Hid (un nn g + ch.toNat ≤ un nn f) := HUN
          clear HUN hg hch HN0
          go_wp2_with fail
          go_roundg (if ch = true then un nn g + 1 else 0)
          case measure =>
            have h7 := HGK.out
            have h8 := HUU.out
            simp at h7
            cases ch with
            | true => simp at h8 ⊢; omega
            | false => simp; omega
          case rel => exact ⟨ch, t + 1, g, rfl, HITR.out, HSAME.out, rfl, HNG.out⟩

end Go.Proofs.Ytljlkmiaemkokaa

/-
  reach: ofNons.
-/
namespace Go.Proofs.Ytljlkmiaemkokaa
open Go.RowKit Go.Maps Go.Shelf

attribute [local go_sem] Oper.semAt_some

/-- While marks are told: the boxes of the set and of the grammar, the row. -/
structure OfAt (w wr : World) (b : Nat) (cs : Array Value) (km nn : Nat) (f : Nat → Bool) : Prop where
  grown : w.grownBy wr none
  mbox : wr.heap[w.heap.size]? = some (.cells #[.pointer (some ⟨b, 0, none⟩)] 51 (0, 0))
  gbox : wr.heap[w.heap.size + 1]? = some (.cells cs 27 (0, 0))
  row : BoolAt wr km nn f
  lo : w.heap.size + 2 ≤ km
section
variable {w wr wx : World} {b km nn : Nat} {cs : Array Value} {f : Nat → Bool}
theorem OfAt.kept (h : OfAt w wr b cs km nn f) (hg : wr.grownBy wx none) : OfAt w wx b cs km nn f :=
  ⟨grown_trans h.grown hg, (hg.block _ (Array.getElem?_eq_some_iff.1 h.mbox).1 (by simp)).trans h.mbox, (hg.block _ (Array.getElem?_eq_some_iff.1 h.gbox).1 (by simp)).trans h.gbox, h.row.kept hg, h.lo⟩
theorem OfAt.set (h : OfAt w wr b cs km nn f) (x : Nat) (v : Bool) : OfAt w (wr.setCell ⟨km, x, none⟩ (.bool v)) b cs km nn (mark f x v) :=
  have hg : wr.grownBy (wr.setCell ⟨km, x, none⟩ (.bool v)) (some km) := grown_setCell _ _ _
  have hl := h.lo
  ⟨grown_at h.grown hg (by omega), (hg.block _ (Array.getElem?_eq_some_iff.1 h.mbox).1 (by simp; omega)).trans h.mbox, (hg.block _ (Array.getElem?_eq_some_iff.1 h.gbox).1 (by simp; omega)).trans h.gbox, h.row.set x v, h.lo⟩
theorem OfAt.m (h : OfAt w wr b cs km nn f) : wr.cell? ⟨w.heap.size, 0, none⟩ = some (.pointer (some ⟨b, 0, none⟩)) := by rw [cell_of_row _ _ _ _ _ _ h.mbox]; rfl
theorem OfAt.g (h : OfAt w wr b cs km nn f) (k : Nat) (v : Value) (hv : cs[k]? = some v) : wr.cell? ⟨w.heap.size + 1, k, none⟩ = some v := by rw [cell_of_row _ _ _ _ _ _ h.gbox]; exact hv
end

/-- The first k of a set's marks from tn on. -/
def toldTo (tn m k : Nat) (i : Nat) : Bool := decide (i < k) && m.testBit (tn + i)
theorem toldTo_succ (tn m k : Nat) : mark (toldTo tn m k) k (m.testBit (tn + k)) = toldTo tn m (k + 1) := by
  funext i
  unfold mark toldTo
  by_cases e : i = k
  · subst e; simp
  · rw [if_neg e]
    by_cases h : i < k
    · have : i < k + 1 := by omega
      simp [h, this]
    · have : ¬ i < k + 1 := by omega
      simp [h, this]

set_option maxRecDepth 100000 in
set_option maxHeartbeats 1000000 in
theorem ofNons_any (ta na la pa : Option Addr) (tn nn ln n tc nc lc pc b m : Nat) (st : Int) (w : World) (hS : B.SetM w (some ⟨b, 0, none⟩) (tn + nn) m) (hz : tn + nn ≤ 1024) :
    Calls Try.prog 30 #[.agg #[.pointer (some ⟨b, 0, none⟩)], .agg #[.slice ta tn tc, .slice na nn nc, .slice la ln lc, .int .i64 st, .slice pa n pc]] w fun e w' => ∃ k, e = .returned (.slice (some ⟨k, 0, none⟩) nn nn) ∧ w.heap.size ≤ k ∧ BoolAt w' k nn (toldTo tn m nn) ∧ w.grownBy w' none := by
  have HS : Hid (B.SetM w (some ⟨b, 0, none⟩) (tn + nn) m) := hS
  have hg2 : w.grownBy ((w.alloc (.cells #[.pointer (some ⟨b, 0, none⟩)] 51)).alloc (.cells #[.slice ta tn tc, .slice na nn nc, .slice la ln lc, .int .i64 st, .slice pa n pc] 27)) none := grown_trans (World.grownBy_alloc _ _ none) (World.grownBy_alloc _ _ none)
  have HG2 : Hid (w.grownBy ((w.alloc (.cells #[.pointer (some ⟨b, 0, none⟩)] 51)).alloc (.cells #[.slice ta tn tc, .slice na nn nc, .slice la ln lc, .int .i64 st, .slice pa n pc] 27)) none) := hg2
  clear hS hg2
  obtain ⟨i0, hi, hz0, hz1, hz2⟩ := info_parts infoBool
  go_enter Try.func30, Try.ntmps30
  go_wp2_with (at_make; refine wpList_make_full _ rfl _ _ 29 rfl (w.heap.size + 2) 4 i0 (.bool false) 1 Try.underlying29 hi hz0 hz1 .i64 .i64 _ _ nn rfl rfl (by simp) (by simp) (by rw [hz2]; omega) (by unfold maxLen; omega) (by simp) ?_)
  intro w1 hown hgrow
  have hof : OfAt w w1 b #[.slice ta tn tc, .slice na nn nc, .slice la ln lc, .int .i64 st, .slice pa n pc] (w.heap.size + 1 + 1) nn (toldTo tn m 0) := by
    refine ⟨grown_trans HG2.out hgrow, ?_, ?_, ?_, by omega⟩
    · refine (hgrow.block _ (by simp; omega) (by simp)).trans ?_
      exact ((World.grownBy_alloc (w.alloc _) _ none).block _ (by simp) (by simp)).trans (heap_alloc_last w _)
    · refine (hgrow.block _ (by simp) (by simp)).trans ?_
      have := heap_alloc_last (w.alloc (.cells #[.pointer (some ⟨b, 0, none⟩)] 51)) (.cells #[.slice ta tn tc, .slice na nn nc, .slice la ln lc, .int .i64 st, .slice pa n pc] 27)
      rw [World.size_alloc] at this
      exact this
    · have h9 := made_bools (w := (w.alloc (.cells #[.pointer (some ⟨b, 0, none⟩)] 51)).alloc (.cells #[.slice ta tn tc, .slice na nn nc, .slice la ln lc, .int .i64 st, .slice pa n pc] 27)) (w1 := w1) (B := w.heap.size + 2) (n := nn) (by simpa [Value.cells] using hown)
      have e9 : toldTo tn m 0 = fun _ => false := by funext i; simp [toldTo]
      rw [e9]
      simpa using h9
  have HOF : Hid (OfAt w w1 b #[.slice ta tn tc, .slice na nn nc, .slice la ln lc, .int .i64 st, .slice pa n pc] (w.heap.size + 1 + 1) nn (toldTo tn m 0)) := hof
  clear hown hgrow hof HG2 hi hz0 hz1 hz2
  go_wp2_with fail
  go_loopg [13] nn (fun gk i wr => ∃ k : Nat, k ≤ nn ∧ gk = nn - k ∧ i = .int .i64 k ∧ OfAt w wr b #[.slice ta tn tc, .slice na nn nc, .slice la ln lc, .int .i64 st, .slice pa n pc] (w.heap.size + 1 + 1) nn (toldTo tn m k))
  case atStart => exact ⟨0, Nat.zero_le _, rfl, rfl, HOF.out⟩
  case round =>
    obtain ⟨k, hk, hgk, rfl, hO⟩ := hrel
    have HGK : Hid (gk = nn - k) := hgk
    have HO : Hid (OfAt w wr b #[.slice ta tn tc, .slice na nn nc, .slice la ln lc, .int .i64 st, .slice pa n pc] (w.heap.size + 1 + 1) nn (toldTo tn m k)) := hO
    clear hgk hO HOF
    by_cases hlt : k < nn
    · have c0 := HO.out.m
      have g0 := HO.out.g 0 _ rfl
      have hk0 : (0 : Int) ≤ (k : Int) := by omega
      have hk1 : (k : Int) < (nn : Int) := by omega
      have HH := B.has_any (some ⟨b, 0, none⟩) (tn + nn) m ((tn : Int) + (k : Int)) wr (SetM_kept HS.out HO.out.grown)
      have e1 : B.hasB m ((tn : Int) + (k : Int)) = m.testBit (tn + k) := by
        unfold B.hasB
        have e2 : ((tn : Int) + (k : Int)).toNat = tn + k := by omega
        rw [e2, decide_eq_true (by omega), Bool.true_and]
      rw [e1] at HH
      obtain ⟨q, hq⟩ : ∃ q, q = m.testBit (tn + k) := ⟨_, rfl⟩
      rw [← hq] at HH
      have HHH : Hid (Calls Try.prog 33 #[.pointer (some ⟨b, 0, none⟩), .int .i64 ((tn : Int) + (k : Int))] wr fun e w' => e = .returned (.bool q) ∧ ∃ j, w' = wr.drewN j) := HH
      have HQ : Hid (q = m.testBit (tn + k)) := hq
      clear HH e1 hq
      go_wp2_with fail
      refine Calls.mono HHH.out ?_
      rintro e w2 ⟨rfl, jj, rfl⟩
      have HO2 : Hid (OfAt w (wr.drewN jj) b #[.slice ta tn tc, .slice na nn nc, .slice la ln lc, .int .i64 st, .slice pa n pc] (w.heap.size + 1 + 1) nn (toldTo tn m k)) := HO.out.kept (grown_drewN _ _)
      generalize wr.drewN jj = w2 at *
      have b0 := HO2.out.row.cell k hlt
      have fz := HO2.out.row.free k
      clear c0 g0
      go_wp2_with fail
      go_roundg (nn - (k + 1))
      case measure => have := HGK.out; omega
      case rel => exact ⟨k + 1, by omega, rfl, by go_num, by rw [← toldTo_succ, ← HQ.out]; exact HO2.out.set k q⟩
    · have hkn : k = nn := by omega
      subst hkn
      go_wp2_with fail
      go_ret
      exact ⟨w.heap.size + 1 + 1, rfl, by omega, HO.out.row, HO.out.grown⟩

end Go.Proofs.Ytljlkmiaemkokaa

/-
  reach: again, with the first of useOf's steps.
-/
namespace Go.Proofs.Ytljlkmiaemkokaa
open Go.RowKit Go.Maps Go.Shelf

attribute [local go_sem] Oper.semAt_some

/-- The cells of a rule. -/
def RuleC (x : World) (kb k : Nat) (l : Int) (r : Value) (v : Int) (q : Option Addr) : Prop :=
  x.cell? ⟨kb, k * 4, none⟩ = some (.int .i64 l) ∧ x.cell? ⟨kb, k * 4 + 1, none⟩ = some r ∧ x.cell? ⟨kb, k * 4 + 2, none⟩ = some (.int .i64 v) ∧ x.cell? ⟨kb, k * 4 + 3, none⟩ = some (.pointer q)

set_option maxRecDepth 100000 in
set_option maxHeartbeats 1000000 in
theorem again1_any {σ : Type} (Inv : σ → World → Prop) (step : Nat → σ → σ) (ad : Nat → σ → Nat) (mu : σ → Nat) (n kb cap bu pb : Nat) (p1 p2 : Option Addr) (L V : Nat → Int) (ra : Nat → Option Addr) (rn rc : Nat → Nat) (q : Nat → Option Addr) (w : World) (hpb : pb < w.heap.size) (hn : n ≤ 97)
    (hK : ∀ s x y, Inv s x → x.grownBy y none → Inv s y)
    (hC : ∀ s x k, k < n → Inv s x → Calls Try.prog 44 #[.agg #[.int .i64 (L k), .slice (ra k) (rn k) (rc k), .int .i64 (V k), .pointer (q k)], .pointer (some ⟨bu, 0, none⟩)] x fun e y => e = .returned (.int .i64 (ad k s : Nat)) ∧ Inv (step k s) y ∧ x.grownBy y (some pb))
    (hR : ∀ s x, Inv s x → ∀ k, k < n → RuleC x kb k (L k) (.slice (ra k) (rn k) (rc k)) (V k) (q k))
    (hm : ∀ k s, k < n → mu (step k s) + ad k s ≤ mu s) (hb : ∀ s, mu s ≤ 100000) (hst : ∀ k s, ad k s = 0 → step k s = s) (s0 : σ) (h0 : Inv s0 w) :
    Calls Try.prog 43 #[.agg #[.slice (some ⟨kb, 0, none⟩) n cap, .pointer p1, .pointer p2], .func (.func 44) #[] #[.pointer (some ⟨bu, 0, none⟩)]] w fun e y => e = .returned (.tuple #[]) ∧ ∃ s, Inv s y ∧ Fix step (fun k s => decide (0 < ad k s)) n s0 s := by
  have HK : Hid (∀ s x y, Inv s x → x.grownBy y none → Inv s y) := hK
  have HC : Hid (∀ s x k, k < n → Inv s x → Calls Try.prog 44 #[.agg #[.int .i64 (L k), .slice (ra k) (rn k) (rc k), .int .i64 (V k), .pointer (q k)], .pointer (some ⟨bu, 0, none⟩)] x fun e y => e = .returned (.int .i64 (ad k s : Nat)) ∧ Inv (step k s) y ∧ x.grownBy y (some pb)) := hC
  have HR : Hid (∀ s x, Inv s x → ∀ k, k < n → RuleC x kb k (L k) (.slice (ra k) (rn k) (rc k)) (V k) (q k)) := hR
  have HMU : Hid (∀ k s, k < n → mu (step k s) + ad k s ≤ mu s) := hm
  have HBD : Hid (∀ s, mu s ≤ 100000) := hb
  have HI0 : Hid (Inv s0 (w.alloc (.cells #[.slice (some ⟨kb, 0, none⟩) n cap, .pointer p1, .pointer p2] 53))) := hK _ _ _ h0 (World.grownBy_alloc _ _ none)
  have HX0 : Hid ((w.alloc (.cells #[.slice (some ⟨kb, 0, none⟩) n cap, .pointer p1, .pointer p2] 53)).heap[w.heap.size]? = some (.cells #[.slice (some ⟨kb, 0, none⟩) n cap, .pointer p1, .pointer p2] 53 (0, 0))) := heap_alloc_last w _
  have HSM : Hid (∀ k s, decide (0 < ad k s) = false → step k s = s) := fun k s h => hst k s (by have := of_decide_eq_false h; omega)
  clear hK hC hR hm hb h0 hst
  go_enter Try.func43, Try.ntmps43
  go_wp2_with fail
  go_loopg [4] (mu s0 + 1) (fun gk a wr => ∃ (z : Nat) (t : Nat) (s : σ), a = .int .i64 z ∧ z ≤ 100000 ∧ s = itr step n t s0 ∧ (z = 0 → rchg step (fun k s => decide (0 < ad k s)) n s = false) ∧ gk = (if z = 0 then 0 else mu s + 1) ∧ Inv s wr ∧ wr.heap[w.heap.size]? = some (.cells #[.slice (some ⟨kb, 0, none⟩) n cap, .pointer p1, .pointer p2] 53 (0, 0)))
  case atStart => exact ⟨1, 0, s0, rfl, by omega, rfl, by simp, by simp, HI0.out, HX0.out⟩
  case round =>
    obtain ⟨z, t, s, rfl, hz, hs, hzf, hgk, hI, hX⟩ := hrel
    have HS : Hid (s = itr step n t s0) := hs
    have HZF : Hid (z = 0 → rchg step (fun k s => decide (0 < ad k s)) n s = false) := hzf
    have HGK : Hid (gk = (if z = 0 then 0 else mu s + 1)) := hgk
    have HI : Hid (Inv s wr) := hI
    have HX : Hid (wr.heap[w.heap.size]? = some (.cells #[.slice (some ⟨kb, 0, none⟩) n cap, .pointer p1, .pointer p2] 53 (0, 0))) := hX
    clear hs hzf hgk hI hX HI0 HX0
    by_cases hz0 : z = 0
    · subst hz0
      go_wp2_with fail
      refine bodyPost_end (results_none rfl _ _ _) rfl ?_
      exact ⟨rfl, s, HI.out, t, HS.out, HZF.out (by first | rfl | trivial)⟩
    · have hzp : (0 : Int) < (z : Int) := by omega
      have hzn : decide (0 < z) = true := decide_eq_true (by omega)
      have HZ0 : Hid (¬ z = 0) := hz0
      have x0 : wr.cell? ⟨w.heap.size, 0, none⟩ = some (.slice (some ⟨kb, 0, none⟩) n cap) := by rw [cell_of_row _ _ _ _ _ _ HX.out]; rfl
      clear hz0
      generalize wr = W0 at *
      go_wp2_with fail
      go_loopg [4, 12] n (fun gx a i wx => ∃ (k y : Nat), k ≤ n ∧ gx = n - k ∧ i = .int .i64 k ∧ a = .int .i64 y ∧ y + mu (rnd step k s) ≤ mu s ∧ rchg step (fun k s => decide (0 < ad k s)) k s = decide (0 < y) ∧ Inv (rnd step k s) wx ∧ wx.heap[w.heap.size]? = some (.cells #[.slice (some ⟨kb, 0, none⟩) n cap, .pointer p1, .pointer p2] 53 (0, 0)))
      case atStart => exact ⟨0, 0, Nat.zero_le _, rfl, rfl, rfl, by simp [rnd], rfl, HI.out, HX.out⟩
      case round =>
        obtain ⟨k, y, hk, hgx, rfl, rfl, hmu, hrc, hI2, hX2⟩ := hrel
        have HGX : Hid (gk = n - k) := hgx
        have HM2 : Hid (y + mu (rnd step k s) ≤ mu s) := hmu
        have HRC : Hid (rchg step (fun k s => decide (0 < ad k s)) k s = decide (0 < y)) := hrc
        have HI2 : Hid (Inv (rnd step k s) wr) := hI2
        have HX2 : Hid (wr.heap[w.heap.size]? = some (.cells #[.slice (some ⟨kb, 0, none⟩) n cap, .pointer p1, .pointer p2] 53 (0, 0))) := hX2
        have hyb : y ≤ 100000 := by have := HBD.out s; omega
        clear hgx hmu hrc hI2 hX2 HI HX x0
        by_cases hlt : k < n
        · obtain ⟨c0, c1, c2, c3⟩ := HR.out _ _ HI2.out k hlt
          have hk0 : (0 : Int) ≤ (k : Int) := by omega
          have hk1 : (k : Int) < (n : Int) := by omega
          have hmk := HMU.out k (rnd step k s) hlt
          have had : ad k (rnd step k s) ≤ 100000 := by have := HBD.out (rnd step k s); omega
          have HST : Hid (rnd step (k + 1) s = step k (rnd step k s) ∧ rchg step (fun k s => decide (0 < ad k s)) (k + 1) s = (rchg step (fun k s => decide (0 < ad k s)) k s || decide (0 < ad k (rnd step k s)))) := ⟨rfl, rfl⟩
          have HCL := HC.out (rnd step k s)
          obtain ⟨g, hg⟩ : ∃ g, g = rnd step k s := ⟨_, rfl⟩
          rw [← hg] at hmk had HST HCL
          have HI3 : Hid (Inv g wr) := by rw [hg]; exact HI2.out
          have HM3 : Hid (y + mu g ≤ mu s) := by rw [hg]; exact HM2.out
          obtain ⟨d, hd⟩ : ∃ d, d = ad k g := ⟨_, rfl⟩
          have hdb : d ≤ 100000 := by rw [hd]; exact had
          have HMK : Hid (mu (step k g) + d ≤ mu g) := by rw [hd]; exact hmk
          rw [← hd] at HST
          obtain ⟨l, hl⟩ : ∃ l, l = L k := ⟨_, rfl⟩
          obtain ⟨v, hv⟩ : ∃ v, v = V k := ⟨_, rfl⟩
          obtain ⟨a1, ha1⟩ : ∃ a1, a1 = ra k := ⟨_, rfl⟩
          obtain ⟨a2, ha2⟩ : ∃ a2, a2 = rn k := ⟨_, rfl⟩
          obtain ⟨a3, ha3⟩ : ∃ a3, a3 = rc k := ⟨_, rfl⟩
          obtain ⟨a4, ha4⟩ : ∃ a4, a4 = q k := ⟨_, rfl⟩
          rw [← hl] at c0
          rw [← ha1, ← ha2, ← ha3] at c1
          rw [← hv] at c2
          rw [← ha4] at c3
          have HCL2 : Hid (∀ x, Inv g x → Calls Try.prog 44 #[.agg #[.int .i64 l, .slice a1 a2 a3, .int .i64 v, .pointer a4], .pointer (some ⟨bu, 0, none⟩)] x fun e y => e = .returned (.int .i64 (d : Nat)) ∧ Inv (step k g) y ∧ x.grownBy y (some pb)) := fun x hx => by rw [hl, ha1, ha2, ha3, hv, ha4, hd]; exact HCL x k hlt hx
          have HPB : Hid (pb < w.heap.size) := hpb
          clear hmk had HCL hg hd hl hv ha1 ha2 ha3 ha4 HI2 HM2
          have HI4 : Hid (Inv g (wr.alloc (.cells #[.int .i64 l, .slice a1 a2 a3, .int .i64 v, .pointer a4] 78))) := HK.out _ _ _ HI3.out (World.grownBy_alloc _ _ none)
          have HX4 : Hid ((wr.alloc (.cells #[.int .i64 l, .slice a1 a2 a3, .int .i64 v, .pointer a4] 78)).heap[w.heap.size]? = some (.cells #[.slice (some ⟨kb, 0, none⟩) n cap, .pointer p1, .pointer p2] 53 (0, 0))) := ((World.grownBy_alloc wr _ none).block _ (Array.getElem?_eq_some_iff.1 HX2.out).1 (by simp)).trans HX2.out
          go_wp2_with fail
          refine Calls.mono (HCL2.out _ HI4.out) ?_
          rintro e w5 ⟨rfl, hI5, hg5⟩
          have HI5 : Hid (Inv (step k g) w5) := hI5
          have HX5 : Hid (w5.heap[w.heap.size]? = some (.cells #[.slice (some ⟨kb, 0, none⟩) n cap, .pointer p1, .pointer p2] 53 (0, 0))) := (hg5.block _ (Array.getElem?_eq_some_iff.1 HX4.out).1 (by have := HPB.out; simp; omega)).trans HX4.out
          clear hI5 hg5 c0 c1 c2 c3
          go_wp2_with fail
          go_roundg (n - (k + 1))
          case measure => have := HGX.out; omega
          case rel => exact ⟨k + 1, y + d, by omega, rfl, by go_num, by go_num, by rw [HST.out.1]; have h1 := HM3.out; have h2 := HMK.out; omega, by rw [HST.out.2, HRC.out]; by_cases h1 : 0 < y <;> by_cases h2 : 0 < d <;> simp [h1, h2] <;> omega, by rw [HST.out.1]; exact HI5.out, HX5.out⟩
        · have hkn : k = n := by omega
          subst hkn
          obtain ⟨g, hg⟩ : ∃ g, g = rnd step k s := ⟨_, rfl⟩
          have HITR : Hid (g = itr step k (t + 1) s0) := by rw [hg, HS.out]; exact rfl
          have HZG : Hid (y = 0 → rchg step (fun k s => decide (0 < ad k s)) k g = false) := fun h => by
            have h1 := HRC.out
            rw [h] at h1
            have h2 := rnd_same step (fun k s => decide (0 < ad k s)) HSM.out s k h1
            rw [hg, h2]
            exact h1
          have HIG : Hid (Inv g wr) := by rw [hg]; exact HI2.out
          have HMG : Hid (y + mu g ≤ mu s) := by rw [hg]; exact HM2.out
          clear hg HI2 HM2 HRC
          go_wp2_with fail
          go_roundg (if y = 0 then 0 else mu g + 1)
          case measure =>
            have h1 := HGK.out
            have h2 := HZ0.out
            have h3 := HMG.out
            rw [if_neg h2] at h1
            split <;> omega
          case rel => exact ⟨y, t + 1, g, rfl, hyb, HITR.out, HZG.out, rfl, HIG.out, HX2.out⟩

end Go.Proofs.Ytljlkmiaemkokaa

/-
  reach: again, with the second of useOf's steps.
-/
namespace Go.Proofs.Ytljlkmiaemkokaa
open Go.RowKit Go.Maps Go.Shelf

attribute [local go_sem] Oper.semAt_some

set_option maxRecDepth 100000 in
set_option maxHeartbeats 1000000 in
theorem again2_any {σ : Type} (Inv : σ → World → Prop) (step : Nat → σ → σ) (ad : Nat → σ → Nat) (mu : σ → Nat) (n kb cap bu pb : Nat) (p1 p2 : Option Addr) (L V : Nat → Int) (ra : Nat → Option Addr) (rn rc : Nat → Nat) (q : Nat → Option Addr) (w : World) (hpb : pb < w.heap.size) (hn : n ≤ 97)
    (hK : ∀ s x y, Inv s x → x.grownBy y none → Inv s y)
    (hC : ∀ s x k, k < n → Inv s x → Calls Try.prog 47 #[.agg #[.int .i64 (L k), .slice (ra k) (rn k) (rc k), .int .i64 (V k), .pointer (q k)], .pointer (some ⟨bu, 0, none⟩)] x fun e y => e = .returned (.int .i64 (ad k s : Nat)) ∧ Inv (step k s) y ∧ x.grownBy y (some pb))
    (hR : ∀ s x, Inv s x → ∀ k, k < n → RuleC x kb k (L k) (.slice (ra k) (rn k) (rc k)) (V k) (q k))
    (hm : ∀ k s, k < n → mu (step k s) + ad k s ≤ mu s) (hb : ∀ s, mu s ≤ 100000) (hst : ∀ k s, ad k s = 0 → step k s = s) (s0 : σ) (h0 : Inv s0 w) :
    Calls Try.prog 43 #[.agg #[.slice (some ⟨kb, 0, none⟩) n cap, .pointer p1, .pointer p2], .func (.func 47) #[] #[.pointer (some ⟨bu, 0, none⟩)]] w fun e y => e = .returned (.tuple #[]) ∧ ∃ s, Inv s y ∧ Fix step (fun k s => decide (0 < ad k s)) n s0 s := by
  have HK : Hid (∀ s x y, Inv s x → x.grownBy y none → Inv s y) := hK
  have HC : Hid (∀ s x k, k < n → Inv s x → Calls Try.prog 47 #[.agg #[.int .i64 (L k), .slice (ra k) (rn k) (rc k), .int .i64 (V k), .pointer (q k)], .pointer (some ⟨bu, 0, none⟩)] x fun e y => e = .returned (.int .i64 (ad k s : Nat)) ∧ Inv (step k s) y ∧ x.grownBy y (some pb)) := hC
  have HR : Hid (∀ s x, Inv s x → ∀ k, k < n → RuleC x kb k (L k) (.slice (ra k) (rn k) (rc k)) (V k) (q k)) := hR
  have HMU : Hid (∀ k s, k < n → mu (step k s) + ad k s ≤ mu s) := hm
  have HBD : Hid (∀ s, mu s ≤ 100000) := hb
  have HI0 : Hid (Inv s0 (w.alloc (.cells #[.slice (some ⟨kb, 0, none⟩) n cap, .pointer p1, .pointer p2] 53))) := hK _ _ _ h0 (World.grownBy_alloc _ _ none)
  have HX0 : Hid ((w.alloc (.cells #[.slice (some ⟨kb, 0, none⟩) n cap, .pointer p1, .pointer p2] 53)).heap[w.heap.size]? = some (.cells #[.slice (some ⟨kb, 0, none⟩) n cap, .pointer p1, .pointer p2] 53 (0, 0))) := heap_alloc_last w _
  have HSM : Hid (∀ k s, decide (0 < ad k s) = false → step k s = s) := fun k s h => hst k s (by have := of_decide_eq_false h; omega)
  clear hK hC hR hm hb h0 hst
  go_enter Try.func43, Try.ntmps43
  go_wp2_with fail
  go_loopg [4] (mu s0 + 1) (fun gk a wr => ∃ (z : Nat) (t : Nat) (s : σ), a = .int .i64 z ∧ z ≤ 100000 ∧ s = itr step n t s0 ∧ (z = 0 → rchg step (fun k s => decide (0 < ad k s)) n s = false) ∧ gk = (if z = 0 then 0 else mu s + 1) ∧ Inv s wr ∧ wr.heap[w.heap.size]? = some (.cells #[.slice (some ⟨kb, 0, none⟩) n cap, .pointer p1, .pointer p2] 53 (0, 0)))
  case atStart => exact ⟨1, 0, s0, rfl, by omega, rfl, by simp, by simp, HI0.out, HX0.out⟩
  case round =>
    obtain ⟨z, t, s, rfl, hz, hs, hzf, hgk, hI, hX⟩ := hrel
    have HS : Hid (s = itr step n t s0) := hs
    have HZF : Hid (z = 0 → rchg step (fun k s => decide (0 < ad k s)) n s = false) := hzf
    have HGK : Hid (gk = (if z = 0 then 0 else mu s + 1)) := hgk
    have HI : Hid (Inv s wr) := hI
    have HX : Hid (wr.heap[w.heap.size]? = some (.cells #[.slice (some ⟨kb, 0, none⟩) n cap, .pointer p1, .pointer p2] 53 (0, 0))) := hX
    clear hs hzf hgk hI hX HI0 HX0
    by_cases hz0 : z = 0
    · subst hz0
      go_wp2_with fail
      refine bodyPost_end (results_none rfl _ _ _) rfl ?_
      exact ⟨rfl, s, HI.out, t, HS.out, HZF.out (by first | rfl | trivial)⟩
    · have hzp : (0 : Int) < (z : Int) := by omega
      have hzn : decide (0 < z) = true := decide_eq_true (by omega)
      have HZ0 : Hid (¬ z = 0) := hz0
      have x0 : wr.cell? ⟨w.heap.size, 0, none⟩ = some (.slice (some ⟨kb, 0, none⟩) n cap) := by rw [cell_of_row _ _ _ _ _ _ HX.out]; rfl
      clear hz0
      generalize wr = W0 at *
      go_wp2_with fail
      go_loopg [4, 12] n (fun gx a i wx => ∃ (k y : Nat), k ≤ n ∧ gx = n - k ∧ i = .int .i64 k ∧ a = .int .i64 y ∧ y + mu (rnd step k s) ≤ mu s ∧ rchg step (fun k s => decide (0 < ad k s)) k s = decide (0 < y) ∧ Inv (rnd step k s) wx ∧ wx.heap[w.heap.size]? = some (.cells #[.slice (some ⟨kb, 0, none⟩) n cap, .pointer p1, .pointer p2] 53 (0, 0)))
      case atStart => exact ⟨0, 0, Nat.zero_le _, rfl, rfl, rfl, by simp [rnd], rfl, HI.out, HX.out⟩
      case round =>
        obtain ⟨k, y, hk, hgx, rfl, rfl, hmu, hrc, hI2, hX2⟩ := hrel
        have HGX : Hid (gk = n - k) := hgx
        have HM2 : Hid (y + mu (rnd step k s) ≤ mu s) := hmu
        have HRC : Hid (rchg step (fun k s => decide (0 < ad k s)) k s = decide (0 < y)) := hrc
        have HI2 : Hid (Inv (rnd step k s) wr) := hI2
        have HX2 : Hid (wr.heap[w.heap.size]? = some (.cells #[.slice (some ⟨kb, 0, none⟩) n cap, .pointer p1, .pointer p2] 53 (0, 0))) := hX2
        have hyb : y ≤ 100000 := by have := HBD.out s; omega
        clear hgx hmu hrc hI2 hX2 HI HX x0
        by_cases hlt : k < n
        · obtain ⟨c0, c1, c2, c3⟩ := HR.out _ _ HI2.out k hlt
          have hk0 : (0 : Int) ≤ (k : Int) := by omega
          have hk1 : (k : Int) < (n : Int) := by omega
          have hmk := HMU.out k (rnd step k s) hlt
          have had : ad k (rnd step k s) ≤ 100000 := by have := HBD.out (rnd step k s); omega
          have HST : Hid (rnd step (k + 1) s = step k (rnd step k s) ∧ rchg step (fun k s => decide (0 < ad k s)) (k + 1) s = (rchg step (fun k s => decide (0 < ad k s)) k s || decide (0 < ad k (rnd step k s)))) := ⟨rfl, rfl⟩
          have HCL := HC.out (rnd step k s)
          obtain ⟨g, hg⟩ : ∃ g, g = rnd step k s := ⟨_, rfl⟩
          rw [← hg] at hmk had HST HCL
          have HI3 : Hid (Inv g wr) := by rw [hg]; exact HI2.out
          have HM3 : Hid (y + mu g ≤ mu s) := by rw [hg]; exact HM2.out
          obtain ⟨d, hd⟩ : ∃ d, d = ad k g := ⟨_, rfl⟩
          have hdb : d ≤ 100000 := by rw [hd]; exact had
          have HMK : Hid (mu (step k g) + d ≤ mu g) := by rw [hd]; exact hmk
          rw [← hd] at HST
          obtain ⟨l, hl⟩ : ∃ l, l = L k := ⟨_, rfl⟩
          obtain ⟨v, hv⟩ : ∃ v, v = V k := ⟨_, rfl⟩
          obtain ⟨a1, ha1⟩ : ∃ a1, a1 = ra k := ⟨_, rfl⟩
          obtain ⟨a2, ha2⟩ : ∃ a2, a2 = rn k := ⟨_, rfl⟩
          obtain ⟨a3, ha3⟩ : ∃ a3, a3 = rc k := ⟨_, rfl⟩
          obtain ⟨a4, ha4⟩ : ∃ a4, a4 = q k := ⟨_, rfl⟩
          rw [← hl] at c0
          rw [← ha1, ← ha2, ← ha3] at c1
          rw [← hv] at c2
          rw [← ha4] at c3
          have HCL2 : Hid (∀ x, Inv g x → Calls Try.prog 47 #[.agg #[.int .i64 l, .slice a1 a2 a3, .int .i64 v, .pointer a4], .pointer (some ⟨bu, 0, none⟩)] x fun e y => e = .returned (.int .i64 (d : Nat)) ∧ Inv (step k g) y ∧ x.grownBy y (some pb)) := fun x hx => by rw [hl, ha1, ha2, ha3, hv, ha4, hd]; exact HCL x k hlt hx
          have HPB : Hid (pb < w.heap.size) := hpb
          clear hmk had HCL hg hd hl hv ha1 ha2 ha3 ha4 HI2 HM2
          have HI4 : Hid (Inv g (wr.alloc (.cells #[.int .i64 l, .slice a1 a2 a3, .int .i64 v, .pointer a4] 78))) := HK.out _ _ _ HI3.out (World.grownBy_alloc _ _ none)
          have HX4 : Hid ((wr.alloc (.cells #[.int .i64 l, .slice a1 a2 a3, .int .i64 v, .pointer a4] 78)).heap[w.heap.size]? = some (.cells #[.slice (some ⟨kb, 0, none⟩) n cap, .pointer p1, .pointer p2] 53 (0, 0))) := ((World.grownBy_alloc wr _ none).block _ (Array.getElem?_eq_some_iff.1 HX2.out).1 (by simp)).trans HX2.out
          go_wp2_with fail
          refine Calls.mono (HCL2.out _ HI4.out) ?_
          rintro e w5 ⟨rfl, hI5, hg5⟩
          have HI5 : Hid (Inv (step k g) w5) := hI5
          have HX5 : Hid (w5.heap[w.heap.size]? = some (.cells #[.slice (some ⟨kb, 0, none⟩) n cap, .pointer p1, .pointer p2] 53 (0, 0))) := (hg5.block _ (Array.getElem?_eq_some_iff.1 HX4.out).1 (by have := HPB.out; simp; omega)).trans HX4.out
          clear hI5 hg5 c0 c1 c2 c3
          go_wp2_with fail
          go_roundg (n - (k + 1))
          case measure => have := HGX.out; omega
          case rel => exact ⟨k + 1, y + d, by omega, rfl, by go_num, by go_num, by rw [HST.out.1]; have h1 := HM3.out; have h2 := HMK.out; omega, by rw [HST.out.2, HRC.out]; by_cases h1 : 0 < y <;> by_cases h2 : 0 < d <;> simp [h1, h2] <;> omega, by rw [HST.out.1]; exact HI5.out, HX5.out⟩
        · have hkn : k = n := by omega
          subst hkn
          obtain ⟨g, hg⟩ : ∃ g, g = rnd step k s := ⟨_, rfl⟩
          have HITR : Hid (g = itr step k (t + 1) s0) := by rw [hg, HS.out]; exact rfl
          have HZG : Hid (y = 0 → rchg step (fun k s => decide (0 < ad k s)) k g = false) := fun h => by
            have h1 := HRC.out
            rw [h] at h1
            have h2 := rnd_same step (fun k s => decide (0 < ad k s)) HSM.out s k h1
            rw [hg, h2]
            exact h1
          have HIG : Hid (Inv g wr) := by rw [hg]; exact HI2.out
          have HMG : Hid (y + mu g ≤ mu s) := by rw [hg]; exact HM2.out
          clear hg HI2 HM2 HRC
          go_wp2_with fail
          go_roundg (if y = 0 then 0 else mu g + 1)
          case measure =>
            have h1 := HGK.out
            have h2 := HZ0.out
            have h3 := HMG.out
            rw [if_neg h2] at h1
            split <;> omega
          case rel => exact ⟨y, t + 1, g, rfl, hyb, HITR.out, HZG.out, rfl, HIG.out, HX2.out⟩

end Go.Proofs.Ytljlkmiaemkokaa
