import Derived.Test.YthoamlahbnphkaaGreatQogkkekiiecob
import Derived.Test.YthoamlahbnphkaaGreatQpmhegafagbad
import Derived.Lib.TrailingZeros
import Derived.Test.YthoamlahbnphkaaGreatQnmigoemenbcm
import Derived.RangeFuncNested
import Derived.RangeFuncBound
import Derived.RangeFuncCalls
import Derived.RangeFuncLeaves
import Derived.Shelf.Abstract
import Derived.Shelf.RegionOpen
import Derived.OwnWalkIn
import Derived.TacticsInMore
import Derived.LoopNIn
import Derived.LoopIn
import Derived.Maps.AppendAt

/-
  first, pure: which symbols derive the empty row, and which terminals rows begin with.
-/
namespace Go.Proofs.YthoamlahbnphkaaGreat

section
variable (tn n : Nat) (L : Nat → Int) (R : Nat → List Int)

/-- The symbols that derive the empty row. -/
inductive Nul : Int → Prop
  | prod (k : Nat) (hk : k < n) (h : ∀ x ∈ R k, Nul x) : Nul (L k)

/-- The terminals that rows derived from a symbol begin with. -/
inductive Beg : Int → Int → Prop
  | term (t : Int) (h0 : 0 ≤ t) (h1 : t < (tn : Int)) : Beg t t
  | prod (k : Nat) (hk : k < n) (p : List Int) (x : Int) (s : List Int) (t : Int) (hr : R k = p ++ x :: s) (hp : ∀ y ∈ p, Nul n L R y) (hx : Beg x t) : Beg (L k) t

def RowN (l : List Int) : Prop := ∀ x ∈ l, Nul n L R x
def RowB (l : List Int) (t : Int) : Prop := ∃ p x s, l = p ++ x :: s ∧ (∀ y ∈ p, Nul n L R y) ∧ Beg tn n L R x t
end

/-- Do all symbols of a row vanish, as far as is found? -/
def rowV (v : Nat) (l : List Int) : Bool := l.all fun x => v.testBit x.toNat
/-- What a row begins with, as far as is found. -/
def rowM (v : Nat) (m : Nat → Nat) : List Int → Nat
  | [] => 0
  | x :: l => m x.toNat ||| (if v.testBit x.toNat = true then rowM v m l else 0)

theorem rowV_append (v : Nat) (p q : List Int) : rowV v (p ++ q) = (rowV v p && rowV v q) := by simp [rowV]
theorem rowM_append (v : Nat) (m : Nat → Nat) (q : List Int) : ∀ p : List Int, rowM v m (p ++ q) = rowM v m p ||| (if rowV v p = true then rowM v m q else 0)
  | [] => by simp [rowM, rowV]
  | x :: p => by
    have ih := rowM_append v m q p
    simp only [List.cons_append, rowM]
    cases h : v.testBit x.toNat with
    | true =>
      have e : rowV v (x :: p) = rowV v p := by simp [rowV, h]
      rw [ih, e]
      simp [Nat.or_assoc]
    | false =>
      have e : rowV v (x :: p) = false := by simp [rowV, h]
      rw [e]
      simp

theorem rowM_bit (v : Nat) (m : Nat → Nat) (t : Nat) : ∀ l : List Int, (rowM v m l).testBit t = true ↔ ∃ p x s, l = p ++ x :: s ∧ rowV v p = true ∧ (m x.toNat).testBit t = true
  | [] => by simp [rowM]
  | a :: l => by
    have ih := rowM_bit v m t l
    simp only [rowM, Nat.testBit_or, Bool.or_eq_true]
    constructor
    · rintro (h | h)
      · exact ⟨[], a, l, rfl, rfl, h⟩
      · cases hv : v.testBit a.toNat with
        | false => simp [hv] at h
        | true =>
          rw [hv, if_pos rfl] at h
          obtain ⟨p, x, s, e, h1, h2⟩ := ih.1 h
          exact ⟨a :: p, x, s, by rw [e]; rfl, by simp only [rowV, List.all_cons, hv, Bool.true_and]; exact h1, h2⟩
    · rintro ⟨p, x, s, e, h1, h2⟩
      cases p with
      | nil =>
        simp at e
        left; rw [e.1]; exact h2
      | cons b p =>
        simp at e
        obtain ⟨rfl, e⟩ := e
        simp only [rowV, List.all_cons, Bool.and_eq_true] at h1
        right
        rw [h1.1, if_pos rfl]
        exact ih.2 ⟨p, x, s, e, h1.2, h2⟩

/-- The symbols of a row, each where it stands first. -/
def unl (l : List Int) : List Int := l.foldl (fun u x => if u.contains x = true then u else u ++ [x]) []
theorem unl_snoc (l : List Int) (x : Int) : unl (l ++ [x]) = if (unl l).contains x = true then unl l else unl l ++ [x] := by
  unfold unl
  rw [List.foldl_append]
  rfl
theorem snoc_ind {P : List Int → Prop} (h0 : P []) (h1 : ∀ l x, P l → P (l ++ [x])) : ∀ l, P l := fun l => by
  have : ∀ k (l : List Int), l.length = k → P l := by
    intro k
    induction k with
    | zero => intro l hl; rw [List.length_eq_zero_iff.1 hl]; exact h0
    | succ k ih =>
      intro l hl
      rcases List.eq_nil_or_concat l with rfl | ⟨l', x, rfl⟩
      · exact h0
      · rw [List.concat_eq_append] at hl ⊢
        refine h1 l' x (ih l' ?_)
        simp at hl; exact hl
  exact this _ l rfl
theorem unl_mem (l : List Int) : ∀ x, x ∈ unl l ↔ x ∈ l := by
  induction l using snoc_ind with
  | h0 => intro x; simp [unl]
  | h1 l a ih =>
    intro x
    rw [unl_snoc]
    by_cases h : (unl l).contains a = true
    · rw [if_pos h, ih, List.mem_append]
      have ha : a ∈ l := (ih a).1 (by simpa using h)
      constructor
      · exact fun h => .inl h
      · rintro (h | h)
        · exact h
        · simp at h; rw [h]; exact ha
    · rw [if_neg h, List.mem_append, List.mem_append, ih]
theorem unl_len (l : List Int) : (unl l).length ≤ l.length := by
  induction l using snoc_ind with
  | h0 => simp [unl]
  | h1 l a ih =>
    rw [unl_snoc]
    split
    · simp; omega
    · simp; omega
theorem unl_nodup (l : List Int) : (unl l).Nodup := by
  induction l using snoc_ind with
  | h0 => simp [unl]
  | h1 l a ih =>
    rw [unl_snoc]
    split
    · exact ih
    · rename_i h
      rw [List.nodup_append]
      refine ⟨ih, by simp, fun x hx y hy => ?_⟩
      simp at hy
      rw [hy]
      intro e
      rw [e] at hx
      exact h (by simpa using hx)
theorem unl_rowV (v : Nat) (l : List Int) : rowV v (unl l) = rowV v l := by
  have : (rowV v (unl l) = true) ↔ (rowV v l = true) := by
    unfold rowV
    rw [List.all_eq_true, List.all_eq_true]
    exact ⟨fun h x hx => h x ((unl_mem l x).2 hx), fun h x hx => h x ((unl_mem l x).1 hx)⟩
  cases h1 : rowV v (unl l) <;> cases h2 : rowV v l <;> simp_all
theorem unl_rowM (v : Nat) (m : Nat → Nat) (l : List Int) : rowM v m (unl l) = rowM v m l := by
  induction l using snoc_ind with
  | h0 => rfl
  | h1 l a ih =>
    rw [unl_snoc, rowM_append]
    by_cases h : (unl l).contains a = true
    · rw [if_pos h, ih]
      cases hv : rowV v l with
      | false => simp
      | true =>
        rw [if_pos rfl]
        have ha : a ∈ l := (unl_mem l a).1 (by simpa using h)
        apply Nat.eq_of_testBit_eq
        intro t
        rw [Nat.testBit_or]
        cases ht : (rowM v m l).testBit t with
        | true => simp
        | false =>
          rw [Bool.false_or]
          have : ¬ (rowM v m [a]).testBit t = true := by
            intro h2
            rw [rowM_bit] at h2
            obtain ⟨p, x, s, e, _, h3⟩ := h2
            have hx : x = a := by
              have : x ∈ [a] := by rw [e]; simp
              simpa using this
            subst hx
            obtain ⟨p', s', rfl⟩ := List.append_of_mem ha
            have : (rowM v m (p' ++ x :: s')).testBit t = true := (rowM_bit v m t _).2 ⟨p', x, s', rfl, by rw [rowV_append, Bool.and_eq_true] at hv; exact hv.1, h3⟩
            rw [ht] at this
            cases this
          cases h5 : (rowM v m [a]).testBit t with
          | false => rfl
          | true => exact absurd h5 this
    · rw [if_neg h, rowM_append, ih, unl_rowV]

/-- One value turned. -/
def upd (m : Nat → Nat) (i y : Nat) : Nat → Nat := fun j => if j = i then y else m j
theorem upd_same (m : Nat → Nat) (i y : Nat) : upd m i y i = y := by simp [upd]
theorem upd_other (m : Nat → Nat) {i j : Nat} (y : Nat) (h : j ≠ i) : upd m i y j = m j := by simp [upd, h]

/-- How much is found. -/
def sumC (m : Nat → Nat) : Nat → Nat
  | 0 => 0
  | k + 1 => sumC m k + B.cnt (m k)
theorem sumC_out (m : Nat → Nat) (i y : Nat) : ∀ k, k ≤ i → sumC (upd m i y) k = sumC m k
  | 0, _ => rfl
  | k + 1, h => by simp only [sumC]; rw [sumC_out m i y k (by omega), upd_other m y (by omega)]
theorem sumC_upd (m : Nat → Nat) (i y : Nat) : ∀ k, i < k → sumC (upd m i y) k + B.cnt (m i) = sumC m k + B.cnt y
  | 0, h => by omega
  | k + 1, h => by
    simp only [sumC]
    by_cases e : i = k
    · subst e
      rw [sumC_out m i y i (Nat.le_refl _), upd_same]
      omega
    · have := sumC_upd m i y k (by omega)
      rw [upd_other m y (fun h => e h.symm)]
      omega
theorem sumC_le (m : Nat → Nat) : ∀ k, sumC m k ≤ 1024 * k
  | 0 => by simp [sumC]
  | k + 1 => by have := sumC_le m k; have := cnt_le (m k); simp only [sumC]; omega
def tot (S v : Nat) (m : Nat → Nat) : Nat := B.cnt v + sumC m S
theorem tot_le (S v : Nat) (m : Nat → Nat) : tot S v m ≤ 1024 * (S + 1) := by
  have := sumC_le m S
  have := cnt_le v
  unfold tot; omega
theorem cnt_or (a b : Nat) : B.cnt a ≤ B.cnt (a ||| b) := (pc_or 1024 a b).1
theorem cnt_or_same {a b k : Nat} (hk : k ≤ 1024) (hb : b < 2 ^ k) (h : B.cnt (a ||| b) = B.cnt a) : a ||| b = a := by
  have h2 := (pc_or 1024 a b).2.1 h
  apply Nat.eq_of_testBit_eq
  intro i
  rw [Nat.testBit_or]
  by_cases hi : i < 1024
  · have := h2 i hi
    cases hbi : b.testBit i with
    | false => simp
    | true => simp [this hbi]
  · have : b.testBit i = false := Nat.testBit_lt_two_pow (Nat.lt_of_lt_of_le hb (Nat.pow_le_pow_right (Nat.succ_pos 1) (Nat.le_trans hk (by omega))))
    simp [this]

section
variable {tn S n : Nat} {L : Nat → Int} {R : Nat → List Int} {v : Nat} {m : Nat → Nat}
/-- What is found is so. -/
def Sound (tn n : Nat) (L : Nat → Int) (R : Nat → List Int) (v : Nat) (m : Nat → Nat) : Prop :=
  (∀ i : Nat, v.testBit i = true → Nul n L R (i : Int)) ∧ (∀ i t : Nat, (m i).testBit t = true → Beg tn n L R (i : Int) (t : Int)) ∧ ∀ t, t < tn → (m t).testBit t = true
/-- A production adds nothing more. -/
def ClosedAt (L : Nat → Int) (R : Nat → List Int) (v : Nat) (m : Nat → Nat) (k : Nat) : Prop :=
  (rowV v (R k) = true → v.testBit (L k).toNat = true) ∧ ∀ t : Nat, (rowM v m (R k)).testBit t = true → (m (L k).toNat).testBit t = true
/-- All is found. -/
structure Found (tn n : Nat) (L : Nat → Int) (R : Nat → List Int) (v : Nat) (m : Nat → Nat) : Prop where
  nul : ∀ i : Nat, v.testBit i = true ↔ Nul n L R (i : Int)
  beg : ∀ i t : Nat, (m i).testBit t = true ↔ Beg tn n L R (i : Int) (t : Int)

theorem sound_row (h : Sound tn n L R v m) {l : List Int} (hl : ∀ x ∈ l, (0 : Int) ≤ x) : (rowV v l = true → ∀ x ∈ l, Nul n L R x) ∧ ∀ t : Nat, (rowM v m l).testBit t = true → RowB tn n L R l (t : Int) := by
  have key : ∀ l : List Int, (∀ x ∈ l, (0 : Int) ≤ x) → rowV v l = true → ∀ x ∈ l, Nul n L R x := fun l hl hv x hx => by
    have := List.all_eq_true.1 hv x hx
    have h2 := h.1 _ this
    rwa [Int.toNat_of_nonneg (hl x hx)] at h2
  refine ⟨key l hl, fun t ht => ?_⟩
  obtain ⟨p, x, s, rfl, h1, h2⟩ := (rowM_bit v m t l).1 ht
  refine ⟨p, x, s, rfl, key p (fun y hy => hl y (by simp [hy])) h1, ?_⟩
  have := h.2.1 _ _ h2
  rwa [Int.toNat_of_nonneg (hl x (by simp))] at this

theorem sound_step (h : Sound tn n L R v m) {k : Nat} (hk : k < n) (hL : (0 : Int) ≤ L k) (hR : ∀ x ∈ R k, (0 : Int) ≤ x) :
    Sound tn n L R (if rowV v (R k) = true then v ||| 2 ^ (L k).toNat else v) (upd m (L k).toNat (m (L k).toNat ||| rowM v m (R k))) := by
  have hr := sound_row h hR
  refine ⟨fun i hi => ?_, fun i t hi => ?_, fun t ht => ?_⟩
  · by_cases hv : rowV v (R k) = true
    · rw [if_pos hv, Nat.testBit_or, Bool.or_eq_true, Nat.testBit_two_pow] at hi
      rcases hi with hi | hi
      · exact h.1 i hi
      · have e : (L k).toNat = i := by simpa using hi
        rw [← e, Int.toNat_of_nonneg hL]
        exact .prod k hk (hr.1 hv)
    · rw [if_neg hv] at hi
      exact h.1 i hi
  · by_cases e : i = (L k).toNat
    · subst e
      rw [upd_same, Nat.testBit_or, Bool.or_eq_true] at hi
      rcases hi with hi | hi
      · exact h.2.1 _ _ hi
      · obtain ⟨p, x, s, e, h1, h2⟩ := hr.2 t hi
        rw [Int.toNat_of_nonneg hL]
        exact .prod k hk p x s t e h1 h2
    · rw [upd_other _ _ e] at hi
      exact h.2.1 _ _ hi
  · by_cases e : t = (L k).toNat
    · subst e
      rw [upd_same, Nat.testBit_or, h.2.2 _ ht]
      rfl
    · rw [upd_other _ _ e]
      exact h.2.2 t ht

theorem found_of (h : Sound tn n L R v m) (hc : ∀ k, k < n → ClosedAt L R v m k) : Found tn n L R v m := by
  have hN : ∀ x, Nul n L R x → v.testBit x.toNat = true := by
    intro x hx
    induction hx with
    | prod k hk _ ih => exact (hc k hk).1 (List.all_eq_true.2 ih)
  have hB : ∀ x t, Beg tn n L R x t → (m x.toNat).testBit t.toNat = true := by
    intro x t hx
    induction hx with
    | term t h0 h1 => exact h.2.2 _ (by omega)
    | prod k hk p x s t hr hp _ ih =>
      exact (hc k hk).2 _ ((rowM_bit v m _ _).2 ⟨p, x, s, hr, List.all_eq_true.2 fun y hy => hN y (hp y hy), ih⟩)
  refine ⟨fun i => ⟨h.1 i, fun hi => ?_⟩, fun i t => ⟨h.2.1 i t, fun hi => ?_⟩⟩
  · have := hN _ hi; simpa using this
  · have := hB _ _ hi; simpa using this

theorem sound_start (tn n : Nat) (L : Nat → Int) (R : Nat → List Int) : Sound tn n L R 0 (fun i => if i < tn then 2 ^ i else 0) := by
  refine ⟨fun i hi => by simp at hi, fun i t hi => ?_, fun t ht => ?_⟩
  · by_cases h : i < tn
    · simp only [h, if_true, Nat.testBit_two_pow] at hi
      have : i = t := by simpa using hi
      subst this
      exact .term _ (by omega) (by omega)
    · simp [h] at hi
  · simp only [ht, if_true, Nat.testBit_two_pow]
    simp

theorem Found.row (h : Found tn n L R v m) {l : List Int} (hl : ∀ x ∈ l, (0 : Int) ≤ x) : (rowV v l = true ↔ RowN n L R l) ∧ ∀ t : Nat, (rowM v m l).testBit t = true ↔ RowB tn n L R l (t : Int) := by
  have key : ∀ l : List Int, (∀ x ∈ l, (0 : Int) ≤ x) → (rowV v l = true ↔ ∀ x ∈ l, Nul n L R x) := fun l hl => by
    unfold rowV
    rw [List.all_eq_true]
    refine forall_congr' fun x => forall_congr' fun hx => ?_
    rw [h.nul, Int.toNat_of_nonneg (hl x hx)]
  refine ⟨key l hl, fun t => ?_⟩
  rw [rowM_bit]
  unfold RowB
  refine exists_congr fun p => exists_congr fun x => exists_congr fun s => ?_
  constructor
  · rintro ⟨e, h1, h2⟩
    subst e
    rw [key p fun y hy => hl y (by simp [hy])] at h1
    rw [h.beg, Int.toNat_of_nonneg (hl x (by simp))] at h2
    exact ⟨rfl, h1, h2⟩
  · rintro ⟨e, h1, h2⟩
    subst e
    refine ⟨rfl, (key p fun y hy => hl y (by simp [hy])).2 h1, ?_⟩
    rw [h.beg, Int.toNat_of_nonneg (hl x (by simp))]
    exact h2
end

end Go.Proofs.YthoamlahbnphkaaGreat

/-
  TrailingZeros64; the members of a set in rising order; what going over them does with a word's rest. 
-/
namespace Go.Proofs.YthoamlahbnphkaaGreat.B
open Go.RowKit

/-- The library's table lies in its variable. -/
def Tab (w : World) : Prop := ∀ j, j < 64 → w.cell? ⟨0, j, none⟩ = some (.int .u8 (Lib.deBruijn64tab.getD j 0 : Nat))

theorem Tab.below {w w' : World} {B : Nat} (h : Tab w) (hb : Below B w w') (hB : 0 < B) : Tab w' := fun j hj => (hb.cell (p := ⟨0, j, none⟩) hB).trans (h j hj)

theorem tz_key (x a : Nat) (hx : x < 18446744073709551616) (hx0 : x ≠ 0) (hlow : x &&& (18446744073709551616 - x) = a) :
    IntKind.u64.wrap (bits BinOp.and IntKind.u64 (x : Int) (IntKind.u64.wrap (-(x : Int))) * 285870213051353865) / 288230376151711744 = ((a * 285870213051353865 % 18446744073709551616 / 288230376151711744 : Nat) : Int) := by
  have e1 : IntKind.u64.wrap (-(x : Int)) = ((18446744073709551616 - x : Nat) : Int) := by rw [IntKind.wrap_u64]; omega
  rw [e1, bits_and_u64_nat x _ hx (by omega), hlow, IntKind.wrap_u64]
  omega

/-- The members below k, rising. -/
def mems (k m : Nat) : List Int := ((List.range k).filter (fun i => m.testBit i)).map (fun i : Nat => (i : Int))

theorem mems_succ (k m : Nat) : mems (k + 1) m = mems k m ++ (if m.testBit k then [(k : Int)] else []) := by
  unfold mems
  rw [List.range_succ, List.filter_append, List.map_append]
  cases h : m.testBit k <;> simp [h]

theorem mems_skip (m k j : Nat) (h : ∀ s, k ≤ s → s < k + j → m.testBit s = false) : mems (k + j) m = mems k m := by
  induction j with
  | zero => rfl
  | succ j ih =>
    rw [← Nat.add_assoc, mems_succ, h (k + j) (by omega) (by omega), ih (fun s h1 h2 => h s h1 (by omega))]
    simp

theorem mems_hit (m k j : Nat) (h : ∀ s, k ≤ s → s < k + j → m.testBit s = false) (ht : m.testBit (k + j) = true) : mems (k + j + 1) m = mems k m ++ [((k + j : Nat) : Int)] := by
  rw [mems_succ, mems_skip m k j h, ht]
  rfl

theorem mems_length (k m : Nat) : (mems k m).length = pc k m := by
  have h : ∀ k m : Nat, pc (k + 1) m = pc k m + (if m.testBit k then 1 else 0) := by
    intro k m
    rw [pc_add k 1 m]
    have e : pc 1 (m / 2 ^ k) = m / 2 ^ k % 2 := by simp [pc, ds]
    rw [e]
    congr 1
    rw [Nat.testBit_eq_decide_div_mod_eq]
    have : m / 2 ^ k % 2 < 2 := Nat.mod_lt _ (by decide)
    by_cases h : m / 2 ^ k % 2 = 1
    · simp [h]
    · simp [h]; omega
  induction k with
  | zero => rfl
  | succ k ih => rw [mems_succ, List.length_append, ih, h]; cases m.testBit k <;> simp

/-- The rest of a word from bit j on. -/
def RestOf (x j r : Nat) : Prop := ∀ s, r.testBit s = (decide (j ≤ s) && x.testBit s)

theorem RestOf.start (x : Nat) : RestOf x 0 x := fun s => by simp

theorem RestOf.zero {x j : Nat} (h : RestOf x j 0) : ∀ s, j ≤ s → x.testBit s = false := fun s hs => by
  have := h s
  simp [hs] at this
  exact this

/-- The lowest bit is taken away. -/
theorem rest_next {x j r t : Nat} (h : RestOf x j r) (ht : r.testBit t = true) (hlow : ∀ s, s < t → r.testBit s = false) : RestOf x (t + 1) (r &&& (r - 1)) := by
  have hr : r ≠ 0 := by intro e; rw [e] at ht; simp at ht
  -- r = 2^t (2 q + 1)
  have hdiv : r % 2 ^ t = 0 := by
    apply Nat.eq_of_testBit_eq
    intro s
    rw [Nat.testBit_mod_two_pow, Nat.zero_testBit]
    by_cases hs : s < t
    · simp [hlow s hs]
    · simp [hs]
  have hq : r / 2 ^ t % 2 = 1 := by
    rw [Nat.testBit_eq_decide_div_mod_eq] at ht
    simpa using ht
  have hpos : 0 < 2 ^ t := Nat.two_pow_pos t
  have e1 : r = 2 ^ t * (r / 2 ^ t) := by have := Nat.div_add_mod r (2 ^ t); omega
  obtain ⟨q, hq2⟩ : ∃ q, r / 2 ^ t = 2 * q + 1 := ⟨r / 2 ^ t / 2, by omega⟩
  have e2 : r = 2 ^ (t + 1) * q + 2 ^ t := by rw [hq2] at e1; rw [e1, Nat.pow_succ, Nat.mul_add, Nat.mul_one, Nat.mul_assoc]
  have e3 : r - 1 = 2 ^ (t + 1) * q + (2 ^ t - 1) := by omega
  have l1 : 2 ^ t < 2 ^ (t + 1) := two_pow_lt (by omega)
  have l2 : 2 ^ t - 1 < 2 ^ (t + 1) := by omega
  intro s
  rw [Nat.testBit_and]
  have hs := h s
  have hj : j ≤ t := by
    apply Classical.byContradiction
    intro hc
    have := h t
    rw [ht] at this
    simp [show ¬ j ≤ t by omega] at this
  by_cases h1 : s < t + 1
  · have hz : (r - 1).testBit s = (2 ^ t - 1).testBit s := by rw [e3, Nat.testBit_two_pow_mul_add _ l2, if_pos h1]
    have : ¬ t + 1 ≤ s := by omega
    by_cases h2 : s = t
    · subst h2
      rw [hz, Nat.testBit_two_pow_sub_one]
      simp
      omega
    · rw [hlow s (by omega)]
      simp [this]
  · have hz : (r - 1).testBit s = r.testBit s := by
      rw [e3, Nat.testBit_two_pow_mul_add _ l2, if_neg h1, e2, Nat.testBit_two_pow_mul_add _ l1, if_neg h1]
    rw [hz, Bool.and_self, hs]
    have a1 : j ≤ s := by omega
    have a2 : t + 1 ≤ s := by omega
    simp [a1, a2]

theorem rest_lt {r : Nat} (h : r ≠ 0) : r &&& (r - 1) < r := by
  have : r &&& (r - 1) ≤ r - 1 := Nat.and_le_right
  omega

end Go.Proofs.YthoamlahbnphkaaGreat.B

/-
  What All does, and what it hands back: going over the members, rising.
-/
namespace Go.Proofs.YthoamlahbnphkaaGreat.B
open Go.RowKit Go.Shelf

attribute [local go_sem] Oper.semAt_some

theorem wpListIn_load_mid {F : Fence} {k : Nat} {P : Program} {ops : Array Oper} {rest : List Oper} {op : Oper} {a : Act} {w : World} {Q : Exit → Act → World → Prop} (hgd : op.guard = none) (ty : TypeId) (x : Operand) (ho : op.op = .load ty x)
    (b o : Nat) (hx : a.eval x = .pointer (some ⟨b, o, none⟩)) (cs : List Value) (d : TypeDesc) (hc : w.rangeAt b o cs)
    (hu : P.underlying ty = some d) (hd : d.isRow = true) (hi : (P.info? ty).map (·.size) = some cs.length)
    (h : wpListIn F k P ops Q rest (a.put op.dst (.agg cs.toArray)) w) : wpListIn F k P ops Q (op :: rest) a w := by
  refine wpListIn_plain hgd fun K hK => ?_
  unfold Oper.wpIn
  refine ⟨by simp [Oper.about, ho], ?_⟩
  rw [Oper.semAt_plain F _ _ (by rw [ho]; intro c hc'; cases hc')]
  simp only [execOp, ho, hx, Instr.loadAt, Instr.sureAddr, Sem.run_bind, Sem.run_pure, Result.andThen_ok, run_loadVar_mid w b o ty cs d hc hu hd hi]
  exact hK _ _ h

theorem RowAt.words {w : World} {b n : Nat} {f : Nat → Nat} (h : RowAt w b n f) : w.rangeAt b 1 (wordsL f) := fun j v hv => by
  have hj : j < 16 := by have := (List.getElem?_eq_some_iff.1 hv).1; simpa [wordsL_length] using this
  rw [wordsL_at f j hj] at hv
  rw [h.word j hj, hv]

theorem mems_mono {k k' m : Nat} (h : k ≤ k') : mems k m <+: mems k' m := by
  obtain ⟨d, rfl⟩ : ∃ d, k' = k + d := ⟨k' - k, by omega⟩
  clear h
  induction d with
  | zero => exact List.prefix_refl _
  | succ d ih => rw [← Nat.add_assoc, mems_succ]; exact ih.trans (List.prefix_append _ _)

end Go.Proofs.YthoamlahbnphkaaGreat.B

/-
  What Members does.
-/
namespace Go.Proofs.YthoamlahbnphkaaGreat.B
open Go.RowKit Go.Shelf

attribute [local go_sem] Oper.semAt_some

theorem info3 : (Tryz.prog.info? 3).map (fun i => (i.zero, i.size, i.bytes)) = some (some (.int .i64 0), 1, 8) := by kernel_rfl

end Go.Proofs.YthoamlahbnphkaaGreat.B

/-
  first: sets and what is found, in memory.
-/
namespace Go.Proofs.YthoamlahbnphkaaGreat
open Go.RowKit Go.Maps Go.Shelf

/-- One member more. -/
theorem add_one (b n m bl : Nat) (x : Int) (w : World) (hS : B.SetM w (some ⟨b, 0, none⟩) n m) (hne : bl ≠ b) (hl : w.cell? ⟨bl, 0, none⟩ = some (.int .i64 x)) :
    Calls Tryz.prog 125 #[.pointer (some ⟨b, 0, none⟩), .slice (some ⟨bl, 0, none⟩) 1 1] w fun e w' => e = .returned (.int .i64 ((B.addS n m [x]).2 : Nat)) ∧ B.SetM w' (some ⟨b, 0, none⟩) n (B.addS n m [x]).1 ∧ w.grownBy w' (some b) := by
  have h1 : ∀ i, i < [x].length → w.cell? ⟨bl, 0 + i, none⟩ = some (.int .i64 ([x].getD i 0)) := fun i hi => by
    have : i = 0 := by simpa using hi
    subst this
    exact hl
  refine Calls.mono (B.add_row b n m bl 0 1 [x] w hS.1 hS.2.1 (SetM_row hS) hne (by simp) h1) ?_
  rintro e w' ⟨he, hr, hlt, hb⟩
  exact ⟨he, B.SetM.of hr hS.1 hlt, hb.os, hb.tape, hb.output, hb.size, fun k hk hne => hb.block k hk (by simpa using hne)⟩

theorem grown_some {w w' : World} (b : Nat) (h : w.grownBy w' none) : w.grownBy w' (some b) := ⟨h.os, h.tape, h.output, h.size, fun k hk _ => h.block k hk (by simp)⟩
theorem grown_then {w w1 w2 : World} {b : Nat} (h : w.grownBy w1 none) (hg : w1.grownBy w2 (some b)) : w.grownBy w2 (some b) :=
  ⟨hg.os.trans h.os, hg.tape.trans h.tape, hg.output.trans h.output, Nat.le_trans h.size hg.size, fun k hk hne => (hg.block k (Nat.lt_of_lt_of_le hk h.size) hne).trans (h.block k hk (by simp))⟩

/-- Of what was there, blocks from lo on below hi alone may have turned. -/
structure Outside (lo hi : Nat) (X Y : World) : Prop where
  os : Y.os = X.os
  tape : Y.tape = X.tape
  output : Y.output = X.output
  size : X.heap.size ≤ Y.heap.size
  block : ∀ j, j < X.heap.size → (j < lo ∨ hi ≤ j) → Y.heap[j]? = X.heap[j]?
theorem Outside.kept {lo hi : Nat} {X Y Z : World} (h : Outside lo hi X Y) (hg : Y.grownBy Z none) : Outside lo hi X Z :=
  ⟨hg.os.trans h.os, hg.tape.trans h.tape, hg.output.trans h.output, Nat.le_trans h.size hg.size, fun j hj ho => (hg.block j (Nat.lt_of_lt_of_le hj h.size) (by simp)).trans (h.block j hj ho)⟩
theorem Outside.at {lo hi b : Nat} {X Y Z : World} (h : Outside lo hi X Y) (hg : Y.grownBy Z (some b)) (h1 : lo ≤ b) (h2 : b < hi) : Outside lo hi X Z :=
  ⟨hg.os.trans h.os, hg.tape.trans h.tape, hg.output.trans h.output, Nat.le_trans h.size hg.size, fun j hj ho => (hg.block j (Nat.lt_of_lt_of_le hj h.size) (by simp; omega)).trans (h.block j hj ho)⟩
theorem Outside.grown {lo hi : Nat} {w X Y : World} (h : Outside lo hi X Y) (hw : w.grownBy X none) (hl : w.heap.size ≤ lo) : w.grownBy Y none :=
  ⟨h.os.trans hw.os, h.tape.trans hw.tape, h.output.trans hw.output, Nat.le_trans hw.size h.size, fun j hj _ => (h.block j (Nat.lt_of_lt_of_le hj hw.size) (.inl (by omega))).trans (hw.block j hj (by simp))⟩

/-- A union with one other of the same size. -/
theorem union_in (b c n m s bl : Nat) (w : World) (hm : B.SetM w (some ⟨b, 0, none⟩) n m) (hs : B.SetM w (some ⟨c, 0, none⟩) n s) (hne : c ≠ b) (hnl : bl ≠ b) (hl : w.cell? ⟨bl, 0, none⟩ = some (.pointer (some ⟨c, 0, none⟩))) :
    Calls Tryz.prog 127 #[.pointer (some ⟨b, 0, none⟩), .slice (some ⟨bl, 0, none⟩) 1 1] w fun e w' =>
      e = .returned (.int .i64 (((B.cnt (m ||| s) : Nat) : Int) - (B.cnt m : Nat))) ∧ B.SetM w' (some ⟨b, 0, none⟩) n (m ||| s) ∧ w.grownBy w' (some b) := by
  have e : s &&& (2 ^ n - 1) = s := by rw [Nat.and_two_pow_sub_one_eq_mod]; exact Nat.mod_eq_of_lt hs.2.1
  exact union_one b c n m s bl w hm hs hne hnl hl _ (by rw [e]) _ (by rw [e])

theorem addS_one {n m i : Nat} (hi : i < n) : B.addS n m [(i : Int)] = if m.testBit i = true then (m, 0) else (m ||| 2 ^ i, 1) := by
  have h1 : B.inB n (i : Int) = true := by simp [B.inB, hi]
  have h2 : B.hasB m (i : Int) = m.testBit i := by simp [B.hasB]
  show B.addStep n (m, 0) (i : Int) = _
  unfold B.addStep
  rw [h1]
  simp only [h2, Bool.true_and, Int.toNat_natCast]
  cases m.testBit i <;> rfl
theorem or_bit_same {m i : Nat} (h : m.testBit i = true) : m ||| 2 ^ i = m := by
  apply Nat.eq_of_testBit_eq
  intro j
  rw [Nat.testBit_or, Nat.testBit_two_pow]
  by_cases e : i = j
  · subst e; simp [h]
  · simp [e]
/-- One member below the size more. -/
theorem add_in (b n m bl i : Nat) (hi : i < n) (w : World) (hS : B.SetM w (some ⟨b, 0, none⟩) n m) (hne : bl ≠ b) (hl : w.cell? ⟨bl, 0, none⟩ = some (.int .i64 (i : Int))) :
    Calls Tryz.prog 125 #[.pointer (some ⟨b, 0, none⟩), .slice (some ⟨bl, 0, none⟩) 1 1] w fun e w' => e = .returned (.int .i64 ((if m.testBit i = true then 0 else 1 : Nat) : Int)) ∧ B.SetM w' (some ⟨b, 0, none⟩) n (m ||| 2 ^ i) ∧ w.grownBy w' (some b) := by
  refine (add_one b n m bl (i : Int) w hS hne hl).mono ?_
  rintro e w' ⟨rfl, h2, h3⟩
  rw [addS_one hi] at h2 ⊢
  cases h : m.testBit i with
  | true => rw [h] at h2; exact ⟨rfl, by rw [or_bit_same h]; exact h2, h3⟩
  | false => rw [h] at h2; exact ⟨rfl, h2, h3⟩
theorem cnt_add {m i : Nat} (hi : i < 1024) (h : m.testBit i = false) : B.cnt (m ||| 2 ^ i) = B.cnt m + 1 := by
  have key : ∀ k m, B.pc (k + 1) m = B.pc k m + (if m.testBit k = true then 1 else 0) := by
    intro k m
    rw [← B.mems_length, ← B.mems_length, B.mems_succ, List.length_append]
    cases m.testBit k <;> simp
  have hb : ∀ j, (m ||| 2 ^ i).testBit j = (m.testBit j || decide (i = j)) := fun j => by rw [Nat.testBit_or, Nat.testBit_two_pow]
  have below : ∀ k, k ≤ i → B.pc k (m ||| 2 ^ i) = B.pc k m := by
    intro k
    induction k with
    | zero => intro _; simp [B.pc, B.ds]
    | succ k ih =>
      intro hk
      rw [key, key, ih (by omega), hb]
      have : ¬ i = k := by omega
      simp [this]
  have above : ∀ d, B.pc (i + 1 + d) (m ||| 2 ^ i) = B.pc (i + 1 + d) m + 1 := by
    intro d
    induction d with
    | zero =>
      rw [Nat.add_zero, key, key, below i (Nat.le_refl _), hb, h]
      simp
    | succ d ih =>
      rw [← Nat.add_assoc, key, key, ih, hb]
      have : ¬ i = i + 1 + d := by omega
      simp [this]
      omega
  have := above (1024 - (i + 1))
  rw [show i + 1 + (1024 - (i + 1)) = 1024 by omega] at this
  exact this

/-- What is found, in memory: a row of sets, by symbol, and the set of what vanishes. -/
structure FAt (w : World) (lo hi tn S fb vb : Nat) (f : Nat → Nat) (v : Nat) (m : Nat → Nat) : Prop where
  row : ∀ i, i < S → w.cell? ⟨fb, i, none⟩ = some (.pointer (some ⟨f i, 0, none⟩))
  sets : ∀ i, i < S → B.SetM w (some ⟨f i, 0, none⟩) tn (m i)
  van : B.SetM w (some ⟨vb, 0, none⟩) S v
  rng : (lo ≤ vb ∧ vb < hi) ∧ (lo ≤ fb ∧ fb < hi) ∧ ∀ i, i < S → lo ≤ f i ∧ f i < hi
  inj : ∀ i j, i < S → j < S → f i = f j → i = j
  ne : vb ≠ fb ∧ ∀ i, i < S → f i ≠ vb ∧ f i ≠ fb
section
variable {w w' : World} {lo hi tn S fb vb : Nat} {f : Nat → Nat} {v : Nat} {m : Nat → Nat}
theorem FAt.kept (h : FAt w lo hi tn S fb vb f v m) (hg : w.grownBy w' none) : FAt w' lo hi tn S fb vb f v m :=
  ⟨fun i hi => hg.cell (h.row i hi) (by simp), fun i hi => SetM_kept (h.sets i hi) hg, SetM_kept h.van hg, h.rng, h.inj, h.ne⟩
theorem FAt.other {c : Nat} (h : FAt w lo hi tn S fb vb f v m) (hg : w.grownBy w' (some c)) (hc : c < lo ∨ hi ≤ c) : FAt w' lo hi tn S fb vb f v m :=
  ⟨fun i hi => hg.cell (h.row i hi) (by have := h.rng.2.1; simp; omega), fun i hi => SetM_at (h.sets i hi) hg (by have := h.rng.2.2 i hi; omega), SetM_at h.van hg (by have := h.rng.1; omega), h.rng, h.inj, h.ne⟩
theorem FAt.setB {i y : Nat} (h : FAt w lo hi tn S fb vb f v m) (hiS : i < S) (hg : w.grownBy w' (some (f i))) (hS : B.SetM w' (some ⟨f i, 0, none⟩) tn y) : FAt w' lo hi tn S fb vb f v (upd m i y) :=
  ⟨fun j hj => hg.cell (h.row j hj) (by have := (h.ne.2 i hiS).2; simp; omega), fun j hj => by
    by_cases e : j = i
    · subst e; rw [upd_same]; exact hS
    · rw [upd_other _ _ e]; exact SetM_at (h.sets j hj) hg (fun e2 => e (h.inj j i hj hiS e2)), SetM_at h.van hg (by have := (h.ne.2 i hiS).1; omega), h.rng, h.inj, h.ne⟩
theorem FAt.setV {y : Nat} (h : FAt w lo hi tn S fb vb f v m) (hg : w.grownBy w' (some vb)) (hS : B.SetM w' (some ⟨vb, 0, none⟩) S y) : FAt w' lo hi tn S fb vb f y m :=
  ⟨fun j hj => hg.cell (h.row j hj) (by have := h.ne.1; simp; omega), fun j hj => SetM_at (h.sets j hj) hg (h.ne.2 j hj).1, hS, h.rng, h.inj, h.ne⟩
end

theorem has_in (b n m i : Nat) (w : World) (h : B.SetM w (some ⟨b, 0, none⟩) n m) : Calls Tryz.prog 68 #[.pointer (some ⟨b, 0, none⟩), .int .i64 (i : Int)] w fun e w' => e = .returned (.bool (m.testBit i)) ∧ w.grownBy w' none := by
  refine (B.has_any _ n m (i : Int) w h).mono ?_
  rintro e w' ⟨rfl, k, rfl⟩
  exact ⟨by simp [B.hasB], grown_drewN _ _⟩

end Go.Proofs.YthoamlahbnphkaaGreat

/-
  first: what a row begins with, as far as is found (ofRow), and add.
-/
namespace Go.Proofs.YthoamlahbnphkaaGreat
open Go.RowKit Go.Maps Go.Shelf

attribute [local go_sem] Oper.semAt_some

theorem boxKept {X Y : World} {b : Nat} {o : Obj} (h : X.heap[b]? = some o) (hg : X.grownBy Y none) : Hid (Y.heap[b]? = some o) := (hg.block b (Array.getElem?_eq_some_iff.1 h).1 (by simp)).trans h

/-- The box of found, and what it holds. -/
structure FB (w X : World) (fb0 : Nat) (lo hi tn S fb vb : Nat) (f : Nat → Nat) (v : Nat) (m : Nat → Nat) : Prop where
  grown : w.grownBy X none
  box : X.heap[fb0]? = some (.cells #[.int .i64 (tn : Int), .pointer (some ⟨vb, 0, none⟩), .slice (some ⟨fb, 0, none⟩) S S] 126 (0, 0))
  fat : FAt X lo hi tn S fb vb f v m
section
variable {w X Y : World} {fb0 lo hi tn S fb vb : Nat} {f : Nat → Nat} {v : Nat} {m : Nat → Nat}
theorem FB.kept (h : FB w X fb0 lo hi tn S fb vb f v m) (hg : X.grownBy Y none) : FB w Y fb0 lo hi tn S fb vb f v m := ⟨grown_trans h.grown hg, (boxKept h.box hg).out, h.fat.kept hg⟩
theorem FB.cells (h : FB w X fb0 lo hi tn S fb vb f v m) : X.cell? ⟨fb0, 0, none⟩ = some (.int .i64 (tn : Int)) ∧ X.cell? ⟨fb0, 1, none⟩ = some (.pointer (some ⟨vb, 0, none⟩)) ∧ X.cell? ⟨fb0, 2, none⟩ = some (.slice (some ⟨fb, 0, none⟩) S S) := by
  refine ⟨?_, ?_, ?_⟩ <;> rw [cell_of_row _ _ _ _ _ _ h.box] <;> rfl
end

theorem rowM_take {v : Nat} {m : Nat → Nat} {l : List Int} {k : Nat} (hk : k < l.length) (hv : rowV v (l.take k) = true) : rowM v m (l.take (k + 1)) = rowM v m (l.take k) ||| m (l.getD k 0).toNat := by
  rw [List.take_add_one, List.getElem?_eq_getElem hk, Option.toList_some, rowM_append, if_pos hv]
  have e : l.getD k 0 = l[k] := by rw [List.getD_eq_getElem?_getD, List.getElem?_eq_getElem hk]; rfl
  rw [e]
  simp [rowM]
theorem rowV_take {v : Nat} {l : List Int} {k : Nat} (hk : k < l.length) : rowV v (l.take (k + 1)) = (rowV v (l.take k) && v.testBit (l.getD k 0).toNat) := by
  rw [List.take_add_one, List.getElem?_eq_getElem hk, Option.toList_some, rowV_append]
  have e : l.getD k 0 = l[k] := by rw [List.getD_eq_getElem?_getD, List.getElem?_eq_getElem hk]; rfl
  rw [e]
  simp [rowV]
theorem row_stop {v : Nat} {m : Nat → Nat} {l : List Int} {k : Nat} (hk : k < l.length) (hv : v.testBit (l.getD k 0).toNat = false) : rowV v l = false ∧ rowM v m l = rowM v m (l.take (k + 1)) := by
  have h1 : rowV v (l.take (k + 1)) = false := by rw [rowV_take hk, hv, Bool.and_false]
  have e := List.take_append_drop (k + 1) l
  constructor
  · rw [← e, rowV_append, h1, Bool.false_and]
  · conv => lhs; rw [← e]
    rw [rowM_append, h1]
    simp

set_option maxRecDepth 100000 in
set_option maxHeartbeats 1000000 in
theorem ofRow_any (lo hi tn S fb vb : Nat) (f : Nat → Nat) (v : Nat) (m : Nat → Nat) (a : Option Addr) (cap : Nat) (l : List Int) (w : World) (hF : FAt w lo hi tn S fb vb f v m) (hl : IntsAt w a l) (hlen : l.length ≤ 17592186044416) (hin : ∀ x ∈ l, (0 : Int) ≤ x ∧ x < (S : Int)) (htn : tn ≤ 1024) (hhi : hi ≤ w.heap.size) :
    Calls Tryz.prog 126 #[.agg #[.int .i64 (tn : Int), .pointer (some ⟨vb, 0, none⟩), .slice (some ⟨fb, 0, none⟩) S S], .slice a l.length cap] w fun e w' => ∃ b, e = .returned (.tuple #[.pointer (some ⟨b, 0, none⟩), .bool (rowV v l)]) ∧ w.heap.size ≤ b ∧ B.SetM w' (some ⟨b, 0, none⟩) tn (rowM v m l) ∧ w.grownBy w' none := by
  obtain ⟨n, hn⟩ : ∃ n, n = l.length := ⟨_, rfl⟩
  have HN : Hid (n = l.length) := hn
  rw [← hn] at hlen
  rw [← hn]
  have HB0 : Hid (FB w (w.alloc (.cells #[.int .i64 (tn : Int), .pointer (some ⟨vb, 0, none⟩), .slice (some ⟨fb, 0, none⟩) S S] 126)) w.heap.size lo hi tn S fb vb f v m) := ⟨World.grownBy_alloc _ _ none, heap_alloc_last w _, hF.kept (World.grownBy_alloc _ _ none)⟩
  have HL : Hid (∀ X, w.grownBy X none → IntsAt X a l) := fun X hX => hl.kept hX
  have HIN : Hid (∀ k, k < l.length → (0 : Int) ≤ l.getD k 0 ∧ l.getD k 0 < (S : Int)) := fun k hk => by
    rw [List.getD_eq_getElem?_getD, List.getElem?_eq_getElem hk]; exact hin _ (List.getElem_mem hk)
  have HCL : Hid (B.clampN (tn : Int) = tn) := by show B.clampN (tn : Int) = tn; unfold B.clampN; omega
  have HHI : Hid (hi ≤ w.heap.size) := hhi
  clear hF hl hin hn hhi
  obtain ⟨k0, k1, k2⟩ := HB0.out.cells
  go_enter Tryz.func126, Tryz.ntmps126
  go_wp2_with fail
  refine Calls.mono (B.of_any (tn : Int) none 0 [] _ (.inl rfl) (by decide)) ?_
  rintro e w1 ⟨rfl, hS, hb⟩
  rw [HCL.out] at hS
  have HB1 : Hid (FB w w1 w.heap.size lo hi tn S fb vb f v m) := HB0.out.kept (grown_of_below hb)
  obtain ⟨b, hbe⟩ : ∃ b, b = (w.alloc (.cells #[.int .i64 (tn : Int), .pointer (some ⟨vb, 0, none⟩), .slice (some ⟨fb, 0, none⟩) S S] 126)).heap.size := ⟨_, rfl⟩
  rw [← hbe] at hS
  rw [← hbe]
  have HBS : Hid (w.heap.size < b ∧ b < w1.heap.size ∧ hi ≤ b) := by
    have h3 := SetM_lt hS
    rw [World.size_alloc] at hbe
    exact ⟨by omega, h3, by have := HHI.out; omega⟩
  have HS1 : Hid (B.SetM w1 (some ⟨b, 0, none⟩) tn (rowM v m (l.take 0))) := hS
  clear hb hS hbe k0 k1 k2 HB0
  go_wp2_with fail
  go_loopg [4, 5, 13] n (fun gk u4 u5 i wr => ∃ k : Nat, k ≤ n ∧ gk = n - k ∧ u4 = .pointer (some ⟨b, 0, none⟩) ∧ u5 = .bool false ∧ i = .int .i64 k ∧ rowV v (l.take k) = true ∧ B.SetM wr (some ⟨b, 0, none⟩) tn (rowM v m (l.take k)) ∧ FB w wr w.heap.size lo hi tn S fb vb f v m)
  case atStart => exact ⟨0, Nat.zero_le _, rfl, rfl, rfl, rfl, rfl, HS1.out, HB1.out⟩
  case round =>
    obtain ⟨k, hk, hgk, rfl, rfl, rfl, hv, hS, hB⟩ := hrel
    have HGK : Hid (gk = n - k) := hgk
    have HV : Hid (rowV v (l.take k) = true) := hv
    have HS : Hid (B.SetM wr (some ⟨b, 0, none⟩) tn (rowM v m (l.take k))) := hS
    have HB : Hid (FB w wr w.heap.size lo hi tn S fb vb f v m) := hB
    clear hgk hv hS hB
    by_cases hlt : k < n
    · have hkl : k < l.length := by rw [← HN.out]; exact hlt
      obtain ⟨ab, ao, rfl, hc⟩ : ∃ ab ao, a = some ⟨ab, ao, none⟩ ∧ wr.cell? ⟨ab, ao + k, none⟩ = some (.int .i64 (l.getD k 0)) := by
        rcases HL.out wr HB.out.grown with h | ⟨ab, ao, e, h⟩
        · rw [h] at hkl; cases hkl
        · exact ⟨ab, ao, e, h k hkl⟩
      have hx := HIN.out k hkl
      obtain ⟨x, hxe⟩ : ∃ x : Nat, l.getD k 0 = (x : Int) := ⟨(l.getD k 0).toNat, by omega⟩
      have HX : Hid (l.getD k 0 = (x : Int)) := hxe
      rw [hxe] at hc hx
      have hxS : x < S := by omega
      obtain ⟨k0, k1, k2⟩ := HB.out.cells
      have r0 := HB.out.fat.row x hxS
      have hx0 : (0 : Int) ≤ (x : Int) := by omega
      have hx1 : (x : Int) < (S : Int) := by omega
      have hk0 : (0 : Int) ≤ (k : Int) := by omega
      have hk1 : (k : Int) < (n : Int) := by omega
      have hkd : decide (k < n) = true := decide_eq_true hlt
      have HUN : Hid (Calls Tryz.prog 127 #[.pointer (some ⟨b, 0, none⟩), .slice (some ⟨wr.heap.size, 0, none⟩) 1 1] (wr.alloc (.cells #[.pointer (some ⟨f x, 0, none⟩)] 123)) fun e w' => (∃ z, e = .returned (.int .i64 z)) ∧ B.SetM w' (some ⟨b, 0, none⟩) tn (rowM v m (l.take (k + 1))) ∧ FB w w' w.heap.size lo hi tn S fb vb f v m) := by
        have hg := World.grownBy_alloc wr (.cells #[.pointer (some ⟨f x, 0, none⟩)] 123) none
        have h1 := SetM_kept HS.out hg
        have h2 := HB.out.kept hg
        have h3 := SetM_lt HS.out
        refine (union_in b (f x) tn _ _ wr.heap.size _ h1 (h2.fat.sets x hxS) (by have := h2.fat.rng.2.2 x hxS; have := HBS.out; omega) (by omega) (new_cell wr _ _)).mono ?_
        rintro e w' ⟨rfl, h4, h5⟩
        refine ⟨⟨_, rfl⟩, ?_, ?_⟩
        · rw [rowM_take hkl HV.out, HX.out, Int.toNat_natCast]
          exact h4
        · refine ⟨grown_at h2.grown h5 (Nat.le_of_lt HBS.out.1), (h5.block _ (Array.getElem?_eq_some_iff.1 h2.box).1 (by have := HBS.out; simp; omega)).trans h2.box, h2.fat.other h5 (.inr HBS.out.2.2)⟩
      clear hx hxe
      go_wp2_with fail
      refine Calls.mono HUN.out ?_
      rintro e w2 ⟨⟨z, rfl⟩, hS2, hB2⟩
      have HS2 : Hid (B.SetM w2 (some ⟨b, 0, none⟩) tn (rowM v m (l.take (k + 1)))) := hS2
      have HB2 : Hid (FB w w2 w.heap.size lo hi tn S fb vb f v m) := hB2
      clear hS2 hB2 HUN HS HB k0 k1 k2 r0 hc
      obtain ⟨k0, k1, k2⟩ := HB2.out.cells
      go_wp2_with fail
      refine Calls.mono (has_in vb S v x w2 HB2.out.fat.van) ?_
      rintro e w3 ⟨rfl, hg3⟩
      have HS3 : Hid (B.SetM w3 (some ⟨b, 0, none⟩) tn (rowM v m (l.take (k + 1)))) := SetM_kept HS2.out hg3
      have HB3 : Hid (FB w w3 w.heap.size lo hi tn S fb vb f v m) := HB2.out.kept hg3
      clear hg3 HS2 HB2 k0 k1 k2
      cases hvx : v.testBit x with
      | true =>
        go_wp2_with fail
        go_roundg (n - (k + 1))
        case measure => have := HGK.out; omega
        case rel => exact ⟨k + 1, by omega, rfl, rfl, rfl, by go_num, by rw [rowV_take hkl, HV.out, HX.out, Int.toNat_natCast, hvx]; rfl, HS3.out, HB3.out⟩
      | false =>
        have HST := row_stop (m := m) hkl (show v.testBit (l.getD k 0).toNat = false by rw [HX.out, Int.toNat_natCast]; exact hvx)
        have HST2 : Hid (rowV v l = false ∧ rowM v m l = rowM v m (l.take (k + 1))) := HST
        clear HST
        go_wp2_with fail
        go_ret2
        exact ⟨b, by rw [HST2.out.1]; rfl, Nat.le_of_lt HBS.out.1, by rw [HST2.out.2]; exact HS3.out, HB3.out.grown⟩
    · have hkn : n = k := by omega
      subst hkn
      have hkd : decide (n < n) = false := decide_eq_false (by omega)
      go_wp2_with fail
      go_ret2
      have e : l.take n = l := by rw [HN.out]; exact List.take_length
      have h1 := HV.out
      have h2 := HS.out
      rw [e] at h1 h2
      exact ⟨b, by rw [h1]; rfl, Nat.le_of_lt HBS.out.1, h2, HB.out.grown⟩

end Go.Proofs.YthoamlahbnphkaaGreat
