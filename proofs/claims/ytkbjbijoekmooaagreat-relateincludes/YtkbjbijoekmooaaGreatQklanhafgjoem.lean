import Derived.Test.YtkbjbijoekmooaaGreatQjpehfgaejnmg
import Derived.Test.YtkbjbijoekmooaaGreatQdkabjhppobfo

/-
  reach: sets of symbols in a grammar's memory: marksOf, covers, ofNons.
-/
namespace Go.Proofs.YtkbjbijoekmooaaGreat
open Go.RowKit Go.Maps Go.Shelf

theorem grown_of_below {w w' : World} (h : Below w.heap.size w w') : w.grownBy w' none := ⟨h.os, h.tape, h.output, h.size, fun k hk _ => h.block k hk⟩
theorem below_of_grown {w w' : World} (h : w.grownBy w' none) : Below w.heap.size w w' := ⟨h.os, h.tape, h.output, h.size, fun k hk => h.block k hk (by simp)⟩
theorem SetM_kept {w w' : World} {b n m : Nat} (h : B.SetM w (some ⟨b, 0, none⟩) n m) (hg : w.grownBy w' none) : B.SetM w' (some ⟨b, 0, none⟩) n m := B.SetM.keep h (below_of_grown hg)
theorem SetM_row {w : World} {b n m : Nat} (h : B.SetM w (some ⟨b, 0, none⟩) n m) : B.RowAt w b n (B.wd m) := by
  rcases h.2.2 with ⟨h, _⟩ | ⟨b', e, hr⟩
  · simp at h
  · simp at e; rw [e]; exact hr
theorem SetM_lt {w : World} {b n m : Nat} (h : B.SetM w (some ⟨b, 0, none⟩) n m) : b < w.heap.size := (SetM_row h).lt

theorem grown_at {w w1 w2 : World} {b : Nat} (h : w.grownBy w1 none) (hg : w1.grownBy w2 (some b)) (hb : w.heap.size ≤ b) : w.grownBy w2 none :=
  ⟨hg.os.trans h.os, hg.tape.trans h.tape, hg.output.trans h.output, Nat.le_trans h.size hg.size, fun k hk _ => (hg.block k (Nat.lt_of_lt_of_le hk h.size) (by simp; omega)).trans (h.block k hk (by simp))⟩
theorem SetM_at {w w' : World} {b c n m : Nat} (h : B.SetM w (some ⟨b, 0, none⟩) n m) (hg : w.grownBy w' (some c)) (hne : b ≠ c) : B.SetM w' (some ⟨b, 0, none⟩) n m :=
  B.SetM.of ((hg.block b (SetM_lt h) (by simpa using hne)).trans (SetM_row h)) h.1 h.2.1
end Go.Proofs.YtkbjbijoekmooaaGreat

/-
  reach: covers, ofNons.
-/
namespace Go.Proofs.YtkbjbijoekmooaaGreat
open Go.RowKit Go.Maps Go.Shelf

theorem pc_or (k : Nat) : ∀ a b : Nat, B.pc k a ≤ B.pc k (a ||| b) ∧ (B.pc k (a ||| b) = B.pc k a ↔ ∀ i, i < k → b.testBit i = true → a.testBit i = true) := by
  unfold B.pc
  induction k with
  | zero => intro a b; simp [B.ds]
  | succ k ih =>
    intro a b
    have h1 := ih (a / 2) (b / 2)
    rw [← Nat.or_div_two] at h1
    have h0 : (a ||| b).testBit 0 = (a.testBit 0 || b.testBit 0) := Nat.testBit_or a b 0
    simp only [Nat.testBit_zero] at h0
    simp only [B.ds]
    generalize B.ds 2 k ((a ||| b) / 2) = x at *
    have ha := Nat.mod_two_eq_zero_or_one a
    have hb := Nat.mod_two_eq_zero_or_one b
    have hab := Nat.mod_two_eq_zero_or_one (a ||| b)
    have hle : a % 2 ≤ (a ||| b) % 2 := by
      rcases ha with ha | ha <;> rcases hb with hb | hb <;> rcases hab with hab | hab <;> simp [ha, hb, hab] at h0 ⊢
    refine ⟨by omega, ?_⟩
    constructor
    · intro h i hi
      have e1 : (a ||| b) % 2 = a % 2 := by omega
      cases i with
      | zero =>
        simp only [Nat.testBit_zero]
        rw [e1] at h0
        intro h2
        rw [h2, Bool.or_true] at h0
        exact h0
      | succ i => simp only [Nat.testBit_succ]; exact h1.2.1 (by omega) i (by omega)
    · intro h
      have e2 : x = _ := h1.2.2 fun i hi => by have := h (i + 1) (by omega); simpa only [Nat.testBit_succ] using this
      have e0 := h 0 (by omega)
      simp only [Nat.testBit_zero] at e0
      have e1 : (a ||| b) % 2 = a % 2 := by
        rcases ha with ha | ha <;> rcases hb with hb | hb <;> rcases hab with hab | hab <;> simp [ha, hb, hab] at h0 e0 ⊢
      omega

theorem cnt_le (x : Nat) : B.cnt x ≤ 1024 := B.pc_le _ _

theorem new_cell (w : World) (v : Value) (t : TypeId) : (w.alloc (.cells #[v] t)).cell? ⟨w.heap.size, 0, none⟩ = some v := by
  rw [cell_of_row _ _ _ _ _ _ (heap_alloc_last w _)]; rfl

theorem calls_at {P : Program} {f : FuncId} {args : Array Value} {w : World} {Q : Ending → World → Prop} (w0 : World) (e : w = w0) (h : Calls P f args w0 Q) : Calls P f args w Q := by rw [e]; exact h

/-- A union with one other. -/
theorem union_one (b c n m s bl : Nat) (w : World) (hm : B.SetM w (some ⟨b, 0, none⟩) n m) (hs : B.SetM w (some ⟨c, 0, none⟩) n s) (hne : c ≠ b) (hnl : bl ≠ b) (hl : w.cell? ⟨bl, 0, none⟩ = some (.pointer (some ⟨c, 0, none⟩))) (z : Int) (hz : z = ((B.cnt (m ||| (s &&& (2 ^ n - 1))) : Nat) : Int) - (B.cnt m : Nat)) (u : Nat) (hu : u = m ||| (s &&& (2 ^ n - 1))) :
    Calls Tryz.prog 128 #[.pointer (some ⟨b, 0, none⟩), .slice (some ⟨bl, 0, none⟩) 1 1] w fun e w' =>
      e = .returned (.int .i64 z) ∧ B.SetM w' (some ⟨b, 0, none⟩) n u ∧ w.grownBy w' (some b) := by
  have h := B.union_core b n m bl 0 1 B.cnt [(some ⟨c, 0, none⟩, s)] w B.countIs cnt_le hm.1 hm.2.1 (SetM_row hm) hnl (by simp) (World.block_lt_of_cell? w _ hl)
    (fun i hi => by have : i = 0 := by simpa using hi
                    subst this; exact hl)
    (fun i hi => by have : i = 0 := by simpa using hi
                    subst this; exact .inr ⟨fun h => hne (by injection h with h1; injection h1), n, hs⟩)
  refine Calls.mono h ?_
  rintro e w' ⟨he, hr, hb⟩
  rw [hz, hu]
  refine ⟨he, B.SetM.of hr hm.1 (B.lt_or hm.2.1 (B.lt_and_right (B.ones_lt n))), hb.os, hb.tape, hb.output, hb.size, fun k hk hne => hb.block k hk (by simpa using hne)⟩

end Go.Proofs.YtkbjbijoekmooaaGreat

/-
  first, pure: which symbols derive the empty row, and which terminals rows begin with.
-/
namespace Go.Proofs.YtkbjbijoekmooaaGreat

section
variable (tn n : Nat) (L : Nat → Int) (R : Nat → List Int)

/-- The symbols that derive the empty row. -/
inductive Nul : Int → Prop
  | prod (k : Nat) (hk : k < n) (h : ∀ x ∈ R k, Nul x) : Nul (L k)

/-- The terminals that rows derived from a symbol begin with. -/
inductive Beg : Int → Int → Prop
  | term (t : Int) (h0 : 0 ≤ t) (h1 : t < (tn : Int)) : Beg t t
  | prod (k : Nat) (hk : k < n) (p : List Int) (x : Int) (s : List Int) (t : Int) (hr : R k = p ++ x :: s) (hp : ∀ y ∈ p, Nul n L R y) (hx : Beg x t) : Beg (L k) t

def RowN (l : List Int) : Prop := ∀ x ∈ l, Nul n L R x
def RowB (l : List Int) (t : Int) : Prop := ∃ p x s, l = p ++ x :: s ∧ (∀ y ∈ p, Nul n L R y) ∧ Beg tn n L R x t
end

/-- Do all symbols of a row vanish, as far as is found? -/
def rowV (v : Nat) (l : List Int) : Bool := l.all fun x => v.testBit x.toNat
/-- What a row begins with, as far as is found. -/
def rowM (v : Nat) (m : Nat → Nat) : List Int → Nat
  | [] => 0
  | x :: l => m x.toNat ||| (if v.testBit x.toNat = true then rowM v m l else 0)

theorem rowV_append (v : Nat) (p q : List Int) : rowV v (p ++ q) = (rowV v p && rowV v q) := by simp [rowV]
theorem rowM_append (v : Nat) (m : Nat → Nat) (q : List Int) : ∀ p : List Int, rowM v m (p ++ q) = rowM v m p ||| (if rowV v p = true then rowM v m q else 0)
  | [] => by simp [rowM, rowV]
  | x :: p => by
    have ih := rowM_append v m q p
    simp only [List.cons_append, rowM]
    cases h : v.testBit x.toNat with
    | true =>
      have e : rowV v (x :: p) = rowV v p := by simp [rowV, h]
      rw [ih, e]
      simp [Nat.or_assoc]
    | false =>
      have e : rowV v (x :: p) = false := by simp [rowV, h]
      rw [e]
      simp

theorem rowM_bit (v : Nat) (m : Nat → Nat) (t : Nat) : ∀ l : List Int, (rowM v m l).testBit t = true ↔ ∃ p x s, l = p ++ x :: s ∧ rowV v p = true ∧ (m x.toNat).testBit t = true
  | [] => by simp [rowM]
  | a :: l => by
    have ih := rowM_bit v m t l
    simp only [rowM, Nat.testBit_or, Bool.or_eq_true]
    constructor
    · rintro (h | h)
      · exact ⟨[], a, l, rfl, rfl, h⟩
      · cases hv : v.testBit a.toNat with
        | false => simp [hv] at h
        | true =>
          rw [hv, if_pos rfl] at h
          obtain ⟨p, x, s, e, h1, h2⟩ := ih.1 h
          exact ⟨a :: p, x, s, by rw [e]; rfl, by simp only [rowV, List.all_cons, hv, Bool.true_and]; exact h1, h2⟩
    · rintro ⟨p, x, s, e, h1, h2⟩
      cases p with
      | nil =>
        simp at e
        left; rw [e.1]; exact h2
      | cons b p =>
        simp at e
        obtain ⟨rfl, e⟩ := e
        simp only [rowV, List.all_cons, Bool.and_eq_true] at h1
        right
        rw [h1.1, if_pos rfl]
        exact ih.2 ⟨p, x, s, e, h1.2, h2⟩

/-- The symbols of a row, each where it stands first. -/
def unl (l : List Int) : List Int := l.foldl (fun u x => if u.contains x = true then u else u ++ [x]) []
theorem unl_snoc (l : List Int) (x : Int) : unl (l ++ [x]) = if (unl l).contains x = true then unl l else unl l ++ [x] := by
  unfold unl
  rw [List.foldl_append]
  rfl
theorem snoc_ind {P : List Int → Prop} (h0 : P []) (h1 : ∀ l x, P l → P (l ++ [x])) : ∀ l, P l := fun l => by
  have : ∀ k (l : List Int), l.length = k → P l := by
    intro k
    induction k with
    | zero => intro l hl; rw [List.length_eq_zero_iff.1 hl]; exact h0
    | succ k ih =>
      intro l hl
      rcases List.eq_nil_or_concat l with rfl | ⟨l', x, rfl⟩
      · exact h0
      · rw [List.concat_eq_append] at hl ⊢
        refine h1 l' x (ih l' ?_)
        simp at hl; exact hl
  exact this _ l rfl
theorem unl_mem (l : List Int) : ∀ x, x ∈ unl l ↔ x ∈ l := by
  induction l using snoc_ind with
  | h0 => intro x; simp [unl]
  | h1 l a ih =>
    intro x
    rw [unl_snoc]
    by_cases h : (unl l).contains a = true
    · rw [if_pos h, ih, List.mem_append]
      have ha : a ∈ l := (ih a).1 (by simpa using h)
      constructor
      · exact fun h => .inl h
      · rintro (h | h)
        · exact h
        · simp at h; rw [h]; exact ha
    · rw [if_neg h, List.mem_append, List.mem_append, ih]
theorem unl_len (l : List Int) : (unl l).length ≤ l.length := by
  induction l using snoc_ind with
  | h0 => simp [unl]
  | h1 l a ih =>
    rw [unl_snoc]
    split
    · simp; omega
    · simp; omega
theorem unl_rowV (v : Nat) (l : List Int) : rowV v (unl l) = rowV v l := by
  have : (rowV v (unl l) = true) ↔ (rowV v l = true) := by
    unfold rowV
    rw [List.all_eq_true, List.all_eq_true]
    exact ⟨fun h x hx => h x ((unl_mem l x).2 hx), fun h x hx => h x ((unl_mem l x).1 hx)⟩
  cases h1 : rowV v (unl l) <;> cases h2 : rowV v l <;> simp_all
theorem unl_rowM (v : Nat) (m : Nat → Nat) (l : List Int) : rowM v m (unl l) = rowM v m l := by
  induction l using snoc_ind with
  | h0 => rfl
  | h1 l a ih =>
    rw [unl_snoc, rowM_append]
    by_cases h : (unl l).contains a = true
    · rw [if_pos h, ih]
      cases hv : rowV v l with
      | false => simp
      | true =>
        rw [if_pos rfl]
        have ha : a ∈ l := (unl_mem l a).1 (by simpa using h)
        apply Nat.eq_of_testBit_eq
        intro t
        rw [Nat.testBit_or]
        cases ht : (rowM v m l).testBit t with
        | true => simp
        | false =>
          rw [Bool.false_or]
          have : ¬ (rowM v m [a]).testBit t = true := by
            intro h2
            rw [rowM_bit] at h2
            obtain ⟨p, x, s, e, _, h3⟩ := h2
            have hx : x = a := by
              have : x ∈ [a] := by rw [e]; simp
              simpa using this
            subst hx
            obtain ⟨p', s', rfl⟩ := List.append_of_mem ha
            have : (rowM v m (p' ++ x :: s')).testBit t = true := (rowM_bit v m t _).2 ⟨p', x, s', rfl, by rw [rowV_append, Bool.and_eq_true] at hv; exact hv.1, h3⟩
            rw [ht] at this
            cases this
          cases h5 : (rowM v m [a]).testBit t with
          | false => rfl
          | true => exact absurd h5 this
    · rw [if_neg h, rowM_append, ih, unl_rowV]

/-- One value turned. -/
def upd (m : Nat → Nat) (i y : Nat) : Nat → Nat := fun j => if j = i then y else m j
theorem upd_same (m : Nat → Nat) (i y : Nat) : upd m i y i = y := by simp [upd]
theorem upd_other (m : Nat → Nat) {i j : Nat} (y : Nat) (h : j ≠ i) : upd m i y j = m j := by simp [upd, h]

/-- How much is found. -/
def sumC (m : Nat → Nat) : Nat → Nat
  | 0 => 0
  | k + 1 => sumC m k + B.cnt (m k)
theorem sumC_out (m : Nat → Nat) (i y : Nat) : ∀ k, k ≤ i → sumC (upd m i y) k = sumC m k
  | 0, _ => rfl
  | k + 1, h => by simp only [sumC]; rw [sumC_out m i y k (by omega), upd_other m y (by omega)]
theorem sumC_upd (m : Nat → Nat) (i y : Nat) : ∀ k, i < k → sumC (upd m i y) k + B.cnt (m i) = sumC m k + B.cnt y
  | 0, h => by omega
  | k + 1, h => by
    simp only [sumC]
    by_cases e : i = k
    · subst e
      rw [sumC_out m i y i (Nat.le_refl _), upd_same]
      omega
    · have := sumC_upd m i y k (by omega)
      rw [upd_other m y (fun h => e h.symm)]
      omega
theorem sumC_le (m : Nat → Nat) : ∀ k, sumC m k ≤ 1024 * k
  | 0 => by simp [sumC]
  | k + 1 => by have := sumC_le m k; have := cnt_le (m k); simp only [sumC]; omega
def tot (S v : Nat) (m : Nat → Nat) : Nat := B.cnt v + sumC m S
theorem tot_le (S v : Nat) (m : Nat → Nat) : tot S v m ≤ 1024 * (S + 1) := by
  have := sumC_le m S
  have := cnt_le v
  unfold tot; omega
theorem cnt_or (a b : Nat) : B.cnt a ≤ B.cnt (a ||| b) := (pc_or 1024 a b).1
theorem cnt_or_same {a b k : Nat} (hk : k ≤ 1024) (hb : b < 2 ^ k) (h : B.cnt (a ||| b) = B.cnt a) : a ||| b = a := by
  have h2 := (pc_or 1024 a b).2.1 h
  apply Nat.eq_of_testBit_eq
  intro i
  rw [Nat.testBit_or]
  by_cases hi : i < 1024
  · have := h2 i hi
    cases hbi : b.testBit i with
    | false => simp
    | true => simp [this hbi]
  · have : b.testBit i = false := Nat.testBit_lt_two_pow (Nat.lt_of_lt_of_le hb (Nat.pow_le_pow_right (Nat.succ_pos 1) (Nat.le_trans hk (by omega))))
    simp [this]

section
variable {tn S n : Nat} {L : Nat → Int} {R : Nat → List Int} {v : Nat} {m : Nat → Nat}
/-- What is found is so. -/
def Sound (tn n : Nat) (L : Nat → Int) (R : Nat → List Int) (v : Nat) (m : Nat → Nat) : Prop :=
  (∀ i : Nat, v.testBit i = true → Nul n L R (i : Int)) ∧ (∀ i t : Nat, (m i).testBit t = true → Beg tn n L R (i : Int) (t : Int)) ∧ ∀ t, t < tn → (m t).testBit t = true
/-- A production adds nothing more. -/
def ClosedAt (L : Nat → Int) (R : Nat → List Int) (v : Nat) (m : Nat → Nat) (k : Nat) : Prop :=
  (rowV v (R k) = true → v.testBit (L k).toNat = true) ∧ ∀ t : Nat, (rowM v m (R k)).testBit t = true → (m (L k).toNat).testBit t = true
/-- All is found. -/
structure Found (tn n : Nat) (L : Nat → Int) (R : Nat → List Int) (v : Nat) (m : Nat → Nat) : Prop where
  nul : ∀ i : Nat, v.testBit i = true ↔ Nul n L R (i : Int)
  beg : ∀ i t : Nat, (m i).testBit t = true ↔ Beg tn n L R (i : Int) (t : Int)

theorem sound_row (h : Sound tn n L R v m) {l : List Int} (hl : ∀ x ∈ l, (0 : Int) ≤ x) : (rowV v l = true → ∀ x ∈ l, Nul n L R x) ∧ ∀ t : Nat, (rowM v m l).testBit t = true → RowB tn n L R l (t : Int) := by
  have key : ∀ l : List Int, (∀ x ∈ l, (0 : Int) ≤ x) → rowV v l = true → ∀ x ∈ l, Nul n L R x := fun l hl hv x hx => by
    have := List.all_eq_true.1 hv x hx
    have h2 := h.1 _ this
    rwa [Int.toNat_of_nonneg (hl x hx)] at h2
  refine ⟨key l hl, fun t ht => ?_⟩
  obtain ⟨p, x, s, rfl, h1, h2⟩ := (rowM_bit v m t l).1 ht
  refine ⟨p, x, s, rfl, key p (fun y hy => hl y (by simp [hy])) h1, ?_⟩
  have := h.2.1 _ _ h2
  rwa [Int.toNat_of_nonneg (hl x (by simp))] at this

theorem sound_step (h : Sound tn n L R v m) {k : Nat} (hk : k < n) (hL : (0 : Int) ≤ L k) (hR : ∀ x ∈ R k, (0 : Int) ≤ x) :
    Sound tn n L R (if rowV v (R k) = true then v ||| 2 ^ (L k).toNat else v) (upd m (L k).toNat (m (L k).toNat ||| rowM v m (R k))) := by
  have hr := sound_row h hR
  refine ⟨fun i hi => ?_, fun i t hi => ?_, fun t ht => ?_⟩
  · by_cases hv : rowV v (R k) = true
    · rw [if_pos hv, Nat.testBit_or, Bool.or_eq_true, Nat.testBit_two_pow] at hi
      rcases hi with hi | hi
      · exact h.1 i hi
      · have e : (L k).toNat = i := by simpa using hi
        rw [← e, Int.toNat_of_nonneg hL]
        exact .prod k hk (hr.1 hv)
    · rw [if_neg hv] at hi
      exact h.1 i hi
  · by_cases e : i = (L k).toNat
    · subst e
      rw [upd_same, Nat.testBit_or, Bool.or_eq_true] at hi
      rcases hi with hi | hi
      · exact h.2.1 _ _ hi
      · obtain ⟨p, x, s, e, h1, h2⟩ := hr.2 t hi
        rw [Int.toNat_of_nonneg hL]
        exact .prod k hk p x s t e h1 h2
    · rw [upd_other _ _ e] at hi
      exact h.2.1 _ _ hi
  · by_cases e : t = (L k).toNat
    · subst e
      rw [upd_same, Nat.testBit_or, h.2.2 _ ht]
      rfl
    · rw [upd_other _ _ e]
      exact h.2.2 t ht

theorem found_of (h : Sound tn n L R v m) (hc : ∀ k, k < n → ClosedAt L R v m k) : Found tn n L R v m := by
  have hN : ∀ x, Nul n L R x → v.testBit x.toNat = true := by
    intro x hx
    induction hx with
    | prod k hk _ ih => exact (hc k hk).1 (List.all_eq_true.2 ih)
  have hB : ∀ x t, Beg tn n L R x t → (m x.toNat).testBit t.toNat = true := by
    intro x t hx
    induction hx with
    | term t h0 h1 => exact h.2.2 _ (by omega)
    | prod k hk p x s t hr hp _ ih =>
      exact (hc k hk).2 _ ((rowM_bit v m _ _).2 ⟨p, x, s, hr, List.all_eq_true.2 fun y hy => hN y (hp y hy), ih⟩)
  refine ⟨fun i => ⟨h.1 i, fun hi => ?_⟩, fun i t => ⟨h.2.1 i t, fun hi => ?_⟩⟩
  · have := hN _ hi; simpa using this
  · have := hB _ _ hi; simpa using this

theorem sound_start (tn n : Nat) (L : Nat → Int) (R : Nat → List Int) : Sound tn n L R 0 (fun i => if i < tn then 2 ^ i else 0) := by
  refine ⟨fun i hi => by simp at hi, fun i t hi => ?_, fun t ht => ?_⟩
  · by_cases h : i < tn
    · simp only [h, if_true, Nat.testBit_two_pow] at hi
      have : i = t := by simpa using hi
      subst this
      exact .term _ (by omega) (by omega)
    · simp [h] at hi
  · simp only [ht, if_true, Nat.testBit_two_pow]
    simp

theorem Found.row (h : Found tn n L R v m) {l : List Int} (hl : ∀ x ∈ l, (0 : Int) ≤ x) : (rowV v l = true ↔ RowN n L R l) ∧ ∀ t : Nat, (rowM v m l).testBit t = true ↔ RowB tn n L R l (t : Int) := by
  have key : ∀ l : List Int, (∀ x ∈ l, (0 : Int) ≤ x) → (rowV v l = true ↔ ∀ x ∈ l, Nul n L R x) := fun l hl => by
    unfold rowV
    rw [List.all_eq_true]
    refine forall_congr' fun x => forall_congr' fun hx => ?_
    rw [h.nul, Int.toNat_of_nonneg (hl x hx)]
  refine ⟨key l hl, fun t => ?_⟩
  rw [rowM_bit]
  unfold RowB
  refine exists_congr fun p => exists_congr fun x => exists_congr fun s => ?_
  constructor
  · rintro ⟨e, h1, h2⟩
    subst e
    rw [key p fun y hy => hl y (by simp [hy])] at h1
    rw [h.beg, Int.toNat_of_nonneg (hl x (by simp))] at h2
    exact ⟨rfl, h1, h2⟩
  · rintro ⟨e, h1, h2⟩
    subst e
    refine ⟨rfl, (key p fun y hy => hl y (by simp [hy])).2 h1, ?_⟩
    rw [h.beg, Int.toNat_of_nonneg (hl x (by simp))]
    exact h2
end

end Go.Proofs.YtkbjbijoekmooaaGreat
