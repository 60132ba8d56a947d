import Derived.Test.YtdhojilmgnodeaaDoorQpjgifeoodnko
import Derived.Test.YtdhojilmgnodeaaDoorQaaiiloddnlah
import Derived.Test.YtdhojilmgnodeaaDoorQpkcgoeojlcgm
import Derived.RangeFuncNested
import Derived.RangeFuncBound
import Derived.RangeFuncCalls
import Derived.RangeFuncLeaves
import Derived.Shelf.Abstract
import Derived.Shelf.RegionOpen
import Derived.OwnWalkIn
import Derived.TacticsInMore
import Derived.LoopNIn
import Derived.LoopIn
import Derived.Test.YtdhojilmgnodeaaDoorQiaooioopkgna
import Derived.Maps.AppendAt

/-
  first, pure: which symbols derive the empty row, and which terminals rows begin with.
-/
namespace Go.Proofs.YtdhojilmgnodeaaDoor

section
variable (tn n : Nat) (L : Nat → Int) (R : Nat → List Int)

/-- The symbols that derive the empty row. -/
inductive Nul : Int → Prop
  | prod (k : Nat) (hk : k < n) (h : ∀ x ∈ R k, Nul x) : Nul (L k)

/-- The terminals that rows derived from a symbol begin with. -/
inductive Beg : Int → Int → Prop
  | term (t : Int) (h0 : 0 ≤ t) (h1 : t < (tn : Int)) : Beg t t
  | prod (k : Nat) (hk : k < n) (p : List Int) (x : Int) (s : List Int) (t : Int) (hr : R k = p ++ x :: s) (hp : ∀ y ∈ p, Nul n L R y) (hx : Beg x t) : Beg (L k) t

def RowN (l : List Int) : Prop := ∀ x ∈ l, Nul n L R x
def RowB (l : List Int) (t : Int) : Prop := ∃ p x s, l = p ++ x :: s ∧ (∀ y ∈ p, Nul n L R y) ∧ Beg tn n L R x t
end

/-- Do all symbols of a row vanish, as far as is found? -/
def rowV (v : Nat) (l : List Int) : Bool := l.all fun x => v.testBit x.toNat
/-- What a row begins with, as far as is found. -/
def rowM (v : Nat) (m : Nat → Nat) : List Int → Nat
  | [] => 0
  | x :: l => m x.toNat ||| (if v.testBit x.toNat = true then rowM v m l else 0)

theorem rowV_append (v : Nat) (p q : List Int) : rowV v (p ++ q) = (rowV v p && rowV v q) := by simp [rowV]
theorem rowM_append (v : Nat) (m : Nat → Nat) (q : List Int) : ∀ p : List Int, rowM v m (p ++ q) = rowM v m p ||| (if rowV v p = true then rowM v m q else 0)
  | [] => by simp [rowM, rowV]
  | x :: p => by
    have ih := rowM_append v m q p
    simp only [List.cons_append, rowM]
    cases h : v.testBit x.toNat with
    | true =>
      have e : rowV v (x :: p) = rowV v p := by simp [rowV, h]
      rw [ih, e]
      simp [Nat.or_assoc]
    | false =>
      have e : rowV v (x :: p) = false := by simp [rowV, h]
      rw [e]
      simp

theorem rowM_bit (v : Nat) (m : Nat → Nat) (t : Nat) : ∀ l : List Int, (rowM v m l).testBit t = true ↔ ∃ p x s, l = p ++ x :: s ∧ rowV v p = true ∧ (m x.toNat).testBit t = true
  | [] => by simp [rowM]
  | a :: l => by
    have ih := rowM_bit v m t l
    simp only [rowM, Nat.testBit_or, Bool.or_eq_true]
    constructor
    · rintro (h | h)
      · exact ⟨[], a, l, rfl, rfl, h⟩
      · cases hv : v.testBit a.toNat with
        | false => simp [hv] at h
        | true =>
          rw [hv, if_pos rfl] at h
          obtain ⟨p, x, s, e, h1, h2⟩ := ih.1 h
          exact ⟨a :: p, x, s, by rw [e]; rfl, by simp only [rowV, List.all_cons, hv, Bool.true_and]; exact h1, h2⟩
    · rintro ⟨p, x, s, e, h1, h2⟩
      cases p with
      | nil =>
        simp at e
        left; rw [e.1]; exact h2
      | cons b p =>
        simp at e
        obtain ⟨rfl, e⟩ := e
        simp only [rowV, List.all_cons, Bool.and_eq_true] at h1
        right
        rw [h1.1, if_pos rfl]
        exact ih.2 ⟨p, x, s, e, h1.2, h2⟩

/-- The symbols of a row, each where it stands first. -/
def unl (l : List Int) : List Int := l.foldl (fun u x => if u.contains x = true then u else u ++ [x]) []
theorem unl_snoc (l : List Int) (x : Int) : unl (l ++ [x]) = if (unl l).contains x = true then unl l else unl l ++ [x] := by
  unfold unl
  rw [List.foldl_append]
  rfl
theorem snoc_ind {P : List Int → Prop} (h0 : P []) (h1 : ∀ l x, P l → P (l ++ [x])) : ∀ l, P l := fun l => by
  have : ∀ k (l : List Int), l.length = k → P l := by
    intro k
    induction k with
    | zero => intro l hl; rw [List.length_eq_zero_iff.1 hl]; exact h0
    | succ k ih =>
      intro l hl
      rcases List.eq_nil_or_concat l with rfl | ⟨l', x, rfl⟩
      · exact h0
      · rw [List.concat_eq_append] at hl ⊢
        refine h1 l' x (ih l' ?_)
        simp at hl; exact hl
  exact this _ l rfl
theorem unl_mem (l : List Int) : ∀ x, x ∈ unl l ↔ x ∈ l := by
  induction l using snoc_ind with
  | h0 => intro x; simp [unl]
  | h1 l a ih =>
    intro x
    rw [unl_snoc]
    by_cases h : (unl l).contains a = true
    · rw [if_pos h, ih, List.mem_append]
      have ha : a ∈ l := (ih a).1 (by simpa using h)
      constructor
      · exact fun h => .inl h
      · rintro (h | h)
        · exact h
        · simp at h; rw [h]; exact ha
    · rw [if_neg h, List.mem_append, List.mem_append, ih]
theorem unl_len (l : List Int) : (unl l).length ≤ l.length := by
  induction l using snoc_ind with
  | h0 => simp [unl]
  | h1 l a ih =>
    rw [unl_snoc]
    split
    · simp; omega
    · simp; omega
theorem unl_nodup (l : List Int) : (unl l).Nodup := by
  induction l using snoc_ind with
  | h0 => simp [unl]
  | h1 l a ih =>
    rw [unl_snoc]
    split
    · exact ih
    · rename_i h
      rw [List.nodup_append]
      refine ⟨ih, by simp, fun x hx y hy => ?_⟩
      simp at hy
      rw [hy]
      intro e
      rw [e] at hx
      exact h (by simpa using hx)
theorem unl_rowV (v : Nat) (l : List Int) : rowV v (unl l) = rowV v l := by
  have : (rowV v (unl l) = true) ↔ (rowV v l = true) := by
    unfold rowV
    rw [List.all_eq_true, List.all_eq_true]
    exact ⟨fun h x hx => h x ((unl_mem l x).2 hx), fun h x hx => h x ((unl_mem l x).1 hx)⟩
  cases h1 : rowV v (unl l) <;> cases h2 : rowV v l <;> simp_all
theorem unl_rowM (v : Nat) (m : Nat → Nat) (l : List Int) : rowM v m (unl l) = rowM v m l := by
  induction l using snoc_ind with
  | h0 => rfl
  | h1 l a ih =>
    rw [unl_snoc, rowM_append]
    by_cases h : (unl l).contains a = true
    · rw [if_pos h, ih]
      cases hv : rowV v l with
      | false => simp
      | true =>
        rw [if_pos rfl]
        have ha : a ∈ l := (unl_mem l a).1 (by simpa using h)
        apply Nat.eq_of_testBit_eq
        intro t
        rw [Nat.testBit_or]
        cases ht : (rowM v m l).testBit t with
        | true => simp
        | false =>
          rw [Bool.false_or]
          have : ¬ (rowM v m [a]).testBit t = true := by
            intro h2
            rw [rowM_bit] at h2
            obtain ⟨p, x, s, e, _, h3⟩ := h2
            have hx : x = a := by
              have : x ∈ [a] := by rw [e]; simp
              simpa using this
            subst hx
            obtain ⟨p', s', rfl⟩ := List.append_of_mem ha
            have : (rowM v m (p' ++ x :: s')).testBit t = true := (rowM_bit v m t _).2 ⟨p', x, s', rfl, by rw [rowV_append, Bool.and_eq_true] at hv; exact hv.1, h3⟩
            rw [ht] at this
            cases this
          cases h5 : (rowM v m [a]).testBit t with
          | false => rfl
          | true => exact absurd h5 this
    · rw [if_neg h, rowM_append, ih, unl_rowV]

/-- One value turned. -/
def upd (m : Nat → Nat) (i y : Nat) : Nat → Nat := fun j => if j = i then y else m j
theorem upd_same (m : Nat → Nat) (i y : Nat) : upd m i y i = y := by simp [upd]
theorem upd_other (m : Nat → Nat) {i j : Nat} (y : Nat) (h : j ≠ i) : upd m i y j = m j := by simp [upd, h]

/-- How much is found. -/
def sumC (m : Nat → Nat) : Nat → Nat
  | 0 => 0
  | k + 1 => sumC m k + B.cnt (m k)
theorem sumC_out (m : Nat → Nat) (i y : Nat) : ∀ k, k ≤ i → sumC (upd m i y) k = sumC m k
  | 0, _ => rfl
  | k + 1, h => by simp only [sumC]; rw [sumC_out m i y k (by omega), upd_other m y (by omega)]
theorem sumC_upd (m : Nat → Nat) (i y : Nat) : ∀ k, i < k → sumC (upd m i y) k + B.cnt (m i) = sumC m k + B.cnt y
  | 0, h => by omega
  | k + 1, h => by
    simp only [sumC]
    by_cases e : i = k
    · subst e
      rw [sumC_out m i y i (Nat.le_refl _), upd_same]
      omega
    · have := sumC_upd m i y k (by omega)
      rw [upd_other m y (fun h => e h.symm)]
      omega
theorem sumC_le (m : Nat → Nat) : ∀ k, sumC m k ≤ 1024 * k
  | 0 => by simp [sumC]
  | k + 1 => by have := sumC_le m k; have := cnt_le (m k); simp only [sumC]; omega
def tot (S v : Nat) (m : Nat → Nat) : Nat := B.cnt v + sumC m S
theorem tot_le (S v : Nat) (m : Nat → Nat) : tot S v m ≤ 1024 * (S + 1) := by
  have := sumC_le m S
  have := cnt_le v
  unfold tot; omega
theorem cnt_or (a b : Nat) : B.cnt a ≤ B.cnt (a ||| b) := (pc_or 1024 a b).1
theorem cnt_or_same {a b k : Nat} (hk : k ≤ 1024) (hb : b < 2 ^ k) (h : B.cnt (a ||| b) = B.cnt a) : a ||| b = a := by
  have h2 := (pc_or 1024 a b).2.1 h
  apply Nat.eq_of_testBit_eq
  intro i
  rw [Nat.testBit_or]
  by_cases hi : i < 1024
  · have := h2 i hi
    cases hbi : b.testBit i with
    | false => simp
    | true => simp [this hbi]
  · have : b.testBit i = false := Nat.testBit_lt_two_pow (Nat.lt_of_lt_of_le hb (Nat.pow_le_pow_right (Nat.succ_pos 1) (Nat.le_trans hk (by omega))))
    simp [this]

section
variable {tn S n : Nat} {L : Nat → Int} {R : Nat → List Int} {v : Nat} {m : Nat → Nat}
/-- What is found is so. -/
def Sound (tn n : Nat) (L : Nat → Int) (R : Nat → List Int) (v : Nat) (m : Nat → Nat) : Prop :=
  (∀ i : Nat, v.testBit i = true → Nul n L R (i : Int)) ∧ (∀ i t : Nat, (m i).testBit t = true → Beg tn n L R (i : Int) (t : Int)) ∧ ∀ t, t < tn → (m t).testBit t = true
/-- A production adds nothing more. -/
def ClosedAt (L : Nat → Int) (R : Nat → List Int) (v : Nat) (m : Nat → Nat) (k : Nat) : Prop :=
  (rowV v (R k) = true → v.testBit (L k).toNat = true) ∧ ∀ t : Nat, (rowM v m (R k)).testBit t = true → (m (L k).toNat).testBit t = true
/-- All is found. -/
structure Found (tn n : Nat) (L : Nat → Int) (R : Nat → List Int) (v : Nat) (m : Nat → Nat) : Prop where
  nul : ∀ i : Nat, v.testBit i = true ↔ Nul n L R (i : Int)
  beg : ∀ i t : Nat, (m i).testBit t = true ↔ Beg tn n L R (i : Int) (t : Int)

theorem sound_row (h : Sound tn n L R v m) {l : List Int} (hl : ∀ x ∈ l, (0 : Int) ≤ x) : (rowV v l = true → ∀ x ∈ l, Nul n L R x) ∧ ∀ t : Nat, (rowM v m l).testBit t = true → RowB tn n L R l (t : Int) := by
  have key : ∀ l : List Int, (∀ x ∈ l, (0 : Int) ≤ x) → rowV v l = true → ∀ x ∈ l, Nul n L R x := fun l hl hv x hx => by
    have := List.all_eq_true.1 hv x hx
    have h2 := h.1 _ this
    rwa [Int.toNat_of_nonneg (hl x hx)] at h2
  refine ⟨key l hl, fun t ht => ?_⟩
  obtain ⟨p, x, s, rfl, h1, h2⟩ := (rowM_bit v m t l).1 ht
  refine ⟨p, x, s, rfl, key p (fun y hy => hl y (by simp [hy])) h1, ?_⟩
  have := h.2.1 _ _ h2
  rwa [Int.toNat_of_nonneg (hl x (by simp))] at this

theorem sound_step (h : Sound tn n L R v m) {k : Nat} (hk : k < n) (hL : (0 : Int) ≤ L k) (hR : ∀ x ∈ R k, (0 : Int) ≤ x) :
    Sound tn n L R (if rowV v (R k) = true then v ||| 2 ^ (L k).toNat else v) (upd m (L k).toNat (m (L k).toNat ||| rowM v m (R k))) := by
  have hr := sound_row h hR
  refine ⟨fun i hi => ?_, fun i t hi => ?_, fun t ht => ?_⟩
  · by_cases hv : rowV v (R k) = true
    · rw [if_pos hv, Nat.testBit_or, Bool.or_eq_true, Nat.testBit_two_pow] at hi
      rcases hi with hi | hi
      · exact h.1 i hi
      · have e : (L k).toNat = i := by simpa using hi
        rw [← e, Int.toNat_of_nonneg hL]
        exact .prod k hk (hr.1 hv)
    · rw [if_neg hv] at hi
      exact h.1 i hi
  · by_cases e : i = (L k).toNat
    · subst e
      rw [upd_same, Nat.testBit_or, Bool.or_eq_true] at hi
      rcases hi with hi | hi
      · exact h.2.1 _ _ hi
      · obtain ⟨p, x, s, e, h1, h2⟩ := hr.2 t hi
        rw [Int.toNat_of_nonneg hL]
        exact .prod k hk p x s t e h1 h2
    · rw [upd_other _ _ e] at hi
      exact h.2.1 _ _ hi
  · by_cases e : t = (L k).toNat
    · subst e
      rw [upd_same, Nat.testBit_or, h.2.2 _ ht]
      rfl
    · rw [upd_other _ _ e]
      exact h.2.2 t ht

theorem found_of (h : Sound tn n L R v m) (hc : ∀ k, k < n → ClosedAt L R v m k) : Found tn n L R v m := by
  have hN : ∀ x, Nul n L R x → v.testBit x.toNat = true := by
    intro x hx
    induction hx with
    | prod k hk _ ih => exact (hc k hk).1 (List.all_eq_true.2 ih)
  have hB : ∀ x t, Beg tn n L R x t → (m x.toNat).testBit t.toNat = true := by
    intro x t hx
    induction hx with
    | term t h0 h1 => exact h.2.2 _ (by omega)
    | prod k hk p x s t hr hp _ ih =>
      exact (hc k hk).2 _ ((rowM_bit v m _ _).2 ⟨p, x, s, hr, List.all_eq_true.2 fun y hy => hN y (hp y hy), ih⟩)
  refine ⟨fun i => ⟨h.1 i, fun hi => ?_⟩, fun i t => ⟨h.2.1 i t, fun hi => ?_⟩⟩
  · have := hN _ hi; simpa using this
  · have := hB _ _ hi; simpa using this

theorem sound_start (tn n : Nat) (L : Nat → Int) (R : Nat → List Int) : Sound tn n L R 0 (fun i => if i < tn then 2 ^ i else 0) := by
  refine ⟨fun i hi => by simp at hi, fun i t hi => ?_, fun t ht => ?_⟩
  · by_cases h : i < tn
    · simp only [h, if_true, Nat.testBit_two_pow] at hi
      have : i = t := by simpa using hi
      subst this
      exact .term _ (by omega) (by omega)
    · simp [h] at hi
  · simp only [ht, if_true, Nat.testBit_two_pow]
    simp

theorem Found.row (h : Found tn n L R v m) {l : List Int} (hl : ∀ x ∈ l, (0 : Int) ≤ x) : (rowV v l = true ↔ RowN n L R l) ∧ ∀ t : Nat, (rowM v m l).testBit t = true ↔ RowB tn n L R l (t : Int) := by
  have key : ∀ l : List Int, (∀ x ∈ l, (0 : Int) ≤ x) → (rowV v l = true ↔ ∀ x ∈ l, Nul n L R x) := fun l hl => by
    unfold rowV
    rw [List.all_eq_true]
    refine forall_congr' fun x => forall_congr' fun hx => ?_
    rw [h.nul, Int.toNat_of_nonneg (hl x hx)]
  refine ⟨key l hl, fun t => ?_⟩
  rw [rowM_bit]
  unfold RowB
  refine exists_congr fun p => exists_congr fun x => exists_congr fun s => ?_
  constructor
  · rintro ⟨e, h1, h2⟩
    subst e
    rw [key p fun y hy => hl y (by simp [hy])] at h1
    rw [h.beg, Int.toNat_of_nonneg (hl x (by simp))] at h2
    exact ⟨rfl, h1, h2⟩
  · rintro ⟨e, h1, h2⟩
    subst e
    refine ⟨rfl, (key p fun y hy => hl y (by simp [hy])).2 h1, ?_⟩
    rw [h.beg, Int.toNat_of_nonneg (hl x (by simp))]
    exact h2
end

end Go.Proofs.YtdhojilmgnodeaaDoor

/-
  What All does, and what it hands back: going over the members, rising.
-/
namespace Go.Proofs.YtdhojilmgnodeaaDoor.B
open Go.RowKit Go.Shelf

attribute [local go_sem] Oper.semAt_some

theorem wpListIn_load_mid {F : Fence} {k : Nat} {P : Program} {ops : Array Oper} {rest : List Oper} {op : Oper} {a : Act} {w : World} {Q : Exit → Act → World → Prop} (hgd : op.guard = none) (ty : TypeId) (x : Operand) (ho : op.op = .load ty x)
    (b o : Nat) (hx : a.eval x = .pointer (some ⟨b, o, none⟩)) (cs : List Value) (d : TypeDesc) (hc : w.rangeAt b o cs)
    (hu : P.underlying ty = some d) (hd : d.isRow = true) (hi : (P.info? ty).map (·.size) = some cs.length)
    (h : wpListIn F k P ops Q rest (a.put op.dst (.agg cs.toArray)) w) : wpListIn F k P ops Q (op :: rest) a w := by
  refine wpListIn_plain hgd fun K hK => ?_
  unfold Oper.wpIn
  refine ⟨by simp [Oper.about, ho], ?_⟩
  rw [Oper.semAt_plain F _ _ (by rw [ho]; intro c hc'; cases hc')]
  simp only [execOp, ho, hx, Instr.loadAt, Instr.sureAddr, Sem.run_bind, Sem.run_pure, Result.andThen_ok, run_loadVar_mid w b o ty cs d hc hu hd hi]
  exact hK _ _ h

theorem RowAt.words {w : World} {b n : Nat} {f : Nat → Nat} (h : RowAt w b n f) : w.rangeAt b 1 (wordsL f) := fun j v hv => by
  have hj : j < 16 := by have := (List.getElem?_eq_some_iff.1 hv).1; simpa [wordsL_length] using this
  rw [wordsL_at f j hj] at hv
  rw [h.word j hj, hv]

theorem all_any (p : Option Addr) (n m : Nat) (w : World) (h : SetM w p n m) :
    Calls Tryd.prog 52 #[.pointer p] w fun e w' => ∃ b, e = .returned (.func (.func 69) #[] #[.pointer (some ⟨b, 0, none⟩)]) ∧ w.heap.size ≤ b ∧ RowAt w' b n (wd m) ∧ Below w.heap.size w w' := by
  have hV := value_any p n m w h
  clear h
  generalize wd m = f at *
  have hmf : ∀ (fn : Fn) (first cap : Array Value) (w : World), (Instr.makeFunc fn first cap).run Tryd.prog w = .ok (.func fn first cap) w := fun _ _ _ _ => rfl
  go_enter Tryd.func52, Tryd.ntmps52
  go_wp2_with fail
  refine hV.mono ?_
  clear hV
  rintro e w1 ⟨rfl, hb⟩
  have hsz := hb.size
  have HB : Hid (Below w.heap.size w w1) := hb
  clear hb
  go_wp2_with (refine wpList_store_row rfl 83 _ _ rfl w1.heap.size (rowL n f).toArray rfl rfl 83 _ (heap_alloc_last w1 _) (info58' n f) (by simp [rowL]) (oneCell_rowL n f) ?_)
  go_ret
  refine ⟨w1.heap.size, rfl, hsz, ?_, ?_⟩
  · rw [World.setRow_alloc_new]; exact heap_alloc_last w1 _
  · rw [World.setRow_alloc_new]; exact HB.out.alloc hsz _

theorem mems_mono {k k' m : Nat} (h : k ≤ k') : mems k m <+: mems k' m := by
  obtain ⟨d, rfl⟩ : ∃ d, k' = k + d := ⟨k' - k, by omega⟩
  clear h
  induction d with
  | zero => exact List.prefix_refl _
  | succ d ih => rw [← Nat.add_assoc, mems_succ]; exact ih.trans (List.prefix_append _ _)

set_option maxRecDepth 100000 in
set_option maxHeartbeats 2000000 in
theorem all1_in (n l Bn n₀ sz m : Nat) (J Jx : List Int → World → Prop)
    (hY : ∀ pre x W, J pre W → pre.length < 1024 → YieldAt Fence.wide (n - 1) Tryd.prog l #[.int .i64 x] W fun e W' =>
      (e = .returned (.bool true) ∧ J (pre ++ [x]) W' ∧ Below n₀ W W') ∨ (e = .returned (.bool false) ∧ Jx (pre ++ [x]) W'))
    (W : World) (hr : RowAt W Bn sz (wd m)) (hT : Tab W) (hn₀ : 0 < n₀) (h0 : J [] W) :
    CallsIn Fence.wide n Tryd.prog 69 #[.func (.yield l) #[] #[], .pointer (some ⟨Bn, 0, none⟩)] W fun e W' => (∃ v, e = .returned v) ∧
      ((∃ ys, ys = mems 1024 m ∧ J ys W') ∨ (∃ pre, pre <+: mems 1024 m ∧ Jx pre W')) := by
  have hrange := hr.words
  have HY : Hid (∀ pre x W, J pre W → pre.length < 1024 → YieldAt Fence.wide (n - 1) Tryd.prog l #[.int .i64 x] W fun e W' =>
      (e = .returned (.bool true) ∧ J (pre ++ [x]) W' ∧ Below n₀ W W') ∨ (e = .returned (.bool false) ∧ Jx (pre ++ [x]) W')) := hY
  have HT : Hid (Tab W) := hT
  clear hr hY hT
  refine callsIn_of_wp Tryd.func69 rfl trivial ?_ rfl
  simp only [Tryd.ntmps69, List.size_toArray, List.length_cons, List.length_nil, Nat.reduceAdd, Nat.reduceSub, Array.replicate_succ, Array.replicate_zero, List.push_toArray, List.append_toArray, List.nil_append, List.cons_append]
  gi_wp2_with (refine wpListIn_load_mid rfl 81 _ rfl Bn 1 rfl (wordsL (wd m)) _ hrange Tryd.underlying81 rfl (by rw [info56, wordsL_length]) ?_)
  obtain ⟨M, hM⟩ : ∃ M : Nat → List Int, ∀ k, M k = mems k m := ⟨fun k => mems k m, fun _ => rfl⟩
  have HM : Hid (∀ k, M k = mems k m) := hM
  have h0' : J (M 0) W := by rw [hM]; exact h0
  have H0 : Hid (J (M 0) W) := h0'
  have hlen : ∀ k, (M k).length ≤ k := fun k => by rw [hM, mems_length]; exact pc_le _ _
  have HL : Hid (∀ k, (M k).length ≤ k) := hlen
  clear hM h0 h0' hrange hlen
  gi_loopw [8] (fun i wr => ∃ k : Nat, k ≤ 16 ∧ i = .int .i64 k ∧ J (M (64 * k)) wr ∧ Below n₀ W wr) (fun i _ => 16 - (intOf i).toNat)
  case atStart => exact ⟨0, by omega, rfl, H0.out, Below.refl _ _⟩
  case round =>
    obtain ⟨k, hk, rfl, hJ, hbel⟩ := hrel
    by_cases hlt : k < 16
    · have hi := fun w' => run_word (wd m) k hlt w'
      have hwlt := wd_lt m k
      have HJ : Hid (J (M (64 * k)) wr) := hJ
      have HB : Hid (Below n₀ W wr) := hbel
      have HW : Hid (∀ s, (wd m k).testBit s = (decide (s < 64) && m.testBit (64 * k + s))) := testBit_wd m k
      clear hJ hbel
      have hdk : decide ((k : Int) < 16) = true := decide_eq_true (by omega)
      gi_wp2
      generalize wd m k = x at *
      gi_loopw [5] (fun r wr => ∃ rn j : Nat, r = .int .u64 rn ∧ j ≤ 64 ∧ rn < 18446744073709551616 ∧ RestOf x j rn ∧ J (M (64 * k + j)) wr ∧ Below n₀ W wr) (fun r _ => (intOf r).toNat)
      case atStart => exact ⟨x, 0, rfl, by omega, hwlt, RestOf.start x, HJ.out, HB.out⟩
      case round =>
        obtain ⟨rn, j, rfl, hj, hrn, hrest, hJ, hbel⟩ := hrel
        by_cases hz : rn = 0
        · subst hz
          have HJ2 : Hid (J (M (64 * (k + 1))) wr) := by
            have e : M (64 * (k + 1)) = M (64 * k + j) := by
              rw [HM.out, HM.out, show 64 * (k + 1) = (64 * k + j) + (64 - j) by omega]
              refine mems_skip m _ _ (fun s h1 h2 => ?_)
              have h3 := hrest.zero (s - 64 * k) (by omega)
              rw [HW.out, decide_eq_true (by omega : s - 64 * k < 64), Bool.true_and, show 64 * k + (s - 64 * k) = s by omega] at h3
              exact h3
            show J _ _
            rw [e]; exact hJ
          have HB2 : Hid (Below n₀ W wr) := hbel
          clear hrest hJ hbel
          gi_wp2
          go_roundw
          case rel => exact ⟨k + 1, by omega, by go_num, HJ2.out, HB2.out⟩
          case measure => simp [intOf]; omega
        · obtain ⟨t, ht64, htb, htl, hTZ⟩ := tz_any rn hrn hz wr (HT.out.below hbel hn₀)
          have hzb : ((rn : Int) != 0) = true := by simp [hz]
          have hjt : j ≤ t := by
            apply Classical.byContradiction
            intro hc
            have := hrest t
            rw [htb] at this
            simp [show ¬ j ≤ t by omega] at this
          have hmt : m.testBit (64 * k + t) = true := by
            have h1 := hrest t
            rw [htb, HW.out] at h1
            simp only [decide_eq_true hjt, decide_eq_true ht64, Bool.true_and] at h1
            exact h1.symm
          have hml : ∀ s, 64 * k + j ≤ s → s < 64 * k + t → m.testBit s = false := fun s h1 h2 => by
            have h3 := hrest (s - 64 * k)
            rw [htl _ (by omega), HW.out, decide_eq_true (by omega : j ≤ s - 64 * k), decide_eq_true (by omega : s - 64 * k < 64), show 64 * k + (s - 64 * k) = s by omega] at h3
            simpa using h3.symm
          have hlen := HL.out (64 * k + j)
          have HE : Hid (M (64 * k + (t + 1)) = M (64 * k + j) ++ [(k : Int) * 64 + (t : Int)]) := by
            show _ = _
            rw [HM.out, HM.out]
            have := mems_hit m (64 * k + j) (t - j) (fun s h1 h2 => hml s h1 (by omega)) (by rw [show 64 * k + j + (t - j) = 64 * k + t by omega]; exact hmt)
            rw [show 64 * k + j + (t - j) + 1 = 64 * k + (t + 1) by omega, show 64 * k + j + (t - j) = 64 * k + t by omega] at this
            rw [this]
            congr 2
            omega
          have HR : Hid (RestOf x (t + 1) (rn &&& (rn - 1))) := rest_next hrest htb htl
          have HRL : Hid (rn &&& (rn - 1) < rn) := rest_lt hz
          have hand : bits BinOp.and IntKind.u64 (rn : Int) ((rn : Int) - 1) = ((rn &&& (rn - 1) : Nat) : Int) := by
            have e : ((rn : Int) - 1) = ((rn - 1 : Nat) : Int) := by omega
            rw [e]; exact bits_and_u64_nat _ _ hrn (by omega)
          obtain ⟨r2, hr2⟩ : ∃ r2, r2 = rn &&& (rn - 1) := ⟨_, rfl⟩
          rw [← hr2] at HR HRL hand
          obtain ⟨fn, tmps, assign, body, hy, hR⟩ := HY.out (M (64 * k + j)) ((k : Int) * 64 + (t : Int)) wr hJ (by omega)
          have HB2 : Hid (Below n₀ W wr) := hbel
          clear hrest hJ hbel hmt hml htb htl hr2
          gi_wp2
          refine ⟨trivial, fun h => (by cases h), ?_⟩
          refine (callsIn_wide.2 hTZ).mono ?_
          clear hTZ
          rintro e w' ⟨rfl, rfl⟩
          gi_wp2
          refine ⟨fun h => (by cases h), hR.mono ?_⟩
          clear hR hy
          rintro e W3 (⟨rfl, hJ3, hk3⟩ | ⟨rfl, hJx3⟩)
          · have HJ3 : Hid (J (M (64 * k + (t + 1))) W3) := by
              show J _ _
              rw [HE.out]; exact hJ3
            have HB3 : Hid (Below n₀ W W3) := HB2.out.trans hk3
            clear hJ3 hk3
            gi_wp2
            go_roundw
            case rel => exact ⟨r2, t + 1, rfl, by omega, by have := HRL.out; omega, HR.out, HJ3.out, HB3.out⟩
            case measure => have := HRL.out; simp [intOf]; omega
          · gi_wp2
            refine bodyPost_ret (results_none rfl _ _ _) rfl ?_
            refine ⟨⟨_, rfl⟩, .inr ⟨_, ?_, hJx3⟩⟩
            rw [← HE.out, HM.out]
            exact mems_mono (by omega)
    · obtain rfl : k = 16 := by omega
      have HJ : Hid (J (M (64 * 16)) wr) := hJ
      clear hJ hbel
      gi_wp2
      go_end0
      exact ⟨⟨_, rfl⟩, .inl ⟨_, HM.out _, HJ.out⟩⟩

/-- What All hands back goes over all members, rising, or over the first of them. -/
theorem all_stops (n Bn n₀ sz m : Nat) (w : World) (hr : RowAt w Bn sz (wd m)) (hT : Tab w) (hn₀ : 0 < n₀) (hw : 0 < w.heap.size) :
    SeqStopsK Fence.wide n Tryd.prog 69 #[.pointer (some ⟨Bn, 0, none⟩)] (fun x : Int => #[Value.int .i64 x]) (Below n₀) (fun ys => ys = mems 1024 m) (fun pre => pre <+: mems 1024 m) 1024 w := fun l J Jx W hW _ _ hY h0 =>
  all1_in n l Bn n₀ sz m J Jx hY W (hr.below hW hr.lt) (hT.below hW hw) hn₀ h0

end Go.Proofs.YtdhojilmgnodeaaDoor.B

/-
  What Members does.
-/
namespace Go.Proofs.YtdhojilmgnodeaaDoor.B
open Go.RowKit Go.Shelf

attribute [local go_sem] Oper.semAt_some

theorem info3 : (Tryd.prog.info? 3).map (fun i => (i.zero, i.size, i.bytes)) = some (some (.int .i64 0), 1, 8) := by kernel_rfl

set_option maxRecDepth 100000 in
set_option maxHeartbeats 2000000 in
theorem members_in (n : Nat) (hn : 3 ≤ n) (c : Nat → Nat) (hC : CountIs c) (hle : ∀ x, c x ≤ 1024) (p : Option Addr) (sz m : Nat) (w : World) (h : SetM w p sz m) (hT : Tab w) (hw0 : 0 < w.heap.size) :
    CallsIn Fence.wide n Tryd.prog 32 #[.pointer p] w fun e w' => ∃ v, e = .returned v ∧ w'.ownsRow w.heap.size 3 1 v (mems 1024 m).length ((mems 1024 m).map (Value.int .i64)) ∧ Below w.heap.size w w' := by
  have h1 : 1 ≤ n := by omega
  have hcm := hle m
  obtain ⟨i0, hi, hz0, hz1, hz2⟩ := info_parts info3
  have HP : Hid (SetM w p sz m) := h
  have HT : Hid (Tab w) := hT
  clear h hT hle
  refine callsIn_of_wp_marks Tryd.func32 rfl trivial ?_ rfl
  simp only [Tryd.ntmps32, List.size_toArray, List.length_cons, List.length_nil, Nat.reduceAdd, Nat.reduceSub, Array.replicate_succ, Array.replicate_zero, List.push_toArray, List.append_toArray, List.nil_append, List.cons_append]
  gi_wp2
  refine ⟨trivial, ?_⟩
  refine (callsIn_wide.2 (hC p sz m _ HP.out)).mono ?_
  rintro e w1 ⟨rfl, hb1⟩
  have hs1 := hb1.size
  gi_wp2_with (gi_at_make; refine wpListIn_make_own _ rfl _ _ 24 rfl w.heap.size 3 i0 (.int .i64 0) 1 Tryd.underlying24 hi hz0 hz1 .i64 .i64 _ (c m) rfl rfl rfl (by rw [hz2]; omega) (by unfold maxLen; omega) hs1 ?_; intro w2 hown hgrow)
  have hb2 : Below w.heap.size w w2 := hb1.grown hgrow hs1 (fun k e => by cases e)
  have hs2 := hb2.size
  have hbW : Below w.heap.size w (w2.alloc (.cells #[.slice (some ⟨w1.heap.size, 0, none⟩) 0 (c m)] 24)) := hb2.alloc hs2 _
  have bO := Boxed.new w2 24 (.slice (some ⟨w1.heap.size, 0, none⟩) 0 (c m))
  have hownW := hown.alloc (.cells #[.slice (some ⟨w1.heap.size, 0, none⟩) 0 (c m)] 24)
  generalize hV : Value.slice (some ⟨w1.heap.size, 0, none⟩) 0 (c m) = v0 at *
  generalize w2.alloc (.cells #[v0] 24) = W at *
  generalize w2.heap.size = Bx at *
  have HV : Hid (Value.slice (some ⟨w1.heap.size, 0, none⟩) 0 (c m) = v0) := hV
  clear hV hown hgrow hb1 hs1 hb2
  refine ⟨trivial, ?_⟩
  refine (callsIn_wide.2 (all_any p sz m _ (HP.out.keep hbW))).mono ?_
  rintro e w3 ⟨b, rfl, hbge, hrow3, hb3⟩
  have hg3 : W.grownBy w3 none := ⟨hb3.os, hb3.tape, hb3.output, hb3.size, fun k hk _ => hb3.block k hk⟩
  have bO3 : Boxed w3 Bx 24 v0 := bO.kept hg3 (by simp)
  have hown3 : w3.ownsRow w.heap.size 3 1 v0 0 [] := hownW.kept hg3 (.inr (by rw [← HV.out]; simp [Value.ownBlock]))
  have hbW3 : Below w.heap.size w w3 := hbW.trans (hb3.mono hbW.size)
  have hsz3 := hbW3.size
  have hT3 : Tab w3 := HT.out.below hbW3 hw0
  have hBx3 := bO3.lt
  have hstop := all_stops (n - 1) b w.heap.size sz m w3 hrow3 hT3 hw0 (by omega)
  clear hbW bO hownW hb3 hg3 hrow3 hT3 hbge
  gi_wp2
  refine wpIn_rangeFunc_ownG rfl h1 (gf := 69) (lb := #[.pointer (some ⟨b, 0, none⟩)]) rfl trivial (enters_of Tryd.func69 (by kernel_rfl) rfl)
    hstop belowK_t (belowK_b hsz3) (Below.refl _ _) (fun _ => rfl)
    (fun pre W => (∃ v, Boxed W Bx 24 v ∧ W.ownsRow w.heap.size 3 1 v pre.length (pre.map (Value.int .i64)) ∧ True) ∧ Below w.heap.size w W)
    (fun _ _ _ => False)
    (OwnFrom.and (Own.from (holdsRow_own w.heap.size Bx 24 3 1 (fun pre : List Int => pre.length) (fun pre : List Int => pre.map (Value.int .i64)) (fun _ _ => True)) _) (ownFrom_below (Nat.le_refl _) hsz3))
    (fun _ _ _ _ _ hs _ _ => hs)
    ⟨⟨_, bO3, hown3, trivial⟩, hbW3⟩
    (fun x => { tmps := #[.pointer p, undef, .slice none 0 0, .pointer (some ⟨Bx, 0, none⟩), .int .i64 x, .pointer p, .int .i64 (c m), v0, .pointer p, .func (.func 69) #[] #[.pointer (some ⟨b, 0, none⟩)], .int .i64 x, undef, undef, undef, undef, undef], defers := [] }) ?assign ?body ?done ?stop
  case assign =>
    intro l x W K hK
    gi_wp2
    exact hK
  case body =>
    rintro l pre x W ⟨⟨v, hv, hrow, _⟩, hB⟩ hlt
    have hc := hv.cell
    have hBs := hB.size
    gi_wp2_with (gi_at_builtin; refine wpListIn_append_own _ rfl _ _ 24 rfl w.heap.size 3 i0 (.int .i64 0) 1 8 Tryd.underlying24 hi hz0 hz1 hz2 rfl (by decide) _ _ _ rfl (hrow.alloc _) ⟨W.heap.size, 0, none⟩ 1 1 [.int .i64 x] rfl rfl (cell_one_new _ _ _) (by simp [Value.oneCell']) (by unfold maxLen; omega) (by omega) (by simp; omega) ?_; intro v' w1 hown' hgrow _; obtain ⟨g', cap', rfl⟩ := ownsRow_succ hown'; obtain ⟨hv1, hv2, hr2, hk2, hb2⟩ := hv.appended (by decide) hrow hB.size (by omega) hown' hgrow; have hc1 := hv1.cell; have hf1 := hv1.frozen)
    exact ⟨hk2.from _, hb2, ⟨_, hv2, by simpa using hr2, trivial⟩, hB.trans hb2⟩
  case done =>
    rintro D ys W hD rfl ⟨⟨v, hv, hrow, _⟩, hB⟩ hK
    have hc := hv.cell
    gi_wp2
    refine ⟨by simp, .inl ⟨_, _, rfl, run_takeDeferred hK, ?_⟩⟩
    exact ⟨_, results_tmp rfl _ _ _, v, rfl, ownsRow_putObj hrow _ hK rfl, hB.trans (belowK_b (w := w) (Nat.le_refl _) W D _ _ (by omega) hK rfl rfl)⟩
  case stop =>
    rintro D c pre W _ _ h _
    exact h.elim

end Go.Proofs.YtdhojilmgnodeaaDoor.B

/-
  first: sets and what is found, in memory.
-/
namespace Go.Proofs.YtdhojilmgnodeaaDoor
open Go.RowKit Go.Maps Go.Shelf

/-- One member more. -/
theorem add_one (b n m bl : Nat) (x : Int) (w : World) (hS : B.SetM w (some ⟨b, 0, none⟩) n m) (hne : bl ≠ b) (hl : w.cell? ⟨bl, 0, none⟩ = some (.int .i64 x)) :
    Calls Tryd.prog 58 #[.pointer (some ⟨b, 0, none⟩), .slice (some ⟨bl, 0, none⟩) 1 1] w fun e w' => e = .returned (.int .i64 ((B.addS n m [x]).2 : Nat)) ∧ B.SetM w' (some ⟨b, 0, none⟩) n (B.addS n m [x]).1 ∧ w.grownBy w' (some b) := by
  have h1 : ∀ i, i < [x].length → w.cell? ⟨bl, 0 + i, none⟩ = some (.int .i64 ([x].getD i 0)) := fun i hi => by
    have : i = 0 := by simpa using hi
    subst this
    exact hl
  refine Calls.mono (B.add_row b n m bl 0 1 [x] w hS.1 hS.2.1 (SetM_row hS) hne (by simp) h1) ?_
  rintro e w' ⟨he, hr, hlt, hb⟩
  exact ⟨he, B.SetM.of hr hS.1 hlt, hb.os, hb.tape, hb.output, hb.size, fun k hk hne => hb.block k hk (by simpa using hne)⟩

theorem grown_some {w w' : World} (b : Nat) (h : w.grownBy w' none) : w.grownBy w' (some b) := ⟨h.os, h.tape, h.output, h.size, fun k hk _ => h.block k hk (by simp)⟩
theorem grown_then {w w1 w2 : World} {b : Nat} (h : w.grownBy w1 none) (hg : w1.grownBy w2 (some b)) : w.grownBy w2 (some b) :=
  ⟨hg.os.trans h.os, hg.tape.trans h.tape, hg.output.trans h.output, Nat.le_trans h.size hg.size, fun k hk hne => (hg.block k (Nat.lt_of_lt_of_le hk h.size) hne).trans (h.block k hk (by simp))⟩

/-- Of what was there, blocks from lo on below hi alone may have turned. -/
structure Outside (lo hi : Nat) (X Y : World) : Prop where
  os : Y.os = X.os
  tape : Y.tape = X.tape
  output : Y.output = X.output
  size : X.heap.size ≤ Y.heap.size
  block : ∀ j, j < X.heap.size → (j < lo ∨ hi ≤ j) → Y.heap[j]? = X.heap[j]?
theorem Outside.kept {lo hi : Nat} {X Y Z : World} (h : Outside lo hi X Y) (hg : Y.grownBy Z none) : Outside lo hi X Z :=
  ⟨hg.os.trans h.os, hg.tape.trans h.tape, hg.output.trans h.output, Nat.le_trans h.size hg.size, fun j hj ho => (hg.block j (Nat.lt_of_lt_of_le hj h.size) (by simp)).trans (h.block j hj ho)⟩
theorem Outside.at {lo hi b : Nat} {X Y Z : World} (h : Outside lo hi X Y) (hg : Y.grownBy Z (some b)) (h1 : lo ≤ b) (h2 : b < hi) : Outside lo hi X Z :=
  ⟨hg.os.trans h.os, hg.tape.trans h.tape, hg.output.trans h.output, Nat.le_trans h.size hg.size, fun j hj ho => (hg.block j (Nat.lt_of_lt_of_le hj h.size) (by simp; omega)).trans (h.block j hj ho)⟩
theorem Outside.grown {lo hi : Nat} {w X Y : World} (h : Outside lo hi X Y) (hw : w.grownBy X none) (hl : w.heap.size ≤ lo) : w.grownBy Y none :=
  ⟨h.os.trans hw.os, h.tape.trans hw.tape, h.output.trans hw.output, Nat.le_trans hw.size h.size, fun j hj _ => (h.block j (Nat.lt_of_lt_of_le hj hw.size) (.inl (by omega))).trans (hw.block j hj (by simp))⟩

/-- A union with one other of the same size. -/
theorem union_in (b c n m s bl : Nat) (w : World) (hm : B.SetM w (some ⟨b, 0, none⟩) n m) (hs : B.SetM w (some ⟨c, 0, none⟩) n s) (hne : c ≠ b) (hnl : bl ≠ b) (hl : w.cell? ⟨bl, 0, none⟩ = some (.pointer (some ⟨c, 0, none⟩))) :
    Calls Tryd.prog 57 #[.pointer (some ⟨b, 0, none⟩), .slice (some ⟨bl, 0, none⟩) 1 1] w fun e w' =>
      e = .returned (.int .i64 (((B.cnt (m ||| s) : Nat) : Int) - (B.cnt m : Nat))) ∧ B.SetM w' (some ⟨b, 0, none⟩) n (m ||| s) ∧ w.grownBy w' (some b) := by
  have e : s &&& (2 ^ n - 1) = s := by rw [Nat.and_two_pow_sub_one_eq_mod]; exact Nat.mod_eq_of_lt hs.2.1
  exact union_one b c n m s bl w hm hs hne hnl hl _ (by rw [e]) _ (by rw [e])

theorem addS_one {n m i : Nat} (hi : i < n) : B.addS n m [(i : Int)] = if m.testBit i = true then (m, 0) else (m ||| 2 ^ i, 1) := by
  have h1 : B.inB n (i : Int) = true := by simp [B.inB, hi]
  have h2 : B.hasB m (i : Int) = m.testBit i := by simp [B.hasB]
  show B.addStep n (m, 0) (i : Int) = _
  unfold B.addStep
  rw [h1]
  simp only [h2, Bool.true_and, Int.toNat_natCast]
  cases m.testBit i <;> rfl
theorem or_bit_same {m i : Nat} (h : m.testBit i = true) : m ||| 2 ^ i = m := by
  apply Nat.eq_of_testBit_eq
  intro j
  rw [Nat.testBit_or, Nat.testBit_two_pow]
  by_cases e : i = j
  · subst e; simp [h]
  · simp [e]
/-- One member below the size more. -/
theorem add_in (b n m bl i : Nat) (hi : i < n) (w : World) (hS : B.SetM w (some ⟨b, 0, none⟩) n m) (hne : bl ≠ b) (hl : w.cell? ⟨bl, 0, none⟩ = some (.int .i64 (i : Int))) :
    Calls Tryd.prog 58 #[.pointer (some ⟨b, 0, none⟩), .slice (some ⟨bl, 0, none⟩) 1 1] w fun e w' => e = .returned (.int .i64 ((if m.testBit i = true then 0 else 1 : Nat) : Int)) ∧ B.SetM w' (some ⟨b, 0, none⟩) n (m ||| 2 ^ i) ∧ w.grownBy w' (some b) := by
  refine (add_one b n m bl (i : Int) w hS hne hl).mono ?_
  rintro e w' ⟨rfl, h2, h3⟩
  rw [addS_one hi] at h2 ⊢
  cases h : m.testBit i with
  | true => rw [h] at h2; exact ⟨rfl, by rw [or_bit_same h]; exact h2, h3⟩
  | false => rw [h] at h2; exact ⟨rfl, h2, h3⟩
theorem cnt_add {m i : Nat} (hi : i < 1024) (h : m.testBit i = false) : B.cnt (m ||| 2 ^ i) = B.cnt m + 1 := by
  have key : ∀ k m, B.pc (k + 1) m = B.pc k m + (if m.testBit k = true then 1 else 0) := by
    intro k m
    rw [← B.mems_length, ← B.mems_length, B.mems_succ, List.length_append]
    cases m.testBit k <;> simp
  have hb : ∀ j, (m ||| 2 ^ i).testBit j = (m.testBit j || decide (i = j)) := fun j => by rw [Nat.testBit_or, Nat.testBit_two_pow]
  have below : ∀ k, k ≤ i → B.pc k (m ||| 2 ^ i) = B.pc k m := by
    intro k
    induction k with
    | zero => intro _; simp [B.pc, B.ds]
    | succ k ih =>
      intro hk
      rw [key, key, ih (by omega), hb]
      have : ¬ i = k := by omega
      simp [this]
  have above : ∀ d, B.pc (i + 1 + d) (m ||| 2 ^ i) = B.pc (i + 1 + d) m + 1 := by
    intro d
    induction d with
    | zero =>
      rw [Nat.add_zero, key, key, below i (Nat.le_refl _), hb, h]
      simp
    | succ d ih =>
      rw [← Nat.add_assoc, key, key, ih, hb]
      have : ¬ i = i + 1 + d := by omega
      simp [this]
      omega
  have := above (1024 - (i + 1))
  rw [show i + 1 + (1024 - (i + 1)) = 1024 by omega] at this
  exact this

/-- What is found, in memory: a row of sets, by symbol, and the set of what vanishes. -/
structure FAt (w : World) (lo hi tn S fb vb : Nat) (f : Nat → Nat) (v : Nat) (m : Nat → Nat) : Prop where
  row : ∀ i, i < S → w.cell? ⟨fb, i, none⟩ = some (.pointer (some ⟨f i, 0, none⟩))
  sets : ∀ i, i < S → B.SetM w (some ⟨f i, 0, none⟩) tn (m i)
  van : B.SetM w (some ⟨vb, 0, none⟩) S v
  rng : (lo ≤ vb ∧ vb < hi) ∧ (lo ≤ fb ∧ fb < hi) ∧ ∀ i, i < S → lo ≤ f i ∧ f i < hi
  inj : ∀ i j, i < S → j < S → f i = f j → i = j
  ne : vb ≠ fb ∧ ∀ i, i < S → f i ≠ vb ∧ f i ≠ fb
section
variable {w w' : World} {lo hi tn S fb vb : Nat} {f : Nat → Nat} {v : Nat} {m : Nat → Nat}
theorem FAt.kept (h : FAt w lo hi tn S fb vb f v m) (hg : w.grownBy w' none) : FAt w' lo hi tn S fb vb f v m :=
  ⟨fun i hi => hg.cell (h.row i hi) (by simp), fun i hi => SetM_kept (h.sets i hi) hg, SetM_kept h.van hg, h.rng, h.inj, h.ne⟩
theorem FAt.other {c : Nat} (h : FAt w lo hi tn S fb vb f v m) (hg : w.grownBy w' (some c)) (hc : c < lo ∨ hi ≤ c) : FAt w' lo hi tn S fb vb f v m :=
  ⟨fun i hi => hg.cell (h.row i hi) (by have := h.rng.2.1; simp; omega), fun i hi => SetM_at (h.sets i hi) hg (by have := h.rng.2.2 i hi; omega), SetM_at h.van hg (by have := h.rng.1; omega), h.rng, h.inj, h.ne⟩
theorem FAt.setB {i y : Nat} (h : FAt w lo hi tn S fb vb f v m) (hiS : i < S) (hg : w.grownBy w' (some (f i))) (hS : B.SetM w' (some ⟨f i, 0, none⟩) tn y) : FAt w' lo hi tn S fb vb f v (upd m i y) :=
  ⟨fun j hj => hg.cell (h.row j hj) (by have := (h.ne.2 i hiS).2; simp; omega), fun j hj => by
    by_cases e : j = i
    · subst e; rw [upd_same]; exact hS
    · rw [upd_other _ _ e]; exact SetM_at (h.sets j hj) hg (fun e2 => e (h.inj j i hj hiS e2)), SetM_at h.van hg (by have := (h.ne.2 i hiS).1; omega), h.rng, h.inj, h.ne⟩
theorem FAt.setV {y : Nat} (h : FAt w lo hi tn S fb vb f v m) (hg : w.grownBy w' (some vb)) (hS : B.SetM w' (some ⟨vb, 0, none⟩) S y) : FAt w' lo hi tn S fb vb f y m :=
  ⟨fun j hj => hg.cell (h.row j hj) (by have := h.ne.1; simp; omega), fun j hj => SetM_at (h.sets j hj) hg (h.ne.2 j hj).1, hS, h.rng, h.inj, h.ne⟩
end

theorem has_in (b n m i : Nat) (w : World) (h : B.SetM w (some ⟨b, 0, none⟩) n m) : Calls Tryd.prog 29 #[.pointer (some ⟨b, 0, none⟩), .int .i64 (i : Int)] w fun e w' => e = .returned (.bool (m.testBit i)) ∧ w.grownBy w' none := by
  refine (B.has_any _ n m (i : Int) w h).mono ?_
  rintro e w' ⟨rfl, k, rfl⟩
  exact ⟨by simp [B.hasB], grown_drewN _ _⟩

end Go.Proofs.YtdhojilmgnodeaaDoor
