/-
  FirstProds, walked.
-/
import Derived.Test.YtdhojilmgnodeaaDoorQfpppnncfiiga
namespace Go.Proofs.YtdhojilmgnodeaaDoor
open Go.RowKit Go.Maps Go.Shelf

attribute [local go_sem] Oper.semAt_some

/-! ### Sets of numbers below 65, as lists -/
theorem mems_contains (m i : Nat) (hi : i < 1024) : (B.mems 1024 m).contains (i : Int) = m.testBit i := by
  have : ((B.mems 1024 m).contains (i : Int) = true) ↔ (m.testBit i = true) := by
    rw [List.contains_iff_mem]
    unfold B.mems
    simp only [List.mem_map, List.mem_filter, List.mem_range]
    constructor
    · rintro ⟨j, ⟨_, h2⟩, h3⟩
      have : j = i := by omega
      rw [← this]; exact h2
    · intro h; exact ⟨i, ⟨hi, h⟩, rfl⟩
  cases h1 : (B.mems 1024 m).contains (i : Int) <;> cases h2 : m.testBit i <;> simp_all
theorem mems_65 {m : Nat} (h : m < 2 ^ 65) : B.mems 1024 m = B.mems 65 m := by
  have := B.mems_skip m 65 959 (fun s h1 _ => Nat.testBit_lt_two_pow (Nat.lt_of_lt_of_le h (Nat.pow_le_pow_right (by decide) h1)))
  exact this
theorem both_to {la lb : List Int} {x y N : Nat} (h1 : ∀ i : Nat, i < N → la.contains (i : Int) = x.testBit i) (h2 : ∀ i : Nat, i < N → lb.contains (i : Int) = y.testBit i) : ∀ k, k ≤ N → bothTo la lb k = B.mems k (x ||| y)
  | 0, _ => rfl
  | k + 1, h => by
    rw [bothTo_succ, B.mems_succ, both_to h1 h2 k (by omega), h1 k (by omega), h2 k (by omega), Nat.testBit_or]
theorem both_mems {x y : Nat} (hx : x < 2 ^ 65) (hy : y < 2 ^ 65) : bothTo (B.mems 1024 x) (B.mems 1024 y) 65 = B.mems 1024 (x ||| y) := by
  rw [mems_65 (Nat.or_lt_two_pow hx hy)]
  exact both_to (N := 1024) (fun i hi => mems_contains x i hi) (fun i hi => mems_contains y i hi) 65 (by omega)
theorem mems_short (m : Nat) : (B.mems 1024 m).length ≤ 1024 := by rw [B.mems_length]; exact B.pc_le _ _
theorem mems_zero : B.mems 1024 0 = [] := by
  unfold B.mems
  simp

/-! ### What the productions of a nonterminal have together -/
def accQ (L : Nat → Int) (q : Nat → Nat) (x : Int) : Nat → Nat
  | 0 => 0
  | k + 1 => if L k = x then accQ L q x k ||| q k else accQ L q x k
def accB (L : Nat → Int) (b : Nat → Bool) (x : Int) : Nat → Bool
  | 0 => false
  | k + 1 => if L k = x then accB L b x k || b k else accB L b x k
theorem accQ_bit (L : Nat → Int) (q : Nat → Nat) (x : Int) (t : Nat) : ∀ n, (accQ L q x n).testBit t = true ↔ ∃ k, k < n ∧ L k = x ∧ (q k).testBit t = true
  | 0 => by simp [accQ]
  | n + 1 => by
    have ih := accQ_bit L q x t n
    unfold accQ
    by_cases h : L n = x
    · rw [if_pos h, Nat.testBit_or, Bool.or_eq_true, ih]
      constructor
      · rintro (⟨k, h1, h2, h3⟩ | h3)
        · exact ⟨k, by omega, h2, h3⟩
        · exact ⟨n, by omega, h, h3⟩
      · rintro ⟨k, h1, h2, h3⟩
        by_cases e : k = n
        · subst e; exact .inr h3
        · exact .inl ⟨k, by omega, h2, h3⟩
    · rw [if_neg h, ih]
      constructor
      · rintro ⟨k, h1, h2, h3⟩; exact ⟨k, by omega, h2, h3⟩
      · rintro ⟨k, h1, h2, h3⟩
        by_cases e : k = n
        · subst e; exact absurd h2 h
        · exact ⟨k, by omega, h2, h3⟩
theorem accB_iff (L : Nat → Int) (b : Nat → Bool) (x : Int) : ∀ n, accB L b x n = true ↔ ∃ k, k < n ∧ L k = x ∧ b k = true
  | 0 => by simp [accB]
  | n + 1 => by
    have ih := accB_iff L b x n
    unfold accB
    by_cases h : L n = x
    · rw [if_pos h, Bool.or_eq_true, ih]
      constructor
      · rintro (⟨k, h1, h2, h3⟩ | h3)
        · exact ⟨k, by omega, h2, h3⟩
        · exact ⟨n, by omega, h, h3⟩
      · rintro ⟨k, h1, h2, h3⟩
        by_cases e : k = n
        · subst e; exact .inr h3
        · exact .inl ⟨k, by omega, h2, h3⟩
    · rw [if_neg h, ih]
      constructor
      · rintro ⟨k, h1, h2, h3⟩; exact ⟨k, by omega, h2, h3⟩
      · rintro ⟨k, h1, h2, h3⟩
        by_cases e : k = n
        · subst e; exact absurd h2 h
        · exact ⟨k, by omega, h2, h3⟩
theorem accQ_lt {L : Nat → Int} {q : Nat → Nat} {x : Int} (hq : ∀ k, q k < 2 ^ 65) : ∀ n, accQ L q x n < 2 ^ 65
  | 0 => by simp [accQ]
  | n + 1 => by
    unfold accQ
    split
    · exact Nat.or_lt_two_pow (accQ_lt hq n) (hq n)
    · exact accQ_lt hq n

/-- What the rows of the productions have, told once. -/
structure QOf (tn n : Nat) (L : Nat → Int) (R : Nat → List Int) (b : Nat → Bool) (q : Nat → Nat) : Prop where
  row : ∀ k, b k = true ↔ RowN n L R (R k)
  set : ∀ k (t : Nat), (q k).testBit t = true ↔ RowB tn n L R (R k) (t : Int)
  lt : ∀ k, q k < 2 ^ 65
theorem RowB.bound {tn n : Nat} {L : Nat → Int} {R : Nat → List Int} {l : List Int} {t : Int} (h : RowB tn n L R l t) : (0 : Int) ≤ t ∧ t < (tn : Int) := by
  obtain ⟨_, _, _, _, _, h⟩ := h
  exact h.bound
theorem QOf.exists {tn : Nat} (ht : tn ≤ 65) (n : Nat) (L : Nat → Int) (R : Nat → List Int) : ∃ b q, QOf tn n L R b q := by
  have h1 : ∀ k : Nat, ∃ b : Bool, b = true ↔ RowN n L R (R k) := fun k => boolOf _
  have h2 : ∀ k : Nat, ∃ m : Nat, m < 2 ^ 65 ∧ ∀ t : Nat, m.testBit t = true ↔ RowB tn n L R (R k) (t : Int) := fun k => by
    obtain ⟨m, hm, h⟩ := exists_mask (fun t => RowB tn n L R (R k) (t : Int)) 65
    refine ⟨m, hm, fun t => (h t).trans ⟨fun h => h.2, fun h => ⟨?_, h⟩⟩⟩
    have := h.bound; omega
  exact ⟨fun i => (h1 i).choose, fun i => (h2 i).choose, fun i => (h1 i).choose_spec, fun i => (h2 i).choose_spec.2, fun i => (h2 i).choose_spec.1⟩
theorem acc_all {tn n : Nat} {L : Nat → Int} {R : Nat → List Int} {F : Nat → Bool} {M : Nat → Nat} {b : Nat → Bool} {q : Nat → Nat} (hF : FOf tn n L R F M) (hQ : QOf tn n L R b q) (i : Nat) : accB L b ((tn + i : Nat) : Int) n = F i ∧ accQ L q ((tn + i : Nat) : Int) n = M i := by
  constructor
  · have h1 : accB L b ((tn + i : Nat) : Int) n = true ↔ F i = true := by
      rw [accB_iff, hF.nul]
      constructor
      · rintro ⟨k, hk, hl, hb⟩
        have := Nul.prod (n := n) (L := L) (R := R) k hk ((hQ.row k).1 hb)
        rwa [hl] at this
      · intro h
        generalize hx : ((tn + i : Nat) : Int) = x at h
        cases h with
        | prod k hk h => exact ⟨k, hk, rfl, (hQ.row k).2 h⟩
    cases ha : accB L b ((tn + i : Nat) : Int) n <;> cases hb : F i <;> simp_all
  · apply Nat.eq_of_testBit_eq
    intro t
    have h1 : (accQ L q ((tn + i : Nat) : Int) n).testBit t = true ↔ (M i).testBit t = true := by
      rw [accQ_bit, hF.beg]
      constructor
      · rintro ⟨k, hk, hl, hb⟩
        obtain ⟨p, x, s, e, h2, h3⟩ := (hQ.set k t).1 hb
        have := Beg.prod (tn := tn) k hk p x s (t : Int) e h2 h3
        rwa [hl] at this
      · intro h
        have hb := h.bound
        generalize hx : ((tn + i : Nat) : Int) = x at h
        cases h with
        | term _ _ h1 => omega
        | prod k hk p y s _ hr hp h2 => exact ⟨k, hk, rfl, (hQ.set k t).2 ⟨p, y, s, hr, hp, h2⟩⟩
    cases ha : (accQ L q ((tn + i : Nat) : Int) n).testBit t <;> cases hb : (M i).testBit t <;> simp_all

/-- FirstProds, behind its calls. -/
structure PsAt (w X : World) (cs : Array Value) (ks kn nn : Nat) (Q : Nat → List Int) (F : Nat → Bool) (ua : Nat → Option Addr) (uc : Nat → Nat) : Prop where
  grown : w.grownBy X none
  box : X.heap[w.heap.size]? = some (.cells cs 27 (0, 0))
  row : ValAt X ks nn 24 (fun i => .slice (ua i) (Q i).length (uc i))
  rows : ∀ i, i < nn → IntsAt X (ua i) (Q i)
  nul : ValAt X kn nn 4 (fun i => .bool (F i))
theorem PsAt.kept {w X Y : World} {cs : Array Value} {ks kn nn : Nat} {Q : Nat → List Int} {F : Nat → Bool} {ua : Nat → Option Addr} {uc : Nat → Nat} (h : PsAt w X cs ks kn nn Q F ua uc) (hg : X.grownBy Y none) : PsAt w Y cs ks kn nn Q F ua uc :=
  ⟨grown_trans h.grown hg, (boxKept h.box hg).out, h.row.kept hg, fun i hi => (h.rows i hi).kept hg, h.nul.kept hg⟩
theorem PsAt.ph {w X : World} {cs : Array Value} {ks kn nn : Nat} {Q : Nat → List Int} {F : Nat → Bool} {ua : Nat → Option Addr} {uc : Nat → Nat} (h : PsAt w X cs ks kn nn Q F ua uc) : PhAt w X w.heap.size cs := ⟨h.grown, h.box⟩

set_option maxRecDepth 100000 in
set_option maxHeartbeats 2000000 in
theorem prods_bad (ta na la pa : Option Addr) (tc nc lc pc : Nat) (ts : List (ByteArray × Int)) (ns : List ByteArray) (lv : List Int) (n : Nat) (L : Nat → Int) (R : Nat → List Int) (ra : Nat → Option Addr) (rc : Nat → Nat) (V : Nat → Int) (st : Int) (w : World) (tn nn ln : Nat) (hlen : ts.length = tn ∧ ns.length = nn ∧ lv.length = ln) (hG : GAt w ta na la pa tc nc lc pc ts ns lv n L R ra rc V) (hts : ∀ t ∈ ts, t.1.size ≤ 140737488355328) (hns : ∀ s ∈ ns, s.size ≤ 140737488355328) (hT : B.Tab w) (h0 : 0 < w.heap.size) (hv : ¬ validOK ts ns lv st n L R V) (hc : ¬ closedOK ts ns lv st n L R V) : Calls Tryd.prog 5 #[.agg #[.slice ta tn tc, .slice na nn nc, .slice la ln lc, .int .i64 st, .slice pa n pc]] w fun e y => e = .returned (.bool true) ∧ w.grownBy y none := by
  have HAW : Hid (∀ X, w.grownBy X none → Calls Tryd.prog 8 #[] X fun e w' => e = .returned (.bool true) ∧ X.grownBy w' none) := fun X hX => kawake_any X (Tab_kept hT hX h0) (Nat.lt_of_lt_of_le h0 hX.size)
  have HSE : Hid (∀ X, w.grownBy X none → Calls Tryd.prog 13 #[.agg #[.slice ta tn tc, .slice na nn nc, .slice la ln lc, .int .i64 st, .slice pa n pc]] X fun e y => e = .returned (.tuple #[.slice none 0 0, .int .i64 1]) ∧ X.grownBy y none) := fun X hX => sets_bad ta na la pa tc nc lc pc ts ns lv n L R ra rc V st X tn nn ln hlen (hG.kept hX) hv hc
  have HNU : Hid (∀ X, w.grownBy X none → Calls Tryd.prog 10 #[.agg #[.slice ta tn tc, .slice na nn nc, .slice la ln lc, .int .i64 st, .slice pa n pc]] X fun e y => e = .returned (.tuple #[.slice none 0 0, .int .i64 1]) ∧ X.grownBy y none) := fun X hX => nullable_bad ta na la pa tc nc lc pc ts ns lv n L R ra rc V st X tn nn ln hlen (hG.kept hX) hv hc
  have HVL : Hid (∀ X, w.grownBy X none → Calls Tryd.prog 23 #[.agg #[.slice ta tn tc, .slice na nn nc, .slice la ln lc, .int .i64 st, .slice pa n pc]] X fun e w' => e = .returned (.bool false) ∧ X.grownBy w' none) := fun X hX => by
    have := rvalid_any ta na la pa tc nc lc pc st ts ns lv n L R ra rc V X (hG.kept hX) hts hns false ⟨fun h => (by cases h), fun h => absurd h hv⟩
    rwa [hlen.1, hlen.2.1, hlen.2.2] at this
  have HCL : Hid (∀ X, w.grownBy X none → Calls Tryd.prog 24 #[.agg #[.slice ta tn tc, .slice na nn nc, .slice la ln lc, .int .i64 st, .slice pa n pc]] X fun e w' => e = .returned (.bool false) ∧ X.grownBy w' none) := fun X hX => by
    have := rclosed_any ta na la pa tc nc lc pc st ts ns lv n L R ra rc V X (hG.kept hX) hts hns false ⟨fun h => (by cases h), fun h => absurd h hc⟩
    rwa [hlen.1, hlen.2.1, hlen.2.2] at this
  have HX0 : Hid (PhAt w (w.alloc (.cells #[.slice ta tn tc, .slice na nn nc, .slice la ln lc, .int .i64 st, .slice pa n pc] 27)) w.heap.size #[.slice ta tn tc, .slice na nn nc, .slice la ln lc, .int .i64 st, .slice pa n pc]) := ⟨World.grownBy_alloc _ _ none, heap_alloc_last w _⟩
  clear hG hlen hv hc hts hns hT h0
  go_enter Tryd.func5, Tryd.ntmps5
  go_wp2_with fail
  refine Calls.mono (HAW.out _ HX0.out.grown) ?_
  rintro e w1 ⟨rfl, hg1⟩
  have HX1 : Hid (PhAt w w1 w.heap.size #[.slice ta tn tc, .slice na nn nc, .slice la ln lc, .int .i64 st, .slice pa n pc]) := HX0.out.kept hg1
  clear hg1 HX0
  obtain ⟨k0, k1, k2, k3, k4⟩ := HX1.out.cells
  go_wp2_with fail
  refine Calls.mono (HSE.out _ HX1.out.grown) ?_
  rintro e w2 ⟨rfl, hg2⟩
  have HX2 : Hid (PhAt w w2 w.heap.size #[.slice ta tn tc, .slice na nn nc, .slice la ln lc, .int .i64 st, .slice pa n pc]) := HX1.out.kept hg2
  clear hg2 HX1 k0 k1 k2 k3 k4
  obtain ⟨k0, k1, k2, k3, k4⟩ := HX2.out.cells
  go_wp2_with fail
  refine Calls.mono (HNU.out _ HX2.out.grown) ?_
  rintro e w3 ⟨rfl, hg3⟩
  have HX3 : Hid (PhAt w w3 w.heap.size #[.slice ta tn tc, .slice na nn nc, .slice la ln lc, .int .i64 st, .slice pa n pc]) := HX2.out.kept hg3
  clear hg3 HX2 k0 k1 k2 k3 k4
  obtain ⟨k0, k1, k2, k3, k4⟩ := HX3.out.cells
  go_wp2_with fail
  refine Calls.mono (HVL.out _ HX3.out.grown) ?_
  rintro e w4 ⟨rfl, hg4⟩
  have HX4 : Hid (PhAt w w4 w.heap.size #[.slice ta tn tc, .slice na nn nc, .slice la ln lc, .int .i64 st, .slice pa n pc]) := HX3.out.kept hg4
  clear hg4 HX3 k0 k1 k2 k3 k4
  obtain ⟨k0, k1, k2, k3, k4⟩ := HX4.out.cells
  go_wp2_with fail
  refine Calls.mono (HCL.out _ HX4.out.grown) ?_
  rintro e w5 ⟨rfl, hg5⟩
  have HX5 : Hid (PhAt w w5 w.heap.size #[.slice ta tn tc, .slice na nn nc, .slice la ln lc, .int .i64 st, .slice pa n pc]) := HX4.out.kept hg5
  clear hg5 HX4 k0 k1 k2 k3 k4
  go_wp2_with fail
  go_ret
  exact ⟨rfl, HX5.out.grown⟩

set_option maxRecDepth 100000 in
set_option maxHeartbeats 3000000 in
theorem prods_valid (ta na la pa : Option Addr) (tc nc lc pc : Nat) (ts : List (ByteArray × Int)) (ns : List ByteArray) (lv : List Int) (n : Nat) (L : Nat → Int) (R : Nat → List Int) (ra : Nat → Option Addr) (rc : Nat → Nat) (V : Nat → Int) (st : Int) (w : World) (tn nn ln : Nat) (hlen : ts.length = tn ∧ ns.length = nn ∧ lv.length = ln) (hG : GAt w ta na la pa tc nc lc pc ts ns lv n L R ra rc V) (hts : ∀ t ∈ ts, t.1.size ≤ 140737488355328) (hns : ∀ s ∈ ns, s.size ≤ 140737488355328) (hT : B.Tab w) (h0 : 0 < w.heap.size) (hV : true = true ↔ validOK ts ns lv st n L R V) (hC : false = true ↔ closedOK ts ns lv st n L R V) : Calls Tryd.prog 5 #[.agg #[.slice ta tn tc, .slice na nn nc, .slice la ln lc, .int .i64 st, .slice pa n pc]] w fun e y => e = .returned (.bool true) ∧ w.grownBy y none := by
  have hok : validOK ts ns lv st n L R V ∨ closedOK ts ns lv st n L R V := .inl (hV.1 rfl)
  have hM : MayOK tn nn n st L R false := may_of hlen hV hC rfl
  obtain ⟨F, Mk, hF⟩ := FOf.exists tn n L R
  obtain ⟨b, q, hQ⟩ := QOf.exists hM.tmax n L R
  have HAW : Hid (∀ X, w.grownBy X none → Calls Tryd.prog 8 #[] X fun e w' => e = .returned (.bool true) ∧ X.grownBy w' none) := fun X hX => kawake_any X (Tab_kept hT hX h0) (Nat.lt_of_lt_of_le h0 hX.size)
  obtain ⟨Q, hQd⟩ : ∃ Q : Nat → List Int, ∀ i, Q i = B.mems 1024 (Mk i) := ⟨_, fun _ => rfl⟩
  have HSE : Hid (∀ X, w.grownBy X none → Calls Tryd.prog 13 #[.agg #[.slice ta tn tc, .slice na nn nc, .slice la ln lc, .int .i64 st, .slice pa n pc]] X fun e y => SetsTold nn Q X e y) := fun X hX => sets_ok ta na la pa tc nc lc pc ts ns lv n L R ra rc V st X tn nn ln hlen (hG.kept hX) hok hM F Mk hF (Tab_kept hT hX h0) (Nat.lt_of_lt_of_le h0 hX.size) Q hQd
  have HNU : Hid (∀ X, w.grownBy X none → Calls Tryd.prog 10 #[.agg #[.slice ta tn tc, .slice na nn nc, .slice la ln lc, .int .i64 st, .slice pa n pc]] X fun e y => ∃ k, e = .returned (.tuple #[.slice (some ⟨k, 0, none⟩) nn nn, .int .i64 0]) ∧ X.heap.size ≤ k ∧ ValAt y k nn 4 (fun i => .bool (F i)) ∧ X.grownBy y none) := fun X hX => nullable_ok ta na la pa tc nc lc pc ts ns lv n L R ra rc V st X tn nn ln hlen (hG.kept hX) hok hM F hF.nul
  have HVL : Hid (∀ X, w.grownBy X none → Calls Tryd.prog 23 #[.agg #[.slice ta tn tc, .slice na nn nc, .slice la ln lc, .int .i64 st, .slice pa n pc]] X fun e w' => e = .returned (.bool true) ∧ X.grownBy w' none) := fun X hX => by
    have := rvalid_any ta na la pa tc nc lc pc st ts ns lv n L R ra rc V X (hG.kept hX) hts hns true hV
    rwa [hlen.1, hlen.2.1, hlen.2.2] at this
  have HCL : Hid (∀ X, w.grownBy X none → Calls Tryd.prog 24 #[.agg #[.slice ta tn tc, .slice na nn nc, .slice la ln lc, .int .i64 st, .slice pa n pc]] X fun e w' => e = .returned (.bool false) ∧ X.grownBy w' none) := fun X hX => by
    have := rclosed_any ta na la pa tc nc lc pc st ts ns lv n L R ra rc V X (hG.kept hX) hts hns false hC
    rwa [hlen.1, hlen.2.1, hlen.2.2] at this
  obtain ⟨bp, op, rfl, hp⟩ : ∃ b off, pa = some ⟨b, off, none⟩ ∧ ∀ k, k < n → w.cell? ⟨b, off + k * 3, none⟩ = some (.int .i64 (L k)) ∧ w.cell? ⟨b, off + k * 3 + 1, none⟩ = some (.slice (ra k) (R k).length (rc k)) ∧ w.cell? ⟨b, off + k * 3 + 2, none⟩ = some (.int .i64 (V k)) ∧ IntsAt w (ra k) (R k) ∧ (ra k = none → rc k = 0) ∧ (R k).length ≤ 17592186044416 := by
    have := hM.p0
    rcases hG.prods with h | h
    · omega
    · exact h
  have HRW : Hid (∀ k, k < n → ∀ X, w.grownBy X none → Calls Tryd.prog 17 #[.agg #[.slice ta tn tc, .slice na nn nc, .slice la ln lc, .int .i64 st, .slice (some ⟨bp, op, none⟩) n pc], .slice (ra k) (R k).length (rc k)] X fun e y => RowTold (q k) (b k) X e y) := fun k hk X hX => row_ok ta na la (some ⟨bp, op, none⟩) tc nc lc pc ts ns lv n L R ra rc V st X tn nn ln hlen (hG.kept hX) (ra k) (rc k) (R k) ((hp k hk).2.2.2.1.kept hX) (hp k hk).2.2.2.2.2 hok hM (fun x hx => ⟨by have := hM.right k hk x hx; omega, (hM.right k hk x hx).2⟩) (Tab_kept hT hX h0) (Nat.lt_of_lt_of_le h0 hX.size) (b k) (q k) (hQ.row k) (hQ.set k)
  have HPC : Hid (∀ k, k < n → ∀ X, w.grownBy X none → X.cell? ⟨bp, op + k * 3, none⟩ = some (.int .i64 (L k)) ∧ X.cell? ⟨bp, op + k * 3 + 1, none⟩ = some (.slice (ra k) (R k).length (rc k))) := fun k hk X hX => ⟨hX.cell (hp k hk).1 (by simp), hX.cell (hp k hk).2.1 (by simp)⟩
  have HALL : Hid (∀ i, accB L b ((tn + i : Nat) : Int) n = F i ∧ accQ L q ((tn + i : Nat) : Int) n = Mk i) := fun i => acc_all hF hQ i
  have HQL : Hid (∀ k, q k < 2 ^ 65) := hQ.lt
  have HQD : Hid (∀ i, Q i = B.mems 1024 (Mk i)) := hQd
  have hnn : nn ≤ 65 := hM.nmax
  have htn : tn ≤ 65 := hM.tmax
  have hpn : n ≤ 97 := hM.pmax
  have HX0 : Hid (PhAt w (w.alloc (.cells #[.slice ta tn tc, .slice na nn nc, .slice la ln lc, .int .i64 st, .slice (some ⟨bp, op, none⟩) n pc] 27)) w.heap.size #[.slice ta tn tc, .slice na nn nc, .slice la ln lc, .int .i64 st, .slice (some ⟨bp, op, none⟩) n pc]) := ⟨World.grownBy_alloc _ _ none, heap_alloc_last w _⟩
  clear hG hlen hts hns hT h0 hV hC hok hM hF hQ hQd hp
  go_enter Tryd.func5, Tryd.ntmps5
  go_wp2_with fail
  refine Calls.mono (HAW.out _ HX0.out.grown) ?_
  rintro e w1 ⟨rfl, hg1⟩
  have HX1 : Hid (PhAt w w1 w.heap.size #[.slice ta tn tc, .slice na nn nc, .slice la ln lc, .int .i64 st, .slice (some ⟨bp, op, none⟩) n pc]) := HX0.out.kept hg1
  clear hg1 HX0
  obtain ⟨k0, k1, k2, k3, k4⟩ := HX1.out.cells
  go_wp2_with fail
  refine Calls.mono (HSE.out _ HX1.out.grown) ?_
  rintro e w2 ⟨ks, ua, uc, rfl, _, hV2, hR2, hg2⟩
  have HX2 : Hid (PhAt w w2 w.heap.size #[.slice ta tn tc, .slice na nn nc, .slice la ln lc, .int .i64 st, .slice (some ⟨bp, op, none⟩) n pc]) := HX1.out.kept hg2
  have HS2 : Hid (ValAt w2 ks nn 24 (fun i => .slice (ua i) (Q i).length (uc i)) ∧ ∀ i, i < nn → IntsAt w2 (ua i) (Q i)) := ⟨hV2, fun i hi => (hR2 i hi).ints⟩
  clear hg2 HX1 k0 k1 k2 k3 k4 hV2 hR2
  obtain ⟨k0, k1, k2, k3, k4⟩ := HX2.out.cells
  go_wp2_with fail
  refine Calls.mono (HNU.out _ HX2.out.grown) ?_
  rintro e w3 ⟨kn, rfl, _, hV3, hg3⟩
  have HP3 : Hid (PsAt w w3 #[.slice ta tn tc, .slice na nn nc, .slice la ln lc, .int .i64 st, .slice (some ⟨bp, op, none⟩) n pc] ks kn nn Q F ua uc) := ⟨grown_trans HX2.out.grown hg3, (HX2.out.kept hg3).box, HS2.out.1.kept hg3, fun i hi => (HS2.out.2 i hi).kept hg3, hV3⟩
  clear hg3 HX2 HS2 k0 k1 k2 k3 k4 hV3
  obtain ⟨k0, k1, k2, k3, k4⟩ := HP3.out.ph.cells
  go_wp2_with fail
  refine Calls.mono (HVL.out _ HP3.out.grown) ?_
  rintro e w4 ⟨rfl, hg4⟩
  have HP4 : Hid (PsAt w w4 #[.slice ta tn tc, .slice na nn nc, .slice la ln lc, .int .i64 st, .slice (some ⟨bp, op, none⟩) n pc] ks kn nn Q F ua uc) := HP3.out.kept hg4
  clear hg4 HP3 k0 k1 k2 k3 k4
  obtain ⟨k0, k1, k2, k3, k4⟩ := HP4.out.ph.cells
  go_wp2_with fail
  refine Calls.mono (HCL.out _ HP4.out.grown) ?_
  rintro e w5 ⟨rfl, hg5⟩
  have HP5 : Hid (PsAt w w5 #[.slice ta tn tc, .slice na nn nc, .slice la ln lc, .int .i64 st, .slice (some ⟨bp, op, none⟩) n pc] ks kn nn Q F ua uc) := HP4.out.kept hg5
  clear hg5 HP4 k0 k1 k2 k3 k4 HVL HCL HSE HNU HAW
  obtain ⟨k0, k1, k2, k3, k4⟩ := HP5.out.ph.cells
  have hnne : ((nn : Int) != (nn : Int)) = false := bne_self_eq_false _
  go_wp2_with fail
  clear k0 k1 k2 k3 k4 hnne
  go_loopg [10] nn (fun gk v10 wr => ∃ i : Nat, i ≤ nn ∧ gk = nn - i ∧ v10 = .int .i64 i ∧ PsAt w wr #[.slice ta tn tc, .slice na nn nc, .slice la ln lc, .int .i64 st, .slice (some ⟨bp, op, none⟩) n pc] ks kn nn Q F ua uc)
  case atStart => exact ⟨0, Nat.zero_le _, rfl, rfl, HP5.out⟩
  case round =>
    obtain ⟨i, hi, hgi, rfl, hP⟩ := hrel
    have HGI : Hid (gk = nn - i) := hgi
    have HP : Hid (PsAt w wr #[.slice ta tn tc, .slice na nn nc, .slice la ln lc, .int .i64 st, .slice (some ⟨bp, op, none⟩) n pc] ks kn nn Q F ua uc) := hP
    clear hgi hP HP5
    obtain ⟨k0, k1, k2, k3, k4⟩ := HP.out.ph.cells
    by_cases hlt : i < nn
    · have hi0 : (0 : Int) ≤ (i : Int) := by omega
      have hi1 : (i : Int) < (nn : Int) := by omega
      have hid : decide (i < nn) = true := decide_eq_true hlt
      obtain ⟨sx, hsx⟩ : ∃ s : Int, s = ((tn + i : Nat) : Int) := ⟨_, rfl⟩
      have HSX : Hid (sx = (tn : Int) + (i : Int)) := by show _ = _; rw [hsx]; omega
      have HAL : Hid (accB L b sx n = F i ∧ accQ L q sx n = Mk i) := by
        have := HALL.out i
        rw [← hsx] at this
        exact this
      clear hsx
      generalize wr = w6 at *
      go_wp2_with fail
      clear k0 k1 k2 k3 k4
      go_loopg [11, 12, 13] n (fun gk v11 v12 v13 wr => ∃ (k : Nat) (a' : Option Addr) (c' : Nat), k ≤ n ∧ gk = n - k ∧ v11 = .slice a' (B.mems 1024 (accQ L q sx k)).length c' ∧ v12 = .bool (accB L b sx k) ∧ v13 = .int .i64 k ∧ IntsAt wr a' (B.mems 1024 (accQ L q sx k)) ∧ PsAt w wr #[.slice ta tn tc, .slice na nn nc, .slice la ln lc, .int .i64 st, .slice (some ⟨bp, op, none⟩) n pc] ks kn nn Q F ua uc)
      case atStart => exact ⟨0, none, 0, Nat.zero_le _, rfl, by rw [show accQ L q sx 0 = 0 from rfl, mems_zero]; rfl, rfl, rfl, .inl (by rw [show accQ L q sx 0 = 0 from rfl, mems_zero]), HP.out⟩
      case round =>
        obtain ⟨k, a', c', hk, hgk, rfl, rfl, rfl, hI, hP⟩ := hrel
        have HGK : Hid (gk = n - k) := hgk
        have HPK : Hid (PsAt w wr #[.slice ta tn tc, .slice na nn nc, .slice la ln lc, .int .i64 st, .slice (some ⟨bp, op, none⟩) n pc] ks kn nn Q F ua uc) := hP
        obtain ⟨A, hA⟩ : ∃ A, A = accQ L q sx k := ⟨_, rfl⟩
        have HA : Hid (A = accQ L q sx k) := hA
        rw [← hA] at hI
        rw [← hA]
        obtain ⟨Z, hZ⟩ : ∃ Z, Z = B.mems 1024 A := ⟨_, rfl⟩
        have HZ : Hid (Z = B.mems 1024 A) := hZ
        rw [← hZ] at hI
        rw [← hZ]
        obtain ⟨zl, hzl⟩ : ∃ z, z = Z.length := ⟨_, rfl⟩
        have HZL : Hid (zl = Z.length) := hzl
        rw [← hzl]
        obtain ⟨bi, hbi⟩ : ∃ c, c = accB L b sx k := ⟨_, rfl⟩
        have HBI : Hid (bi = accB L b sx k) := hbi
        rw [← hbi]
        have HI : Hid (∀ X, wr.grownBy X none → IntsAt X a' Z) := fun X hX => hI.kept hX
        clear hgk hP hI hA hZ hzl hbi HP
        obtain ⟨k0, k1, k2, k3, k4⟩ := HPK.out.ph.cells
        by_cases hkn : k < n
        · have hk0 : (0 : Int) ≤ (k : Int) := by omega
          have hk1 : (k : Int) < (n : Int) := by omega
          have hkd : decide (k < n) = true := decide_eq_true hkn
          obtain ⟨p0, p1⟩ := HPC.out k hkn wr HPK.out.grown
          obtain ⟨lk, hlk⟩ : ∃ l, l = L k := ⟨_, rfl⟩
          rw [← hlk] at p0
          obtain ⟨rl, hrl⟩ : ∃ r, r = (R k).length := ⟨_, rfl⟩
          rw [← hrl] at p1
          have HRK : Hid (∀ X, w.grownBy X none → Calls Tryd.prog 17 #[.agg #[.slice ta tn tc, .slice na nn nc, .slice la ln lc, .int .i64 st, .slice (some ⟨bp, op, none⟩) n pc], .slice (ra k) rl (rc k)] X fun e y => RowTold (q k) (b k) X e y) := fun X hX => by rw [hrl]; exact HRW.out k hkn X hX
          have HKS : Hid (∀ x, wr.grownBy x none → (x.cell? ⟨w.heap.size, 0, none⟩ = some (.slice ta tn tc) ∧ x.cell? ⟨w.heap.size, 1, none⟩ = some (.slice na nn nc) ∧ x.cell? ⟨w.heap.size, 2, none⟩ = some (.slice la ln lc) ∧ x.cell? ⟨w.heap.size, 3, none⟩ = some (.int .i64 st) ∧ x.cell? ⟨w.heap.size, 4, none⟩ = some (.slice (some ⟨bp, op, none⟩) n pc)) ∧ x.cell? ⟨bp, op + k * 3 + 1, none⟩ = some (.slice (ra k) rl (rc k))) := fun x hx => ⟨(HPK.out.kept hx).ph.cells, hx.cell p1 (by simp)⟩
          by_cases he : lk = sx
          · have hne : (lk != ((tn : Int) + (i : Int))) = false := by rw [he, HSX.out]; exact bne_self_eq_false _
            have HAQ : Hid (accQ L q sx (k + 1) = A ||| q k ∧ accB L b sx (k + 1) = (bi || b k)) := by
              rw [HA.out, HBI.out]
              exact ⟨if_pos (by rw [← hlk, he]), if_pos (by rw [← hlk, he])⟩
            clear hlk hrl he
            have HUP : Hid (∀ j, w.grownBy (wr.drewN j).drew none ∧ wr.grownBy (wr.drewN j).drew none) := fun j => ⟨grown_trans HPK.out.grown (grown_trans (grown_drewN _ _) (grown_drewN _ 1)), grown_trans (grown_drewN _ _) (grown_drewN _ 1)⟩
            go_wp2_with fail
            go_quiet (fail)
            go_wp2_with fail
            go_region_held3 (fun x => (x.cell? ⟨w.heap.size, 0, none⟩ = some (.slice ta tn tc) ∧ x.cell? ⟨w.heap.size, 1, none⟩ = some (.slice na nn nc) ∧ x.cell? ⟨w.heap.size, 2, none⟩ = some (.slice la ln lc) ∧ x.cell? ⟨w.heap.size, 3, none⟩ = some (.int .i64 st) ∧ x.cell? ⟨w.heap.size, 4, none⟩ = some (.slice (some ⟨bp, op, none⟩) n pc)) ∧ x.cell? ⟨bp, op + k * 3 + 1, none⟩ = some (.slice (ra k) rl (rc k))) (first | exact HKS.out _ (HUP.out _).2 | exact HKS.out _ HG7.out | go_keep)
              ((first
                | (go_at_call 17; refine Calls.mono (HRK.out _ (HUP.out _).1) ?_; rintro e w7 ⟨a7, c7, rfl, ho7, hg7⟩; have HG7 : Hid (wr.grownBy w7 none) := grown_trans (HUP.out _).2 hg7; have HI7 : Hid (IntsAt w7 a7 (B.mems 1024 (q k))) := (RowIn.of ho7 (Nat.zero_le _)).ints; clear ho7 hg7)
                | fail))
            have HBO : Hid (Calls Tryd.prog 22 #[.slice a' zl c', .slice a7 (B.mems 1024 (q k)).length c7] w7 fun e y => ∃ (a8 : Option Addr) (c8 : Nat), e = .returned (.slice a8 (B.mems 1024 (A ||| q k)).length c8) ∧ IntsAt y a8 (B.mems 1024 (A ||| q k)) ∧ w7.grownBy y none) := by
              have hA65 : A < 2 ^ 65 := by rw [HA.out]; exact accQ_lt HQL.out k
              have h8 := both_any a' a7 c' c7 Z (B.mems 1024 (q k)) w7 (HI.out _ HG7.out) HI7.out (by rw [HZ.out]; exact Nat.le_trans (mems_short _) (by decide)) (Nat.le_trans (mems_short _) (by decide))
              rw [HZL.out]
              refine h8.mono ?_
              rintro e y ⟨a8, c8, rfl, ho8, hg8⟩
              have h9 : bothTo Z (B.mems 1024 (q k)) 65 = B.mems 1024 (A ||| q k) := by rw [HZ.out]; exact both_mems hA65 (HQL.out k)
              rw [h9] at ho8
              exact ⟨a8, c8, by rw [h9], (RowIn.of ho8 (Nat.zero_le _)).ints, hg8⟩
            obtain ⟨l7, hl7⟩ : ∃ l, l = (B.mems 1024 (q k)).length := ⟨_, rfl⟩
            rw [← hl7] at HBO
            rw [← hl7]
            obtain ⟨l8, hl8⟩ : ∃ l, l = (B.mems 1024 (A ||| q k)).length := ⟨_, rfl⟩
            have HL8 : Hid (l8 = (B.mems 1024 (A ||| q k)).length) := hl8
            rw [← hl8] at HBO
            obtain ⟨bk, hbk⟩ : ∃ c, c = b k := ⟨_, rfl⟩
            have HBK : Hid (bk = b k) := hbk
            rw [← hbk]
            clear hl7 hl8 hbk k0 k1 k2 k3 k4 p0 p1
            go_wp2_with fail
            refine Calls.mono HBO.out ?_
            rintro e w8 ⟨a8, c8, rfl, hI8, hg8⟩
            have HI8 : Hid (IntsAt w8 a8 (B.mems 1024 (A ||| q k))) := hI8
            have HP8 : Hid (PsAt w w8 #[.slice ta tn tc, .slice na nn nc, .slice la ln lc, .int .i64 st, .slice (some ⟨bp, op, none⟩) n pc] ks kn nn Q F ua uc) := HPK.out.kept (grown_trans HG7.out hg8)
            clear hI8 hg8 HBO
            cases bi with
            | true =>
              go_wp2_with fail
              go_roundg (n - (k + 1))
              case measure => have := HGK.out; omega
              case rel => exact ⟨k + 1, a8, c8, by omega, rfl, by rw [HAQ.out.1, ← HL8.out], by rw [HAQ.out.2]; rfl, by go_num, by rw [HAQ.out.1]; exact HI8.out, HP8.out⟩
            | false =>
              go_wp2_with fail
              go_roundg (n - (k + 1))
              case measure => have := HGK.out; omega
              case rel => exact ⟨k + 1, a8, c8, by omega, rfl, by rw [HAQ.out.1, ← HL8.out], by rw [HAQ.out.2, ← HBK.out]; rfl, by go_num, by rw [HAQ.out.1]; exact HI8.out, HP8.out⟩
          · have hne : (lk != ((tn : Int) + (i : Int))) = true := bne_iff_ne.2 (by rw [← HSX.out]; exact he)
            have HAQ : Hid (accQ L q sx (k + 1) = A ∧ accB L b sx (k + 1) = bi) := by
              rw [HA.out, HBI.out]
              exact ⟨if_neg (by rw [← hlk]; exact he), if_neg (by rw [← hlk]; exact he)⟩
            clear hlk hrl he
            go_wp2_with fail
            go_quiet (fail)
            go_wp2_with fail
            go_roundg (n - (k + 1))
            case measure => have := HGK.out; omega
            case rel => exact ⟨k + 1, a', c', by omega, rfl, by rw [HAQ.out.1, ← HZ.out, ← HZL.out], by rw [HAQ.out.2], by go_num, by rw [HAQ.out.1, ← HZ.out]; exact HI.out _ (grown_drewN _ _), HPK.out.kept (grown_drewN _ _)⟩
        · have hkk : n = k := by omega
          subst hkk
          have hkd : decide (n < n) = false := decide_eq_false (by omega)
          have hzq : Z = Q i := by rw [HZ.out, HQD.out, HA.out, HAL.out.2]
          have hbf : bi = F i := by rw [HBI.out, HAL.out.1]
          have s0 := HPK.out.row.cell i hlt
          have n0 := HPK.out.nul.cell i hlt
          rw [← hzq, ← HZL.out] at s0
          rw [← hbf] at n0
          have HIN : Hid (Calls Tryd.prog 19 #[.slice (ua i) zl (uc i), .slice a' zl c'] wr fun e y => e = .returned (.bool true) ∧ wr.grownBy y none) := by
            have h7 := HPK.out.rows i hlt
            rw [← hzq] at h7
            rw [HZL.out]
            exact ints_same _ _ _ _ Z wr h7 (HI.out _ (grown_refl _ _)) (by rw [HZ.out]; exact Nat.le_trans (mems_short _) (by decide))
          clear hzq hbf HALL HRW
          go_wp2_with fail
          refine Calls.mono HIN.out ?_
          rintro e w9 ⟨rfl, hg9⟩
          have HP9 : Hid (PsAt w w9 #[.slice ta tn tc, .slice na nn nc, .slice la ln lc, .int .i64 st, .slice (some ⟨bp, op, none⟩) n pc] ks kn nn Q F ua uc) := HPK.out.kept hg9
          have n9 := hg9.cell n0 (by simp)
          clear hg9 HIN s0 n0 k0 k1 k2 k3 k4
          cases bi with
          | true =>
            go_wp2_with fail
            go_roundg (nn - (i + 1))
            case measure => have := HGI.out; omega
            case rel => exact ⟨i + 1, by omega, rfl, by go_num, HP9.out⟩
          | false =>
            go_wp2_with fail
            go_roundg (nn - (i + 1))
            case measure => have := HGI.out; omega
            case rel => exact ⟨i + 1, by omega, rfl, by go_num, HP9.out⟩
    · have hin : nn = i := by omega
      subst hin
      have hid : decide (nn < nn) = false := decide_eq_false (by omega)
      go_wp2_with fail
      go_ret
      exact ⟨rfl, HP.out.grown⟩

end Go.Proofs.YtdhojilmgnodeaaDoor
