/-
  What Of, Copy and Equal do.
-/
import Derived.Test.YtkmocjdjdlpphaaDoorDrop
import Derived.Test.YtkmocjdjdlpphaaDoorCount
import Derived.DeepKeys
namespace Go.Proofs.YtkmocjdjdlpphaaDoor
open Go.RowKit

theorem part_word (f : Nat → Nat) (i : Nat) (hi : i < 16) (w : World) : (part 55 (wordsL f).toArray (i * 1)).run Tryd.prog w = .ok (.int .u64 (f i)) w := by
  have ha : (isAgg 55).run Tryd.prog w = .ok false w := by kernel_rfl
  unfold part
  simp only [Sem.run_bind, ha, Result.andThen_ok]
  simp [wordsL, hi]

theorem eq_words (d : Nat) (f g : Nat → Nat) (w : World) : ∀ is : List Nat, (∀ i ∈ is, i < 16) → (Op.eqItems (d + 1) 55 1 (wordsL f).toArray (wordsL g).toArray is).run Tryd.prog w = .ok (is.all fun i => f i == g i) w
  | [], _ => by simp [Op.eqItems]
  | i :: is, h => by
    have ih := eq_words d f g w is (fun j hj => h j (by simp [hj]))
    have hi := h i (by simp)
    have he := run_equalIn_int (P := Tryd.prog) w d 55 .u64 .u64 (f i) (g i) Tryd.underlying55
    simp only [Op.eqItems, Sem.run_bind, part_word f i hi, part_word g i hi, Result.andThen_ok, he, List.all_cons]
    by_cases e : f i = g i
    · rw [e]
      simpa using ih
    · have e2 : ((f i : Int) == (g i : Int)) = false := beq_eq_false_iff_ne.2 (fun h => e (by omega))
      have e3 : (f i == g i) = false := by simp [e]
      rw [e2, e3]
      simp

theorem eqFields58 (d : Nat) (xs ys : Array Value) : Op.eqFields d xs ys (Tryd.prog.fieldsOf 58).toList = (do
    let a ← part 3 xs 0
    let b ← part 3 ys 0
    let r ← Op.equalIn d 3 a b
    if (!r) = true then pure false else do
      let a ← part 56 xs 1
      let b ← part 56 ys 1
      let r ← Op.equalIn d 56 a b
      if (!r) = true then pure false else pure true) := by kernel_rfl
theorem part_size (n : Nat) (f : Nat → Nat) (w : World) : (part 3 (rowL n f).toArray 0).run Tryd.prog w = .ok (.int .i64 n) w := by kernel_rfl
theorem part_words (n : Nat) (f : Nat → Nat) (w : World) : (part 56 (rowL n f).toArray 1).run Tryd.prog w = .ok (.agg (wordsL f).toArray) w := by kernel_rfl
theorem cells55 : Tryd.prog.cellsOf 55 = 1 := by kernel_rfl
theorem struct58 : Tryd.prog.underlying 58 = some (.struct (Tryd.prog.fieldsOf 58)) := by kernel_rfl
theorem stood58 : Tryd.prog.stoodInHeld 58 = false := by kernel_rfl
theorem info55 : ∃ i, Tryd.prog.info? 55 = some i := by
  have : (Tryd.prog.info? 55).isSome = true := by kernel_rfl
  exact Option.isSome_iff_exists.1 this

theorem eq58 (n n' : Nat) (f g : Nat → Nat) (w : World) : (Op.equalIn 10000 58 (.agg (rowL n f).toArray) (.agg (rowL n' g).toArray)).run Tryd.prog w = .ok ((n == n') && (List.range 16).all fun i => f i == g i) w := by
  obtain ⟨i55, h55⟩ := info55
  rw [run_equalIn_struct w 9999 58 _ _ struct58 stood58, eqFields58]
  have he := run_equalIn_int (P := Tryd.prog) w 9998 3 .i64 .i64 n n' Tryd.underlying3
  simp only [Sem.run_bind, part_size, Result.andThen_ok, he]
  by_cases e : n = n'
  · have e2 : ((n : Int) == (n' : Int)) = true := beq_iff_eq.2 (by omega)
    have e3 : (n == n') = true := beq_iff_eq.2 e
    have hw := eq_words 9997 f g w (List.range 16) (fun i hi => by simpa using hi)
    have ha := run_equalIn_array (P := Tryd.prog) w 9998 (wordsL f).toArray (wordsL g).toArray Tryd.underlying56 h55
    rw [cells55, hw] at ha
    rw [e2, e3]
    simp only [Bool.not_true, Bool.false_eq_true, if_false, Sem.run_bind, part_words, Result.andThen_ok, ha, Bool.true_and]
    cases (List.range 16).all fun i => f i == g i <;> simp
  · have e2 : ((n : Int) == (n' : Int)) = false := beq_eq_false_iff_ne.2 (fun h => e (by omega))
    have e3 : (n == n') = false := beq_eq_false_iff_ne.2 e
    rw [e2, e3]
    simp

/-- An operation that yields a value in the world as it stands. -/
theorem wpList_yields {P : Program} {ops : Array Oper} {rest : List Oper} {o : Oper} {a : Act} {w w' : World} {v : Value} {Q : Exit → Act → World → Prop} (hgd : o.guard = none)
    (hrun : (execOp a.eval o).run P w = .ok (.value v) w') (h : wpList P ops Q rest (a.put o.dst v) w') : wpList P ops Q (o :: rest) a w :=
  wpList_plain hgd fun _ hK => by unfold Oper.wp; rw [hrun]; exact hK _ _ h

theorem wpList_eq58 {ops : Array Oper} {rest : List Oper} {o : Oper} {a : Act} {w : World} {Q : Exit → Act → World → Prop} (hgd : o.guard = none) (x y : Operand) (t : TypeId) (ho : o.op = .binOp .eql 58 x y t)
    (n n' : Nat) (f g : Nat → Nat) (r : Bool) (hr : ((n == n') && (List.range 16).all fun i => f i == g i) = r) (hx : a.eval x = .agg (rowL n f).toArray) (hy : a.eval y = .agg (rowL n' g).toArray)
    (h : wpList Tryd.prog ops Q rest (a.put o.dst (.bool r)) w) : wpList Tryd.prog ops Q (o :: rest) a w := by
  subst hr
  refine wpList_yields hgd ?_ h
  have hg : (eqGuard .eql 58 x y (.agg (rowL n f).toArray) (.agg (rowL n' g).toArray)).run Tryd.prog w = .ok () w := run_eqGuard_agg w .eql 58 x y _ _ (by kernel_rfl)
  unfold execOp
  simp only [ho, hx, hy, Sem.run_bind, hg, Result.andThen_ok, run_eql_struct, eq58, Sem.run_pure]

theorem SetM.keep {w w' : World} {p : Option Addr} {n m : Nat} (h : SetM w p n m) (hb : Below w.heap.size w w') : SetM w' p n m := by
  refine ⟨h.1, h.2.1, ?_⟩
  rcases h.2.2 with h3 | ⟨b, rfl, hr⟩
  · exact .inl h3
  · exact .inr ⟨b, rfl, hr.below hb hr.lt⟩
theorem SetM.but {w w' : World} {p : Option Addr} {n m c : Nat} (h : SetM w p n m) (hb : But c w w') (hne : ∀ b, p = some ⟨b, 0, none⟩ → b ≠ c) : SetM w' p n m := by
  refine ⟨h.1, h.2.1, ?_⟩
  rcases h.2.2 with h3 | ⟨b, rfl, hr⟩
  · exact .inl h3
  · exact .inr ⟨b, rfl, hr.but hb (hne b rfl)⟩

/-- Have two sets the same size and members? -/
def eqB (n m n' m' : Nat) : Bool := decide (n = n' ∧ m = m')

theorem eqB_words {n m n' m' : Nat} (hn : n ≤ 1024) (hn' : n' ≤ 1024) (hm : m < 2 ^ n) (hm' : m' < 2 ^ n') : ((n == n') && (List.range 16).all fun i => wd m i == wd m' i) = eqB n m n' m' := by
  rw [Bool.eq_iff_iff]
  unfold eqB
  simp only [Bool.and_eq_true, beq_iff_eq, List.all_eq_true, List.mem_range, decide_eq_true_eq]
  constructor
  · rintro ⟨rfl, h⟩
    exact ⟨rfl, wd_ext hn hn hm hm' h⟩
  · rintro ⟨rfl, rfl⟩
    exact ⟨rfl, fun _ _ => rfl⟩

theorem equal_any (p q : Option Addr) (n m n' m' : Nat) (w : World) (h : SetM w p n m) (h2 : SetM w q n' m') :
    Calls Tryd.prog 23 #[.pointer p, .pointer q] w fun e w' => e = .returned (.bool (eqB n m n' m')) ∧ Below w.heap.size w w' := by
  have hV := value_any p n m w h
  have HV2 : Hid (∀ w', Below w.heap.size w w' → SetM w' q n' m') := fun w' hb => h2.keep hb
  have HE : Hid (((n == n') && (List.range 16).all fun i => wd m i == wd m' i) = eqB n m n' m') := eqB_words h.1 h2.1 h.2.1 h2.2.1
  generalize eqB n m n' m' = r at *
  clear h h2
  go_enter Tryd.func23, Tryd.ntmps23
  go_wp2_with fail
  refine hV.mono ?_
  clear hV
  rintro e w1 ⟨rfl, hb⟩
  go_wp2_with fail
  refine (value_any q n' m' _ (HV2.out _ hb)).mono ?_
  rintro e w2 ⟨rfl, hb2⟩
  have HB : Hid (Below w.heap.size w w2) := hb.trans (hb2.mono hb.size)
  clear hb hb2
  go_wp2_with (refine wpList_eq58 rfl _ _ _ rfl n n' (wd m) (wd m') r HE.out rfl rfl ?_)
  go_ret
  exact ⟨rfl, HB.out⟩

theorem copy_any (p : Option Addr) (n m : Nat) (w : World) (h : SetM w p n m) :
    Calls Tryd.prog 21 #[.pointer p] w fun e w' => ∃ b, e = .returned (.pointer (some ⟨b, 0, none⟩)) ∧ w.heap.size ≤ b ∧ RowAt w' b n (wd m) ∧ Below w.heap.size w w' := by
  have hV := value_any p n m w h
  clear h
  generalize wd m = f at *
  go_enter Tryd.func21, Tryd.ntmps21
  go_wp2_with fail
  refine hV.mono ?_
  clear hV
  rintro e w1 ⟨rfl, hb⟩
  have hsz := hb.size
  have HB : Hid (Below w.heap.size w w1) := hb
  clear hb
  go_wp2_with (refine wpList_store_row rfl 58 _ _ rfl w1.heap.size (rowL n f).toArray rfl rfl 58 _ (heap_alloc_last w1 _) (info58' n f) (by simp [rowL]) (oneCell_rowL n f) ?_)
  go_ret
  refine ⟨w1.heap.size, rfl, hsz, ?_, ?_⟩
  · rw [World.setRow_alloc_new]; exact heap_alloc_last w1 _
  · rw [World.setRow_alloc_new]; exact HB.out.alloc hsz _

/-- A size as Of takes it. -/
def clampN (z : Int) : Nat := (min (max z 0) 1024).toNat
theorem clampN_le (z : Int) : clampN z ≤ 1024 := by unfold clampN; omega

theorem zero_row (n : Nat) : (#[Value.int IntKind.i64 n, Value.int IntKind.u64 0, Value.int IntKind.u64 0, Value.int IntKind.u64 0,
    Value.int IntKind.u64 0, Value.int IntKind.u64 0, Value.int IntKind.u64 0, Value.int IntKind.u64 0,
    Value.int IntKind.u64 0, Value.int IntKind.u64 0, Value.int IntKind.u64 0, Value.int IntKind.u64 0,
    Value.int IntKind.u64 0, Value.int IntKind.u64 0, Value.int IntKind.u64 0, Value.int IntKind.u64 0,
    Value.int IntKind.u64 0] : Array Value) = (rowL n (fun _ => 0)).toArray := rfl

/-- What Of leaves, whatever Add does to the new set. -/
theorem of_core (z : Int) (n k : Nat) (f : Nat → Nat) (v : Value) (w : World) (hn : clampN z = n)
    (hA : Calls Tryd.prog 15 #[.pointer (some ⟨w.heap.size, 0, none⟩), v] (w.alloc (.cells (rowL n (fun _ => 0)).toArray 58)) fun e w' =>
      e = .returned (.int .i64 k) ∧ RowAt w' w.heap.size n f ∧ But w.heap.size (w.alloc (.cells (rowL n (fun _ => 0)).toArray 58)) w') :
    Calls Tryd.prog 10 #[.int .i64 z, v] w fun e w' => e = .returned (.pointer (some ⟨w.heap.size, 0, none⟩)) ∧ RowAt w' w.heap.size n f ∧ Below w.heap.size w w' := by
  have HA := hA
  rw [← zero_row] at hA
  have fin : ∀ w', But w.heap.size (w.alloc (.cells (rowL n (fun _ => 0)).toArray 58)) w' → Below w.heap.size w w' := fun w' hb =>
    ((Below.refl _ w).alloc (Nat.le_refl _) _).trans (hb.below (by simp) (Nat.le_refl _))
  have FIN : Hid (∀ w', But w.heap.size (w.alloc (.cells (rowL n (fun _ => 0)).toArray 58)) w' → Below w.heap.size w w') := fin
  clear fin HA
  have HN : Hid (clampN z = n) := hn
  clear hn
  by_cases h1 : z ≤ 0
  · obtain rfl : n = 0 := by rw [← HN.out]; unfold clampN; omega
    by_cases h2 : z = 0
    · subst h2
      go_enter Tryd.func10, Tryd.ntmps10
      go_wp2_with fail
      refine hA.mono ?_
      rintro e w' ⟨rfl, hr, hb⟩
      go_wp2
      go_ret
      exact ⟨rfl, hr, FIN.out _ hb⟩
    · have h3 : z < 0 := by omega
      clear h1
      go_enter Tryd.func10, Tryd.ntmps10
      go_wp2_with fail
      refine hA.mono ?_
      rintro e w' ⟨rfl, hr, hb⟩
      go_wp2
      go_ret
      exact ⟨rfl, hr, FIN.out _ hb⟩
  · by_cases h2 : z ≤ 1024
    · obtain ⟨y, rfl⟩ := Int.eq_ofNat_of_zero_le (by omega : 0 ≤ z)
      obtain rfl : n = y := by rw [← HN.out]; unfold clampN; omega
      go_enter Tryd.func10, Tryd.ntmps10
      go_wp2_with fail
      refine hA.mono ?_
      rintro e w' ⟨rfl, hr, hb⟩
      go_wp2
      go_ret
      exact ⟨rfl, hr, FIN.out _ hb⟩
    · obtain rfl : n = 1024 := by rw [← HN.out]; unfold clampN; omega
      go_enter Tryd.func10, Tryd.ntmps10
      go_wp2_with fail
      refine hA.mono ?_
      rintro e w' ⟨rfl, hr, hb⟩
      go_wp2
      go_ret
      exact ⟨rfl, hr, FIN.out _ hb⟩

theorem IntsAt.below {w w' : World} {a : Option Addr} {l : List Int} (h : IntsAt w a l) (hb : Below w.heap.size w w') : IntsAt w' a l := by
  rcases h with h | ⟨b, off, rfl, hc⟩
  · exact .inl h
  · refine .inr ⟨b, off, rfl, fun i hi => ?_⟩
    have h1 := hc i hi
    rw [hb.cell (World.block_lt_of_cell? w _ h1)]; exact h1

theorem addS_lt (n m : Nat) (l : List Int) (hm : m < 2 ^ n) : (addS n m l).1 < 2 ^ n := by
  unfold addS
  generalize 0 = k
  induction l generalizing m k with
  | nil => exact hm
  | cons x l ih =>
    rw [List.foldl_cons]
    unfold addStep
    split
    · rename_i h
      have h1 : 0 ≤ x ∧ x < n := by simp [inB] at h; exact h.1
      exact ih (m ||| 2 ^ x.toNat) (lt_or hm (two_pow_lt (by omega))) (k + 1)
    · exact ih m hm k

theorem of_any (z : Int) (a : Option Addr) (cap : Nat) (l : List Int) (w : World) (hl : IntsAt w a l) (hlen : l.length < 1152921504606846976) :
    Calls Tryd.prog 10 #[.int .i64 z, .slice a l.length cap] w fun e w' =>
      e = .returned (.pointer (some ⟨w.heap.size, 0, none⟩)) ∧ SetM w' (some ⟨w.heap.size, 0, none⟩) (clampN z) (addS (clampN z) 0 l).1 ∧ Below w.heap.size w w' := by
  have hrow : RowAt (w.alloc (.cells (rowL (clampN z) (fun _ => 0)).toArray 58)) w.heap.size (clampN z) (wd 0) := by
    rw [wd_zero']; exact heap_alloc_last w _
  have hle := clampN_le z
  rcases hl with rfl | ⟨bl, off, rfl, hc⟩
  · refine (of_core z _ 0 (wd 0) _ w rfl ((add_none a cap _ _).mono ?_)).mono ?_
    · rintro e w' ⟨rfl, rfl⟩
      exact ⟨rfl, hrow, But.refl _ _⟩
    · rintro e w' ⟨rfl, hr, hb⟩
      exact ⟨rfl, SetM.of hr hle (Nat.two_pow_pos _), hb⟩
  · by_cases hne : l = []
    · subst hne
      refine (of_core z _ 0 (wd 0) _ w rfl ((add_none _ cap _ _).mono ?_)).mono ?_
      · rintro e w' ⟨rfl, rfl⟩
        exact ⟨rfl, hrow, But.refl _ _⟩
      · rintro e w' ⟨rfl, hr, hb⟩
        exact ⟨rfl, SetM.of hr hle (Nat.two_pow_pos _), hb⟩
    · have hlt : bl < w.heap.size := World.block_lt_of_cell? w _ (hc 0 (List.length_pos_iff.2 hne))
      have hc' : ∀ i, i < l.length → (w.alloc (.cells (rowL (clampN z) (fun _ => 0)).toArray 58)).cell? ⟨bl, off + i, none⟩ = some (.int .i64 (l.getD i 0)) := fun i hi => by
        rw [World.cell?_alloc_lt _ _ _ hlt]; exact hc i hi
      have hA := add_row w.heap.size (clampN z) 0 bl off cap l _ hle (Nat.two_pow_pos _) hrow (by omega) hlen hc'
      have hlt2 : (addS (clampN z) 0 l).1 < 2 ^ clampN z := addS_lt _ _ _ (Nat.two_pow_pos _)
      refine (of_core z _ (addS (clampN z) 0 l).2 (wd (addS (clampN z) 0 l).1) _ w rfl (hA.mono ?_)).mono ?_
      · rintro e w' ⟨rfl, hr, _, hb⟩
        exact ⟨rfl, hr, hb⟩
      · rintro e w' ⟨rfl, hr, hb⟩
        exact ⟨rfl, SetM.of hr hle hlt2, hb⟩

end Go.Proofs.YtkmocjdjdlpphaaDoor
