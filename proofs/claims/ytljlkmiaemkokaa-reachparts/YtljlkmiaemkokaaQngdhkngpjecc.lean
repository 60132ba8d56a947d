import Derived.Test.YtljlkmiaemkokaaQgkhpkabcookh
import Derived.DeepKeys
import Derived.Test.YtljlkmiaemkokaaProg
import Derived.WalkKit
import Derived.WalkSpells
import Derived.Deep.QuietTactic
import Derived.BigQuiet
import Derived.Deep.MidRow
import Derived.Deep.WholeRow
import Derived.Maps.OwnSet
import Derived.ArgAppend
import Derived.Below
import Derived.Laws.Externs
import Derived.MapKept
import Derived.Shelf.SlMaps.Clone

/-
  What Of, Copy and Equal do.
-/
namespace Go.Proofs.Ytljlkmiaemkokaa.B
open Go.RowKit

theorem part_word (f : Nat → Nat) (i : Nat) (hi : i < 16) (w : World) : (part 84 (wordsL f).toArray (i * 1)).run Try.prog w = .ok (.int .u64 (f i)) w := by
  have ha : (isAgg 84).run Try.prog w = .ok false w := by kernel_rfl
  unfold part
  simp only [Sem.run_bind, ha, Result.andThen_ok]
  simp [wordsL, hi]

theorem eq_words (d : Nat) (f g : Nat → Nat) (w : World) : ∀ is : List Nat, (∀ i ∈ is, i < 16) → (Op.eqItems (d + 1) 84 1 (wordsL f).toArray (wordsL g).toArray is).run Try.prog w = .ok (is.all fun i => f i == g i) w
  | [], _ => by simp [Op.eqItems]
  | i :: is, h => by
    have ih := eq_words d f g w is (fun j hj => h j (by simp [hj]))
    have hi := h i (by simp)
    have he := run_equalIn_int (P := Try.prog) w d 84 .u64 .u64 (f i) (g i) Try.underlying84
    simp only [Op.eqItems, Sem.run_bind, part_word f i hi, part_word g i hi, Result.andThen_ok, he, List.all_cons]
    by_cases e : f i = g i
    · rw [e]
      simpa using ih
    · have e2 : ((f i : Int) == (g i : Int)) = false := beq_eq_false_iff_ne.2 (fun h => e (by omega))
      have e3 : (f i == g i) = false := by simp [e]
      rw [e2, e3]
      simp

theorem eqFields58 (d : Nat) (xs ys : Array Value) : Op.eqFields d xs ys (Try.prog.fieldsOf 87).toList = (do
    let a ← part 3 xs 0
    let b ← part 3 ys 0
    let r ← Op.equalIn d 3 a b
    if (!r) = true then pure false else do
      let a ← part 85 xs 1
      let b ← part 85 ys 1
      let r ← Op.equalIn d 85 a b
      if (!r) = true then pure false else pure true) := by kernel_rfl
theorem part_size (n : Nat) (f : Nat → Nat) (w : World) : (part 3 (rowL n f).toArray 0).run Try.prog w = .ok (.int .i64 n) w := by kernel_rfl
theorem part_words (n : Nat) (f : Nat → Nat) (w : World) : (part 85 (rowL n f).toArray 1).run Try.prog w = .ok (.agg (wordsL f).toArray) w := by kernel_rfl
theorem cells55 : Try.prog.cellsOf 84 = 1 := by kernel_rfl
theorem struct58 : Try.prog.underlying 87 = some (.struct (Try.prog.fieldsOf 87)) := by kernel_rfl
theorem stood58 : Try.prog.stoodInHeld 87 = false := by kernel_rfl
theorem info55 : ∃ i, Try.prog.info? 84 = some i := by
  have : (Try.prog.info? 84).isSome = true := by kernel_rfl
  exact Option.isSome_iff_exists.1 this

theorem eq58 (n n' : Nat) (f g : Nat → Nat) (w : World) : (Op.equalIn 10000 87 (.agg (rowL n f).toArray) (.agg (rowL n' g).toArray)).run Try.prog w = .ok ((n == n') && (List.range 16).all fun i => f i == g i) w := by
  obtain ⟨i55, h55⟩ := info55
  rw [run_equalIn_struct w 9999 87 _ _ struct58 stood58, eqFields58]
  have he := run_equalIn_int (P := Try.prog) w 9998 3 .i64 .i64 n n' Try.underlying3
  simp only [Sem.run_bind, part_size, Result.andThen_ok, he]
  by_cases e : n = n'
  · have e2 : ((n : Int) == (n' : Int)) = true := beq_iff_eq.2 (by omega)
    have e3 : (n == n') = true := beq_iff_eq.2 e
    have hw := eq_words 9997 f g w (List.range 16) (fun i hi => by simpa using hi)
    have ha := run_equalIn_array (P := Try.prog) w 9998 (wordsL f).toArray (wordsL g).toArray Try.underlying85 h55
    rw [cells55, hw] at ha
    rw [e2, e3]
    simp only [Bool.not_true, Bool.false_eq_true, if_false, Sem.run_bind, part_words, Result.andThen_ok, ha, Bool.true_and]
    cases (List.range 16).all fun i => f i == g i <;> simp
  · have e2 : ((n : Int) == (n' : Int)) = false := beq_eq_false_iff_ne.2 (fun h => e (by omega))
    have e3 : (n == n') = false := beq_eq_false_iff_ne.2 e
    rw [e2, e3]
    simp

/-- An operation that yields a value in the world as it stands. -/
theorem wpList_yields {P : Program} {ops : Array Oper} {rest : List Oper} {o : Oper} {a : Act} {w w' : World} {v : Value} {Q : Exit → Act → World → Prop} (hgd : o.guard = none)
    (hrun : (execOp a.eval o).run P w = .ok (.value v) w') (h : wpList P ops Q rest (a.put o.dst v) w') : wpList P ops Q (o :: rest) a w :=
  wpList_plain hgd fun _ hK => by unfold Oper.wp; rw [hrun]; exact hK _ _ h

theorem wpList_eq58 {ops : Array Oper} {rest : List Oper} {o : Oper} {a : Act} {w : World} {Q : Exit → Act → World → Prop} (hgd : o.guard = none) (x y : Operand) (t : TypeId) (ho : o.op = .binOp .eql 87 x y t)
    (n n' : Nat) (f g : Nat → Nat) (r : Bool) (hr : ((n == n') && (List.range 16).all fun i => f i == g i) = r) (hx : a.eval x = .agg (rowL n f).toArray) (hy : a.eval y = .agg (rowL n' g).toArray)
    (h : wpList Try.prog ops Q rest (a.put o.dst (.bool r)) w) : wpList Try.prog ops Q (o :: rest) a w := by
  subst hr
  refine wpList_yields hgd ?_ h
  have hg : (eqGuard .eql 87 x y (.agg (rowL n f).toArray) (.agg (rowL n' g).toArray)).run Try.prog w = .ok () w := run_eqGuard_agg w .eql 87 x y _ _ (by kernel_rfl)
  unfold execOp
  simp only [ho, hx, hy, Sem.run_bind, hg, Result.andThen_ok, run_eql_struct, eq58, Sem.run_pure]

theorem SetM.keep {w w' : World} {p : Option Addr} {n m : Nat} (h : SetM w p n m) (hb : Below w.heap.size w w') : SetM w' p n m := by
  refine ⟨h.1, h.2.1, ?_⟩
  rcases h.2.2 with h3 | ⟨b, rfl, hr⟩
  · exact .inl h3
  · exact .inr ⟨b, rfl, hr.below hb hr.lt⟩
theorem SetM.but {w w' : World} {p : Option Addr} {n m c : Nat} (h : SetM w p n m) (hb : But c w w') (hne : ∀ b, p = some ⟨b, 0, none⟩ → b ≠ c) : SetM w' p n m := by
  refine ⟨h.1, h.2.1, ?_⟩
  rcases h.2.2 with h3 | ⟨b, rfl, hr⟩
  · exact .inl h3
  · exact .inr ⟨b, rfl, hr.but hb (hne b rfl)⟩

/-- Have two sets the same size and members? -/
def eqB (n m n' m' : Nat) : Bool := decide (n = n' ∧ m = m')

theorem eqB_words {n m n' m' : Nat} (hn : n ≤ 1024) (hn' : n' ≤ 1024) (hm : m < 2 ^ n) (hm' : m' < 2 ^ n') : ((n == n') && (List.range 16).all fun i => wd m i == wd m' i) = eqB n m n' m' := by
  rw [Bool.eq_iff_iff]
  unfold eqB
  simp only [Bool.and_eq_true, beq_iff_eq, List.all_eq_true, List.mem_range, decide_eq_true_eq]
  constructor
  · rintro ⟨rfl, h⟩
    exact ⟨rfl, wd_ext hn hn hm hm' h⟩
  · rintro ⟨rfl, rfl⟩
    exact ⟨rfl, fun _ _ => rfl⟩

theorem copy_any (p : Option Addr) (n m : Nat) (w : World) (h : SetM w p n m) :
    Calls Try.prog 65 #[.pointer p] w fun e w' => ∃ b, e = .returned (.pointer (some ⟨b, 0, none⟩)) ∧ w.heap.size ≤ b ∧ RowAt w' b n (wd m) ∧ Below w.heap.size w w' := by
  have hV := value_any p n m w h
  clear h
  generalize wd m = f at *
  go_enter Try.func65, Try.ntmps65
  go_wp2_with fail
  refine hV.mono ?_
  clear hV
  rintro e w1 ⟨rfl, hb⟩
  have hsz := hb.size
  have HB : Hid (Below w.heap.size w w1) := hb
  clear hb
  go_wp2_with (refine wpList_store_row rfl 87 _ _ rfl w1.heap.size (rowL n f).toArray rfl rfl 87 _ (heap_alloc_last w1 _) (info58' n f) (by simp [rowL]) (oneCell_rowL n f) ?_)
  go_ret
  refine ⟨w1.heap.size, rfl, hsz, ?_, ?_⟩
  · rw [World.setRow_alloc_new]; exact heap_alloc_last w1 _
  · rw [World.setRow_alloc_new]; exact HB.out.alloc hsz _

/-- A size as Of takes it. -/
def clampN (z : Int) : Nat := (min (max z 0) 1024).toNat
theorem clampN_le (z : Int) : clampN z ≤ 1024 := by unfold clampN; omega

theorem zero_row (n : Nat) : (#[Value.int IntKind.i64 n, Value.int IntKind.u64 0, Value.int IntKind.u64 0, Value.int IntKind.u64 0,
    Value.int IntKind.u64 0, Value.int IntKind.u64 0, Value.int IntKind.u64 0, Value.int IntKind.u64 0,
    Value.int IntKind.u64 0, Value.int IntKind.u64 0, Value.int IntKind.u64 0, Value.int IntKind.u64 0,
    Value.int IntKind.u64 0, Value.int IntKind.u64 0, Value.int IntKind.u64 0, Value.int IntKind.u64 0,
    Value.int IntKind.u64 0] : Array Value) = (rowL n (fun _ => 0)).toArray := rfl

/-- What Of leaves, whatever Add does to the new set. -/
theorem of_core (z : Int) (n k : Nat) (f : Nat → Nat) (v : Value) (w : World) (hn : clampN z = n)
    (hA : Calls Try.prog 42 #[.pointer (some ⟨w.heap.size, 0, none⟩), v] (w.alloc (.cells (rowL n (fun _ => 0)).toArray 87)) fun e w' =>
      e = .returned (.int .i64 k) ∧ RowAt w' w.heap.size n f ∧ But w.heap.size (w.alloc (.cells (rowL n (fun _ => 0)).toArray 87)) w') :
    Calls Try.prog 64 #[.int .i64 z, v] w fun e w' => e = .returned (.pointer (some ⟨w.heap.size, 0, none⟩)) ∧ RowAt w' w.heap.size n f ∧ Below w.heap.size w w' := by
  have HA := hA
  rw [← zero_row] at hA
  have fin : ∀ w', But w.heap.size (w.alloc (.cells (rowL n (fun _ => 0)).toArray 87)) w' → Below w.heap.size w w' := fun w' hb =>
    ((Below.refl _ w).alloc (Nat.le_refl _) _).trans (hb.below (by simp) (Nat.le_refl _))
  have FIN : Hid (∀ w', But w.heap.size (w.alloc (.cells (rowL n (fun _ => 0)).toArray 87)) w' → Below w.heap.size w w') := fin
  clear fin HA
  have HN : Hid (clampN z = n) := hn
  clear hn
  by_cases h1 : z ≤ 0
  · obtain rfl : n = 0 := by rw [← HN.out]; unfold clampN; omega
    by_cases h2 : z = 0
    · subst h2
      go_enter Try.func64, Try.ntmps64
      go_wp2_with fail
      refine hA.mono ?_
      rintro e w' ⟨rfl, hr, hb⟩
      go_wp2
      go_ret
      exact ⟨rfl, hr, FIN.out _ hb⟩
    · have h3 : z < 0 := by omega
      clear h1
      go_enter Try.func64, Try.ntmps64
      go_wp2_with fail
      refine hA.mono ?_
      rintro e w' ⟨rfl, hr, hb⟩
      go_wp2
      go_ret
      exact ⟨rfl, hr, FIN.out _ hb⟩
  · by_cases h2 : z ≤ 1024
    · obtain ⟨y, rfl⟩ := Int.eq_ofNat_of_zero_le (by omega : 0 ≤ z)
      obtain rfl : n = y := by rw [← HN.out]; unfold clampN; omega
      go_enter Try.func64, Try.ntmps64
      go_wp2_with fail
      refine hA.mono ?_
      rintro e w' ⟨rfl, hr, hb⟩
      go_wp2
      go_ret
      exact ⟨rfl, hr, FIN.out _ hb⟩
    · obtain rfl : n = 1024 := by rw [← HN.out]; unfold clampN; omega
      go_enter Try.func64, Try.ntmps64
      go_wp2_with fail
      refine hA.mono ?_
      rintro e w' ⟨rfl, hr, hb⟩
      go_wp2
      go_ret
      exact ⟨rfl, hr, FIN.out _ hb⟩

theorem IntsAt.below {w w' : World} {a : Option Addr} {l : List Int} (h : IntsAt w a l) (hb : Below w.heap.size w w') : IntsAt w' a l := by
  rcases h with h | ⟨b, off, rfl, hc⟩
  · exact .inl h
  · refine .inr ⟨b, off, rfl, fun i hi => ?_⟩
    have h1 := hc i hi
    rw [hb.cell (World.block_lt_of_cell? w _ h1)]; exact h1

theorem addS_lt (n m : Nat) (l : List Int) (hm : m < 2 ^ n) : (addS n m l).1 < 2 ^ n := by
  unfold addS
  generalize 0 = k
  induction l generalizing m k with
  | nil => exact hm
  | cons x l ih =>
    rw [List.foldl_cons]
    unfold addStep
    split
    · rename_i h
      have h1 : 0 ≤ x ∧ x < n := by simp [inB] at h; exact h.1
      exact ih (m ||| 2 ^ x.toNat) (lt_or hm (two_pow_lt (by omega))) (k + 1)
    · exact ih m hm k

theorem of_any (z : Int) (a : Option Addr) (cap : Nat) (l : List Int) (w : World) (hl : IntsAt w a l) (hlen : l.length < 1152921504606846976) :
    Calls Try.prog 64 #[.int .i64 z, .slice a l.length cap] w fun e w' =>
      e = .returned (.pointer (some ⟨w.heap.size, 0, none⟩)) ∧ SetM w' (some ⟨w.heap.size, 0, none⟩) (clampN z) (addS (clampN z) 0 l).1 ∧ Below w.heap.size w w' := by
  have hrow : RowAt (w.alloc (.cells (rowL (clampN z) (fun _ => 0)).toArray 87)) w.heap.size (clampN z) (wd 0) := by
    rw [wd_zero']; exact heap_alloc_last w _
  have hle := clampN_le z
  rcases hl with rfl | ⟨bl, off, rfl, hc⟩
  · refine (of_core z _ 0 (wd 0) _ w rfl ((add_none a cap _ _).mono ?_)).mono ?_
    · rintro e w' ⟨rfl, rfl⟩
      exact ⟨rfl, hrow, But.refl _ _⟩
    · rintro e w' ⟨rfl, hr, hb⟩
      exact ⟨rfl, SetM.of hr hle (Nat.two_pow_pos _), hb⟩
  · by_cases hne : l = []
    · subst hne
      refine (of_core z _ 0 (wd 0) _ w rfl ((add_none _ cap _ _).mono ?_)).mono ?_
      · rintro e w' ⟨rfl, rfl⟩
        exact ⟨rfl, hrow, But.refl _ _⟩
      · rintro e w' ⟨rfl, hr, hb⟩
        exact ⟨rfl, SetM.of hr hle (Nat.two_pow_pos _), hb⟩
    · have hlt : bl < w.heap.size := World.block_lt_of_cell? w _ (hc 0 (List.length_pos_iff.2 hne))
      have hc' : ∀ i, i < l.length → (w.alloc (.cells (rowL (clampN z) (fun _ => 0)).toArray 87)).cell? ⟨bl, off + i, none⟩ = some (.int .i64 (l.getD i 0)) := fun i hi => by
        rw [World.cell?_alloc_lt _ _ _ hlt]; exact hc i hi
      have hA := add_row w.heap.size (clampN z) 0 bl off cap l _ hle (Nat.two_pow_pos _) hrow (by omega) hlen hc'
      have hlt2 : (addS (clampN z) 0 l).1 < 2 ^ clampN z := addS_lt _ _ _ (Nat.two_pow_pos _)
      refine (of_core z _ (addS (clampN z) 0 l).2 (wd (addS (clampN z) 0 l).1) _ w rfl (hA.mono ?_)).mono ?_
      · rintro e w' ⟨rfl, hr, _, hb⟩
        exact ⟨rfl, hr, hb⟩
      · rintro e w' ⟨rfl, hr, hb⟩
        exact ⟨rfl, SetM.of hr hle hlt2, hb⟩

end Go.Proofs.Ytljlkmiaemkokaa.B

/-
  What Union does.
-/
namespace Go.Proofs.Ytljlkmiaemkokaa.B
open Go.RowKit

/-- What a union comes to: each of the others' members that are below the size. -/
def uS (n m : Nat) (L : List (Option Addr × Nat)) : Nat := L.foldl (fun acc e => acc ||| (e.2 &&& (2 ^ n - 1))) m

theorem uS_snoc (n m : Nat) (L : List (Option Addr × Nat)) (k : Nat) (hk : k < L.length) : uS n m (L.take (k + 1)) = uS n m (L.take k) ||| ((L.getD k (none, 0)).2 &&& (2 ^ n - 1)) := by
  unfold uS
  rw [List.take_succ_eq_append_getElem hk, List.foldl_append]
  simp [List.getD, hk]
theorem uS_lt (n m : Nat) (L : List (Option Addr × Nat)) (hm : m < 2 ^ n) : uS n m L < 2 ^ n := by
  unfold uS
  induction L generalizing m with
  | nil => exact hm
  | cons e L ih => rw [List.foldl_cons]; exact ih _ (lt_or hm (lt_and_right (ones_lt n)))

/-- What Count does, with some function for the count. -/
def CountIs (c : Nat → Nat) : Prop := ∀ p n m w, SetM w p n m → Calls Try.prog 66 #[.pointer p] w fun e w' => e = .returned (.int .i64 (c m : Nat)) ∧ Below w.heap.size w w'
theorem countIs : CountIs cnt := count_any

/-- What is stored at word i of a union. -/
theorem or_word (a b on i : Nat) : bits BinOp.or IntKind.u64 (wd a i : Int) (bits BinOp.and IntKind.u64 (wd b i : Int) (wd on i : Nat)) = (wd (a ||| (b &&& on)) i : Nat) := by
  have h : wd b i &&& wd on i < 18446744073709551616 := Nat.lt_of_le_of_lt Nat.and_le_left (wd_lt b i)
  rw [bits_and_u64_nat _ _ (wd_lt _ _) (wd_lt _ _), bits_or_u64_nat _ _ (wd_lt _ _) h, wd_or, wd_and]

/-- The words up to k of x, the others of y. -/
def mix (k : Nat) (x y : Nat) (i : Nat) : Nat := if i < k then wd x i else wd y i

theorem RowAt.mixed {w : World} {b n x y k : Nat} (h : RowAt w b n (mix k x y)) (hk : k < 16) : RowAt (w.setCell ⟨b, 1 + k, none⟩ (.int .u64 (wd x k : Nat))) b n (mix (k + 1) x y) :=
  (h.setWord k _ hk).congr fun i _ => by
    unfold mix
    by_cases e : i = k
    · subst e; simp
    · simp only [e, if_false]
      by_cases e2 : i < k
      · rw [if_pos e2, if_pos (by omega)]
      · rw [if_neg e2, if_neg (by omega)]

/-- The pointers of a slice lie where it leads to. -/
def PtrsAt (w : World) (a : Option Addr) (L : List (Option Addr × Nat)) : Prop :=
  L = [] ∨ ∃ b off, a = some ⟨b, off, none⟩ ∧ ∀ i, i < L.length → w.cell? ⟨b, off + i, none⟩ = some (.pointer (L.getD i (none, 0)).1)

/-- What the others of a call on set b are: b itself (which adds nothing), or other sets. -/
def OtherOk (w : World) (b : Nat) (q : Option Addr) (m' : Nat) : Prop :=
  (q = some ⟨b, 0, none⟩ ∧ m' = 0) ∨ (q ≠ some ⟨b, 0, none⟩ ∧ ∃ n', SetM w q n' m')

theorem below_at (n i : Nat) (hn : n ≤ 1024) (hi : i < 16) (w : World) :
    Calls Try.prog 68 #[.int .i64 n, .int .i64 i] w fun e w' => e = .returned (.int .u64 ((wd (2 ^ n - 1) i : Nat) : Int)) ∧ w' = w := below_any n i hn hi w

theorem union_nil (a : Option Addr) (len cap : Nat) (w : World) :
    Calls Try.prog 49 #[.pointer none, .slice a len cap] w fun e w' => e = .returned (.int .i64 0) ∧ w' = w := by
  go_enter Try.func49, Try.ntmps49
  go_wp2
  go_ret
  exact ⟨rfl, rfl⟩

theorem union_none (b n m : Nat) (c : Nat → Nat) (a : Option Addr) (cap : Nat) (w : World) (hr : RowAt w b n (wd m)) (hn : n ≤ 1024) (hm : m < 2 ^ n) (hC : CountIs c) (hle : ∀ x, c x ≤ 1024) :
    Calls Try.prog 49 #[.pointer (some ⟨b, 0, none⟩), .slice a 0 cap] w fun e w' => e = .returned (.int .i64 0) ∧ Below w.heap.size w w' := by
  have HS : Hid (SetM w (some ⟨b, 0, none⟩) n m) := SetM.of hr hn hm
  have l0 := hle m
  clear hr hm hle
  go_enter Try.func49, Try.ntmps49
  go_wp2_with (go_at_call 66; refine (hC _ n m _ HS.out).mono ?_; rintro e w1 ⟨rfl, hb1⟩)
  have HB1 : Hid (Below w.heap.size w w1) := hb1
  clear hb1
  go_loop [16] (fun i => i = .int .i64 0) (fun _ => 0)
  case atStart => rfl
  case round =>
    subst hrel
    go_wp2_with (go_at_call 66; refine (hC _ n m _ (SetM.keep HS.out HB1.out)).mono ?_; rintro e w2 ⟨rfl, hb2⟩)
    go_ret
    exact ⟨by simp, HB1.out.trans (hb2.mono HB1.out.size)⟩

set_option maxHeartbeats 1000000 in
theorem union_core (b n m bl off cap : Nat) (c : Nat → Nat) (L : List (Option Addr × Nat)) (w : World) (hC : CountIs c) (hle : ∀ x, c x ≤ 1024) (hn : n ≤ 1024) (hm : m < 2 ^ n) (hr : RowAt w b n (wd m)) (hne : bl ≠ b)
    (hlen : L.length < 1152921504606846976) (hlt : bl < w.heap.size)
    (hc : ∀ i, i < L.length → w.cell? ⟨bl, off + i, none⟩ = some (.pointer (L.getD i (none, 0)).1)) (ho : ∀ i, i < L.length → OtherOk w b (L.getD i (none, 0)).1 (L.getD i (none, 0)).2) :
    Calls Try.prog 49 #[.pointer (some ⟨b, 0, none⟩), .slice (some ⟨bl, off, none⟩) L.length cap] w fun e w' =>
      e = .returned (.int .i64 ((c (uS n m L) : Int) - c m)) ∧ RowAt w' b n (wd (uS n m L)) ∧ But b w w' := by
  have HC : Hid (∀ i, i < L.length → w.cell? ⟨bl, off + i, none⟩ = some (.pointer (L.getD i (none, 0)).1)) := hc
  have HO : Hid (∀ i, i < L.length → OtherOk w b (L.getD i (none, 0)).1 (L.getD i (none, 0)).2) := ho
  have HR : Hid (RowAt w b n (wd m)) := hr
  have HM : Hid (m < 2 ^ n) := hm
  have HLE : Hid (∀ x, c x ≤ 1024) := hle
  have l0 := hle m
  clear hc ho hr hm hle
  go_enter Try.func49, Try.ntmps49
  go_wp2_with (go_at_call 66; refine (hC _ n m _ (SetM.of HR.out hn HM.out)).mono ?_; rintro e w1 ⟨rfl, hb1⟩)
  have HR1 : Hid (RowAt w1 b n (wd m)) := HR.out.below hb1 HR.out.lt
  have HB1 : Hid (But b w w1) := But.of_below hb1
  clear hb1
  go_loopw [16] (fun i wr => ∃ k : Nat, k ≤ L.length ∧ i = .int .i64 k ∧ RowAt wr b n (wd (uS n m (L.take k))) ∧ But b w wr) (fun i _ => L.length - (intOf i).toNat)
  case atStart => exact ⟨0, Nat.zero_le _, rfl, HR1.out, HB1.out⟩
  case round =>
    obtain ⟨k, hk, rfl, hrow, hbut⟩ := hrel
    by_cases hlt2 : k < L.length
    · have hcell : wr.cell? ⟨bl, off + k, none⟩ = some (.pointer (L.getD k (none, 0)).1) := by
        rw [World.cell?_of_block (w := w) (hbut.block bl hlt hne)]; exact HC.out k hlt2
      have hsn := uS_snoc n m L k hlt2
      have hok := HO.out k hlt2
      have hu3 := uS_lt n m (L.take k) HM.out
      generalize L.getD k (none, 0) = e at hcell hsn hok
      obtain ⟨q, m'⟩ := e
      simp only at hcell hsn hok
      generalize hu : uS n m (L.take k) = u at hsn hrow hu3
      obtain ⟨n2, m2, hS2, hx⟩ : ∃ n2 m2, SetM wr q n2 m2 ∧ u ||| (m2 &&& (2 ^ n - 1)) = u ||| (m' &&& (2 ^ n - 1)) := by
        rcases hok with ⟨rfl, rfl⟩ | ⟨hq, n', hS⟩
        · refine ⟨n, u, SetM.of hrow hn hu3, ?_⟩
          apply Nat.eq_of_testBit_eq
          intro j
          simp only [Nat.testBit_or, Nat.testBit_and, Nat.zero_testBit]
          cases u.testBit j <;> simp
        · exact ⟨n', m', hS.but hbut (fun b' hb' e => hq (by rw [hb', e])), rfl⟩
      have hV := value_any q n2 m2 wr hS2
      have HROW : Hid (RowAt wr b n (wd u)) := hrow
      have HBUT : Hid (But b w wr) := hbut
      have hbel : ∀ i : Nat, i < 16 → ∀ w, Calls Try.prog 68 #[.int .i64 n, .int .i64 i] w fun e w' => e = .returned (.int .u64 ((wd (2 ^ n - 1) i : Nat) : Int)) ∧ w' = w := fun i hi w => below_any n i hn hi w
      generalize 2 ^ n - 1 = on at hbel hsn hx
      have HBEL : Hid (∀ i : Nat, i < 16 → ∀ w, Calls Try.prog 68 #[.int .i64 n, .int .i64 i] w fun e w' => e = .returned (.int .u64 ((wd on i : Nat) : Int)) ∧ w' = w) := hbel
      obtain ⟨x, hxe⟩ : ∃ x, x = u ||| (m2 &&& on) := ⟨_, rfl⟩
      have HX : Hid (uS n m (L.take (k + 1)) = x) := by show _ = _; rw [hxe, hx]; exact hsn
      have HOW : Hid (∀ i, bits BinOp.or IntKind.u64 (wd u i : Int) (bits BinOp.and IntKind.u64 (wd m2 i : Int) (wd on i : Nat)) = (wd x i : Nat)) := fun i => by rw [hxe]; exact or_word u m2 on i
      have hf := fun w' => run_words n2 (wd m2) w'
      clear hrow hbut hbel hsn hx hok hS2 hu hu3 hxe
      go_wp2_with (go_at_call 67; refine hV.mono ?_; clear hV; rintro e w2 ⟨rfl, hb2⟩)
      have HROW2 : Hid (RowAt w2 b n (wd u)) := HROW.out.below hb2 HROW.out.lt
      have HBUT2 : Hid (But b w w2) := HBUT.out.trans (But.of_below hb2)
      clear hb2 hf hcell
      go_loopw [23] (fun j wr2 => ∃ k2 : Nat, k2 ≤ 16 ∧ j = .int .i64 k2 ∧ RowAt wr2 b n (mix k2 x u) ∧ But b w wr2) (fun j _ => 16 - (intOf j).toNat)
      case atStart => exact ⟨0, by omega, rfl, HROW2.out.congr (fun i _ => by simp [mix]), HBUT2.out⟩
      case round =>
        obtain ⟨k2, hk2, rfl, hrow3, hbut3⟩ := hrel
        by_cases hlt3 : k2 < 16
        · have hi := fun w' => run_word (wd m2) k2 hlt3 w'
          have how := HOW.out k2
          have hw := hrow3.word k2 hlt3
          rw [show mix k2 x u k2 = wd u k2 by simp [mix]] at hw
          have hsz := hrow3.size
          have hfz := hrow3.free (1 + k2)
          have hki : (k2 : Int) < 16 := by omega
          have HROW3 : Hid (RowAt wr b n (mix k2 x u)) := hrow3
          have HBUT3 : Hid (But b w wr) := hbut3
          clear hrow3 hbut3
          go_wp2_with fail
          go_region_with (go_at_call 68; refine (HBEL.out k2 hlt3 _).mono ?_; rintro e w' ⟨rfl, rfl⟩)
          all_goals go_wp2
          all_goals go_roundw
          all_goals first
            | exact ⟨k2 + 1, by omega, by go_num, RowAt.mixed HROW3.out hlt3, (But.drew HBUT3.out).setCell _ _⟩
            | (simp [intOf]; omega)
        · have e16 : k2 = 16 := by omega
          subst e16
          have hrow4 : RowAt wr b n (wd x) := hrow3.congr (fun i hi => by simp [mix, hi])
          have HROW3 : Hid (RowAt wr b n (wd x)) := hrow4
          have HBUT3 : Hid (But b w wr) := hbut3
          clear hrow3 hbut3 hrow4
          go_wp2_with fail
          go_roundw
          case rel => exact ⟨k + 1, by omega, by go_num, by rw [HX.out]; exact HROW3.out, HBUT3.out⟩
          case measure => simp [intOf]; omega
    · have : k = L.length := by omega
      subst this
      rw [List.take_length] at *
      have hlt3 := uS_lt n m L HM.out
      have l1 := HLE.out (uS n m L)
      generalize hu : uS n m L = u at hrow hlt3 l1
      have HU : Hid (uS n m L = u) := hu
      clear hu
      have HROW : Hid (RowAt wr b n (wd u)) := hrow
      have HBUT : Hid (But b w wr) := hbut
      have HLT3 : Hid (u < 2 ^ n) := hlt3
      clear hrow hbut hlt3
      go_wp2_with (go_at_call 66; refine (hC _ n u _ (SetM.of HROW.out hn HLT3.out)).mono ?_; rintro e w2 ⟨rfl, hb2⟩)
      go_ret
      rw [HU.out]
      exact ⟨rfl, HROW.out.below hb2 HROW.out.lt, HBUT.out.trans (But.of_below hb2)⟩

end Go.Proofs.Ytljlkmiaemkokaa.B

/-
  Which texts may be a terminal's, which are names: the program's own tests.
-/
namespace Go.Proofs.Ytljlkmiaemkokaa
open Go.RowKit

/-- May a byte stand in a terminal's text? -/
def textB (n : Nat) : Bool := !(decide (n < 32) || decide (126 < n) || decide (n = 39))
def letterB (n : Nat) : Bool := (decide (65 ≤ n) && decide (n ≤ 90)) || (decide (97 ≤ n) && decide (n ≤ 122)) || decide (n = 95)
def digitB (n : Nat) : Bool := decide (48 ≤ n) && decide (n ≤ 57)
def nameB (i n : Nat) : Bool := letterB n || (decide (0 < i) && digitB n)
/-- The byte at a place. -/
def chr (s : ByteArray) (i : Nat) : Nat := (s.data.toList.getD i 0).toNat
def lenOK (s : ByteArray) : Bool := decide (1 ≤ s.size) && decide (s.size ≤ 16)
def isTextB (s : ByteArray) : Bool := lenOK s && (List.range s.size).all (fun i => textB (chr s i))
def isNameB (s : ByteArray) : Bool := lenOK s && (List.range s.size).all (fun i => nameB i (chr s i))

theorem chr_lt (s : ByteArray) (i : Nat) : chr s i < 256 := UInt8.toNat_lt _
theorem chr_at (s : ByteArray) (i : Nat) (h : i < s.size) : (s[i]'h).toNat = chr s i := by
  have h' : i < s.data.toList.length := by simpa using h
  unfold chr
  rw [List.getD, List.getElem?_eq_getElem h']
  rfl

theorem index_at (s : ByteArray) (i : Nat) (h : i < s.size) (w : World) : (Instr.index 9 (.string s) (.int .i64 i)).run Try.prog w = .ok (.int .u8 (chr s i)) w := by
  rw [run_index_string w 9 s .i64 i Try.underlying9, dif_pos ⟨by omega, by omega⟩]
  congr 3
  exact chr_at s i h

theorem lenOK_any (s : ByteArray) (w : World) : Calls Try.prog 97 #[.string s] w fun e w' => e = .returned (.bool (lenOK s)) ∧ w' = w := by
  by_cases h : 1 ≤ s.size
  · have hd : decide (1 ≤ (s.size : Int)) = true := decide_eq_true (by omega)
    go_enter Try.func97, Try.ntmps97
    go_wp2_with fail
    go_ret
    refine ⟨?_, rfl⟩
    simp [lenOK, h]
    omega
  · have hd : decide (1 ≤ (s.size : Int)) = false := by simp; omega
    go_enter Try.func97, Try.ntmps97
    go_wp2_with fail
    go_ret
    exact ⟨by simp [lenOK, h], rfl⟩

theorem isText_any (s : ByteArray) (w : World) : Calls Try.prog 85 #[.string s] w fun e w' => e = .returned (.bool (isTextB s)) ∧ w' = w := by
  have hL := lenOK_any s w
  cases hl : lenOK s with
  | false =>
    rw [hl] at hL
    have e : isTextB s = false := by simp [isTextB, hl]
    rw [e]
    clear e hl
    go_enter Try.func85, Try.ntmps85
    go_wp2_with (go_at_call 97; refine hL.mono ?_; rintro e w' ⟨rfl, rfl⟩)
    go_ret
    exact ⟨rfl, rfl⟩
  | true =>
    rw [hl] at hL
    have hsz : s.size ≤ 16 := by simp [lenOK] at hl; omega
    have e : isTextB s = (List.range s.size).all (fun i => textB (chr s i)) := by simp [isTextB, hl]
    rw [e]
    clear e hl
    generalize hr : (List.range s.size).all (fun i => textB (chr s i)) = r
    have HR : Hid ((List.range s.size).all (fun i => textB (chr s i)) = r) := hr
    clear hr
    go_enter Try.func85, Try.ntmps85
    go_wp2_with (go_at_call 97; refine hL.mono ?_; rintro e w' ⟨rfl, rfl⟩)
    go_loopw [10] (fun i wr => ∃ k : Nat, k ≤ s.size ∧ i = .int .i64 k ∧ wr = w' ∧ ∀ j, j < k → textB (chr s j) = true) (fun i _ => s.size - (intOf i).toNat)
    case atStart => exact ⟨0, Nat.zero_le _, rfl, rfl, fun j hj => by omega⟩
    case round =>
      obtain ⟨k, hk, rfl, rfl, hall⟩ := hrel
      by_cases hlt : k < s.size
      · have hix := fun w => index_at s k hlt w
        have hc := chr_lt s k
        have hno : textB (chr s k) = false → r = false := fun h => by
          rw [← HR.out, Bool.eq_false_iff]
          intro h2
          have := List.all_eq_true.1 h2 k (by simpa using hlt)
          rw [h] at this
          cases this
        have hup : textB (chr s k) = true → ∀ j, j < k + 1 → textB (chr s j) = true := fun h j hj => by
          by_cases e : j = k
          · subst e; exact h
          · exact hall j (by omega)
        clear hall
        generalize hx : chr s k = c at *
        by_cases h1 : c < 32
        · have hrf := hno (by simp [textB, h1])
          have hd1 : decide ((c : Int) < 32) = true := decide_eq_true (by omega)
          go_wp2_with fail
          go_ret
          exact ⟨by rw [hrf]; rfl, rfl⟩
        · have hd1 : decide ((c : Int) < 32) = false := decide_eq_false (by omega)
          by_cases h2 : 126 < c
          · have hrf := hno (by simp [textB, h2])
            have hd2 : decide (126 < (c : Int)) = true := decide_eq_true (by omega)
            go_wp2_with fail
            go_ret
            exact ⟨by rw [hrf]; rfl, rfl⟩
          · have hd2 : decide (126 < (c : Int)) = false := decide_eq_false (by omega)
            by_cases h3 : c = 39
            · have hrf := hno (by simp [textB, h3])
              have hd3 : ((c : Int) == 39) = true := beq_iff_eq.2 (by omega)
              clear h3
              go_wp2_with fail
              go_ret
              exact ⟨by rw [hrf]; rfl, rfl⟩
            · have hd3 : ((c : Int) == 39) = false := beq_eq_false_iff_ne.2 (by omega)
              have hup' := hup (by simp [textB, h1, h2, h3])
              clear hno hup
              go_wp2_with fail
              go_roundw
              case rel => exact ⟨k + 1, by omega, by go_num, trivial, hup'⟩
              case measure => simp [intOf]; omega
      · obtain rfl : k = s.size := by omega
        go_wp2_with fail
        go_ret
        have he : r = true := HR.out.symm.trans (List.all_eq_true.2 fun i hi => hall i (by simpa using hi))
        rw [he]
        exact ⟨rfl, rfl⟩

theorem isDigit_any (c : Nat) (w : World) : Calls Try.prog 99 #[.int .u8 c] w fun e w' => e = .returned (.bool (digitB c)) ∧ w' = w := by
  by_cases h : 48 ≤ c
  · have hd : decide (48 ≤ (c : Int)) = true := decide_eq_true (by omega)
    go_enter Try.func99, Try.ntmps99
    go_wp2_with fail
    go_ret
    exact ⟨by simp [digitB, h]; omega, rfl⟩
  · have hd : decide (48 ≤ (c : Int)) = false := decide_eq_false (by omega)
    go_enter Try.func99, Try.ntmps99
    go_wp2_with fail
    go_ret
    exact ⟨by simp [digitB, h], rfl⟩

theorem isLetter_any (c : Nat) (w : World) : Calls Try.prog 98 #[.int .u8 c] w fun e w' => e = .returned (.bool (letterB c)) ∧ w' = w := by
  have key : letterB c = true ↔ ((65 ≤ c ∧ c ≤ 90) ∨ (97 ≤ c ∧ c ≤ 122) ∨ c = 95) := by simp [letterB, or_assoc]
  have keyf : letterB c = false ↔ ¬ ((65 ≤ c ∧ c ≤ 90) ∨ (97 ≤ c ∧ c ≤ 122) ∨ c = 95) := by rw [← key]; simp
  generalize letterB c = r at *
  by_cases h1 : 65 ≤ c
  · have d1 : decide (65 ≤ (c : Int)) = true := decide_eq_true (by omega)
    by_cases h2 : c ≤ 90
    · have d2 : decide ((c : Int) ≤ 90) = true := decide_eq_true (by omega)
      obtain rfl : r = true := key.2 (.inl ⟨h1, h2⟩)
      clear key keyf
      go_enter Try.func98, Try.ntmps98
      go_wp2_with fail
      go_ret
      exact ⟨rfl, rfl⟩
    · have d2 : decide ((c : Int) ≤ 90) = false := decide_eq_false (by omega)
      by_cases h3 : 97 ≤ c
      · have d3 : decide (97 ≤ (c : Int)) = true := decide_eq_true (by omega)
        by_cases h4 : c ≤ 122
        · have d4 : decide ((c : Int) ≤ 122) = true := decide_eq_true (by omega)
          obtain rfl : r = true := key.2 (.inr (.inl ⟨h3, h4⟩))
          clear key keyf
          go_enter Try.func98, Try.ntmps98
          go_wp2_with fail
          go_ret
          exact ⟨rfl, rfl⟩
        · have d4 : decide ((c : Int) ≤ 122) = false := decide_eq_false (by omega)
          have d5 : ((c : Int) == 95) = false := beq_eq_false_iff_ne.2 (by omega)
          obtain rfl : r = false := keyf.2 (by omega)
          clear key keyf
          go_enter Try.func98, Try.ntmps98
          go_wp2_with fail
          go_ret
          exact ⟨rfl, rfl⟩
      · have d3 : decide (97 ≤ (c : Int)) = false := decide_eq_false (by omega)
        by_cases h5 : c = 95
        · have d5 : ((c : Int) == 95) = true := beq_iff_eq.2 (by omega)
          obtain rfl : r = true := key.2 (.inr (.inr h5))
          clear key keyf h5
          go_enter Try.func98, Try.ntmps98
          go_wp2_with fail
          go_ret
          exact ⟨rfl, rfl⟩
        · have d5 : ((c : Int) == 95) = false := beq_eq_false_iff_ne.2 (by omega)
          obtain rfl : r = false := keyf.2 (by omega)
          clear key keyf
          go_enter Try.func98, Try.ntmps98
          go_wp2_with fail
          go_ret
          exact ⟨rfl, rfl⟩
  · have d1 : decide (65 ≤ (c : Int)) = false := decide_eq_false (by omega)
    have d3 : decide (97 ≤ (c : Int)) = false := decide_eq_false (by omega)
    have d5 : ((c : Int) == 95) = false := beq_eq_false_iff_ne.2 (by omega)
    obtain rfl : r = false := keyf.2 (by omega)
    clear key keyf
    go_enter Try.func98, Try.ntmps98
    go_wp2_with fail
    go_ret
    exact ⟨rfl, rfl⟩

theorem isName_any (s : ByteArray) (w : World) : Calls Try.prog 88 #[.string s] w fun e w' => e = .returned (.bool (isNameB s)) ∧ w' = w := by
  have hL := lenOK_any s w
  cases hl : lenOK s with
  | false =>
    rw [hl] at hL
    have e : isNameB s = false := by simp [isNameB, hl]
    rw [e]
    clear e hl
    go_enter Try.func88, Try.ntmps88
    go_wp2_with (go_at_call 97; refine hL.mono ?_; rintro e w' ⟨rfl, rfl⟩)
    go_ret
    exact ⟨rfl, rfl⟩
  | true =>
    rw [hl] at hL
    have hsz : s.size ≤ 16 := by simp [lenOK] at hl; omega
    have e : isNameB s = (List.range s.size).all (fun i => nameB i (chr s i)) := by simp [isNameB, hl]
    rw [e]
    clear e hl
    generalize hr : (List.range s.size).all (fun i => nameB i (chr s i)) = r
    have HR : Hid ((List.range s.size).all (fun i => nameB i (chr s i)) = r) := hr
    clear hr
    go_enter Try.func88, Try.ntmps88
    go_wp2_with (go_at_call 97; refine hL.mono ?_; rintro e w' ⟨rfl, rfl⟩)
    go_loopw [10] (fun i wr => ∃ k : Nat, k ≤ s.size ∧ i = .int .i64 k ∧ wr = w' ∧ ∀ j, j < k → nameB j (chr s j) = true) (fun i _ => s.size - (intOf i).toNat)
    case atStart => exact ⟨0, Nat.zero_le _, rfl, rfl, fun j hj => by omega⟩
    case round =>
      obtain ⟨k, hk, rfl, rfl, hall⟩ := hrel
      by_cases hlt : k < s.size
      · have hix := fun w => index_at s k hlt w
        have hno : nameB k (chr s k) = false → r = false := fun h => by
          rw [← HR.out, Bool.eq_false_iff]
          intro h2
          have := List.all_eq_true.1 h2 k (by simpa using hlt)
          rw [h] at this
          cases this
        have hup : nameB k (chr s k) = true → ∀ j, j < k + 1 → nameB j (chr s j) = true := fun h j hj => by
          by_cases e : j = k
          · subst e; exact h
          · exact hall j (by omega)
        clear hall
        generalize hx : chr s k = c at *
        have HLT := isLetter_any c wr
        have HDG := isDigit_any c wr
        cases hlet : letterB c with
        | true =>
          have hup' := hup (by simp [nameB, hlet])
          rw [hlet] at HLT
          clear hno hup
          go_wp2_with (go_at_call 98; refine HLT.mono ?_; rintro e w' ⟨rfl, rfl⟩)
          go_roundw
          case rel => exact ⟨k + 1, by omega, by go_num, trivial, hup'⟩
          case measure => simp [intOf]; omega
        | false =>
          rw [hlet] at HLT
          by_cases h0 : k = 0
          · have hrf := hno (by simp [nameB, hlet, h0])
            have hd0 : ((k : Int) == 0) = true := beq_iff_eq.2 (by omega)
            clear h0 hup
            go_wp2_with (go_at_call 98; refine HLT.mono ?_; rintro e w' ⟨rfl, rfl⟩)
            go_ret
            exact ⟨by rw [hrf]; rfl, rfl⟩
          · have hd0 : ((k : Int) == 0) = false := beq_eq_false_iff_ne.2 (by omega)
            cases hdig : digitB c with
            | true =>
              have hup' := hup (by simp [nameB, hdig]; omega)
              rw [hdig] at HDG
              clear hno hup
              go_wp2_with (first | (go_at_call 98; refine HLT.mono ?_; rintro e w' ⟨rfl, rfl⟩) | (go_at_call 99; refine HDG.mono ?_; rintro e w' ⟨rfl, rfl⟩))
              go_roundw
              case rel => exact ⟨k + 1, by omega, by go_num, trivial, hup'⟩
              case measure => simp [intOf]; omega
            | false =>
              have hrf := hno (by simp [nameB, hlet, hdig])
              rw [hdig] at HDG
              clear hup
              go_wp2_with (first | (go_at_call 98; refine HLT.mono ?_; rintro e w' ⟨rfl, rfl⟩) | (go_at_call 99; refine HDG.mono ?_; rintro e w' ⟨rfl, rfl⟩))
              go_ret
              exact ⟨by rw [hrf]; rfl, rfl⟩
      · obtain rfl : k = s.size := by omega
        go_wp2_with fail
        go_ret
        have he : r = true := HR.out.symm.trans (List.all_eq_true.2 fun i hi => hall i (by simpa using hi))
        rw [he]
        exact ⟨rfl, rfl⟩

end Go.Proofs.Ytljlkmiaemkokaa

namespace Go.Proofs.Ytljlkmiaemkokaa
open Go.RowKit

/-- A world of which p holds. -/
structure WBox (p : World → Prop) where
  w : World
  ok : p w

theorem wp_region_class {p : World → Prop} {id : Nat} {Q : Exit → Act → World → Prop} {a : Act} {w : World} {l : List Oper} (hm : Try.prog.follows .mixedOrders = true) (hB : Region.lexB .any l.toArray = true) (hC : p w.drew)
    (h : wpQuiet Try.prog l.toArray (fun w' => ∃ s : WBox p, w' = s.w) (fun a' => ∀ w', (∃ s : WBox p, w' = s.w) → Q .normal a' w') l a) : (Code.region id l.toArray true).wp Try.prog Q a w :=
  wp_region_quiet (C := fun w' => ∃ s : WBox p, w' = s.w) hm hB ⟨⟨_, hC⟩, rfl⟩ (by simpa using h)

theorem calls_class {p : World → Prop} {f : FuncId} {args : Array Value} {v : Value} {s : WBox p} (h : Calls Try.prog f args s.w fun e w' => e = .returned v ∧ p w') : Calls Try.prog f args s.w fun e w'' => e = .returned v ∧ ∃ s' : WBox p, w'' = s'.w :=
  h.mono fun _ _ ⟨he, hp⟩ => ⟨he, ⟨_, hp⟩, rfl⟩

end Go.Proofs.Ytljlkmiaemkokaa

/-
  What a builder's memory is: two tables of names, the terminals' levels, the sides, the productions, the start symbol.
-/
namespace Go.Proofs.Ytljlkmiaemkokaa
open Go.RowKit Go.Maps

/-- A production by handles. -/
structure PR where
  left : Int
  right : List Int
  level : Int

/-- A builder as it is told. -/
structure BS where
  terms : List ByteArray
  nons : List ByteArray
  lev : Nat → Int
  sides : List Int
  prods : List PR
  start : Int
  /-- (A mark of the proof's own: the blocks that its lists may lie in.) -/
  P : Nat → Prop := fun _ => True

/-- A text's number in a table, counted from k on; 0 if it is not there. -/
def numFrom : List ByteArray → ByteArray → Nat → Nat
  | [], _, _ => 0
  | x :: r, s, k => if x.data.toList = s.data.toList then k else numFrom r s (k + 1)
def numOf (l : List ByteArray) (s : ByteArray) : Nat := numFrom l s 1

theorem bytes_ext {x s : ByteArray} (h : x.data.toList = s.data.toList) : x = s := by
  cases x; cases s; congr 1; exact Array.ext' h

theorem numFrom_zero_iff (s : ByteArray) : ∀ (l : List ByteArray) (k : Nat), 0 < k → (numFrom l s k = 0 ↔ s ∉ l)
  | [], k, _ => by simp [numFrom]
  | x :: r, k, hk => by
    unfold numFrom
    split
    · next h => have e := bytes_ext h; subst e; simp; omega
    · next h =>
      rw [numFrom_zero_iff s r (k + 1) (by omega)]
      have : ¬ s = x := fun e => h (by rw [e])
      simp [this]
theorem numFrom_le (s : ByteArray) : ∀ (l : List ByteArray) (k : Nat), numFrom l s k < k + l.length ∨ numFrom l s k = 0
  | [], k => .inr rfl
  | x :: r, k => by
    unfold numFrom
    split
    · left; simp
    · have := numFrom_le s r (k + 1); simp; omega
theorem numFrom_snoc_in (x s : ByteArray) : ∀ (l : List ByteArray) (k : Nat), s ∈ l → numFrom (l ++ [x]) s k = numFrom l s k
  | [], k, h => by cases h
  | y :: r, k, hs => by
    simp only [List.cons_append]
    unfold numFrom
    split
    · rfl
    · next h =>
      have : ¬ s = y := fun e => h (by rw [e])
      exact numFrom_snoc_in x s r (k + 1) (by simpa [this] using hs)
theorem numFrom_snoc_out (x s : ByteArray) : ∀ (l : List ByteArray) (k : Nat), s ∉ l → numFrom (l ++ [x]) s k = if x.data.toList = s.data.toList then k + l.length else 0
  | [], k, _ => by unfold numFrom; simp [numFrom]
  | y :: r, k, hs => by
    simp only [List.cons_append]
    unfold numFrom
    split
    · next h => exact absurd (by simp [bytes_ext h]) hs
    · rw [numFrom_snoc_out x s r (k + 1) (fun h => hs (by simp [h]))]
      split
      · simp; omega
      · rfl
theorem numOf_nil (s : ByteArray) : numOf [] s = 0 := rfl
theorem numOf_le (l : List ByteArray) (s : ByteArray) : numOf l s ≤ l.length := by
  have := numFrom_le s l 1; unfold numOf; omega
theorem numOf_zero_iff {l : List ByteArray} {s : ByteArray} : numOf l s = 0 ↔ s ∉ l := numFrom_zero_iff s l 1 (by omega)
theorem numOf_zero {l : List ByteArray} {s : ByteArray} (h : s ∉ l) : numOf l s = 0 := numOf_zero_iff.2 h
theorem numOf_pos {l : List ByteArray} {s : ByteArray} (h : s ∈ l) : 0 < numOf l s := Nat.pos_of_ne_zero fun e => numOf_zero_iff.1 e h
theorem numOf_snoc_same {l : List ByteArray} {x : ByteArray} (hx : x ∉ l) : numOf (l ++ [x]) x = l.length + 1 := by
  unfold numOf; rw [numFrom_snoc_out _ _ _ _ hx, if_pos rfl]; omega
theorem numOf_snoc_other {l : List ByteArray} {x s : ByteArray} (h : s ≠ x) : numOf (l ++ [x]) s = numOf l s := by
  unfold numOf
  by_cases hs : s ∈ l
  · exact numFrom_snoc_in x s l 1 hs
  · rw [numFrom_snoc_out x s l 1 hs, if_neg (fun e => h (bytes_ext e).symm)]
    exact (numOf_zero hs).symm

noncomputable abbrev strR : Value → Option (DataW Unit × List MemPlace) := plainElem Try.prog 3

/-- A map that numbers the texts of a list. -/
def MapIs (w : World) (v : Value) (l : List ByteArray) : Prop :=
  (v = .map none ∧ l = []) ∨ ∃ B n, ∃ D : DataW Unit, v = .map (some B) ∧ n ≤ l.length ∧ w.ownsMap Try.prog 9 strR B n D ∧ ∀ s : ByteArray, D.atKey (.string s.data.toList) (.lit (.int .i64 0)) = .lit (.int .i64 (numOf l s))

def StrsIn (w : World) (v : Value) (l : List ByteArray) : Prop := w.ownsRow 0 9 1 v l.length (l.map Value.string)
def IntsIn (w : World) (v : Value) (l : List Int) : Prop := w.ownsRow 0 3 1 v l.length (l.map (Value.int .i64))
/-- The three cells of a production, its right side's slice r. -/
def prL (p : PR) (r : Value) : List Value := [.int .i64 p.left, r, .int .i64 p.level]
def ProdsIn (w : World) (v : Value) (ps : List PR) : Prop :=
  ∃ rs : List Value, rs.length = ps.length ∧ w.ownsRow 0 45 3 v ps.length ((ps.zip rs).flatMap fun x => prL x.1 x.2) ∧ ∀ i, i < ps.length → IntsIn w (rs.getD i undef) (ps.getD i ⟨0, [], 0⟩).right

/-- Its lists lie in blocks of which S.P holds; of all blocks to come it holds. -/
def Foot (w : World) (S : BS) (c : Nat → Value) : Prop :=
  (∀ g, w.heap.size ≤ g → S.P g) ∧ (∀ i, i = 1 ∨ i = 3 ∨ i = 69 ∨ i = 70 → ∀ g, (c i).ownBlock = some g → S.P g) ∧
  ∀ gp k v g, (c 70).ownBlock = some gp → k < S.prods.length * 3 → w.cell? ⟨gp, k, none⟩ = some v → v.ownBlock = some g → S.P g

structure BCells (w : World) (S : BS) (c : Nat → Value) : Prop where
  tm : MapIs w (c 0) S.terms
  tl : StrsIn w (c 1) S.terms
  nm : MapIs w (c 2) S.nons
  nl : StrsIn w (c 3) S.nons
  lv : ∀ i, i < 65 → c (4 + i) = .int .i64 (S.lev i)
  sd : IntsIn w (c 69) S.sides
  pr : ProdsIn w (c 70) S.prods
  st : c 71 = .int .i64 S.start
  ft : Foot w S c

/-- What always holds of a builder. -/
structure BS.OK (S : BS) : Prop where
  syms : S.terms.length + S.nons.length ≤ 64
  tnames : ∀ s ∈ S.terms, isTextB s = true
  nnames : ∀ s ∈ S.nons, isNameB s = true
  tnd : S.terms.Nodup
  nnd : S.nons.Nodup
  sides : S.sides.length ≤ 64
  sdv : ∀ x ∈ S.sides, 1 ≤ x ∧ x ≤ 3
  prods : S.prods.length ≤ 96
  lev : ∀ i, 0 ≤ S.lev i ∧ S.lev i ≤ S.sides.length
  lev0 : S.lev 0 = 0
  levT : ∀ h, S.terms.length < h → S.lev h = 0
  has : ∀ i, i < S.sides.length → ∃ h, 1 ≤ h ∧ h ≤ S.terms.length ∧ S.lev h = (i : Int) + 1
  pl : ∀ p ∈ S.prods, -(S.nons.length : Int) ≤ p.left ∧ p.left < 0
  pr : ∀ p ∈ S.prods, ∀ h ∈ p.right, (0 < h ∧ h ≤ S.terms.length) ∨ (h < 0 ∧ -(S.nons.length : Int) ≤ h)
  plen : ∀ p ∈ S.prods, p.right.length ≤ 17592186044416
  pv : ∀ p ∈ S.prods, 0 ≤ p.level ∧ p.level ≤ S.sides.length
  st : S.start = 0 ∨ (-(S.nons.length : Int) ≤ S.start ∧ S.start < 0)

/-! ### What keeps -/
theorem grown_refl (w : World) (row : Option Nat) : w.grownBy w row := ⟨rfl, rfl, rfl, Nat.le_refl _, fun _ _ _ => rfl⟩
theorem grown_trans {w w1 w2 : World} {row : Option Nat} (h : w.grownBy w1 row) (k : w1.grownBy w2 row) : w.grownBy w2 row :=
  ⟨k.os.trans h.os, k.tape.trans h.tape, k.output.trans h.output, Nat.le_trans h.size k.size, fun i hi hne => (k.block i (Nat.lt_of_lt_of_le hi h.size) hne).trans (h.block i hi hne)⟩
theorem grown_but {w w1 : World} (row : Option Nat) (h : w.grownBy w1 none) : w.grownBy w1 row := ⟨h.os, h.tape, h.output, h.size, fun i hi _ => h.block i hi (by simp)⟩
theorem grown_below {w w1 : World} {B b : Nat} (h : w.grownBy w1 (some b)) (hB : B ≤ w.heap.size) (hb : B ≤ b) : Below B w w1 := ⟨h.os, h.tape, h.output, h.size, fun k hk => h.block k (by omega) (by simp; omega)⟩
theorem grown_below0 {w w1 : World} (h : w.grownBy w1 none) : Below w.heap.size w w1 := ⟨h.os, h.tape, h.output, h.size, fun k hk => h.block k hk (by simp)⟩
theorem below_grown {w w1 : World} (h : Below w.heap.size w w1) : w.grownBy w1 none := ⟨h.os, h.tape, h.output, h.size, fun k hk _ => h.block k hk⟩
theorem grown_setCell {w : World} (b o : Nat) (v : Value) : w.grownBy (w.setCell ⟨b, o, none⟩ v) (some b) :=
  ⟨rfl, rfl, rfl, by simp [World.setCell], fun k _ hne => Below.heap_setCell _ _ _ _ (fun e => hne (by simp [e]))⟩
/-- What a new block beyond w does not touch. -/
theorem grown_new {w w1 w2 : World} {b : Nat} (h : w.grownBy w1 none) (k : w1.grownBy w2 (some b)) (hb : w.heap.size ≤ b) : w.grownBy w2 none :=
  ⟨k.os.trans h.os, k.tape.trans h.tape, k.output.trans h.output, Nat.le_trans h.size k.size, fun i hi _ => (k.block i (Nat.lt_of_lt_of_le hi h.size) (by simp; omega)).trans (h.block i hi (by simp))⟩

theorem own_cell {w : World} {e n g k : Nat} {v : Value} {xs : List Value} (h : w.ownsRow 0 e 3 v n xs) (hv : v.ownBlock = some g) (hk : k < n * 3) : ∃ u, xs[k]? = some u ∧ w.cell? ⟨g, k, none⟩ = some u := by
  have hk' : k < xs.length := by rw [h.1]; exact hk
  refine ⟨xs[k], List.getElem?_eq_getElem hk', ?_⟩
  have := World.ownsRow.cells h hv k _ (List.getElem?_eq_getElem hk')
  rw [Addr.add_mid, Nat.zero_add] at this
  exact this
/-- What lies in the row of the productions. -/
theorem foot_rights {w : World} {S : BS} {c : Nat → Value} {e : Nat} {xs : List Value} (hf : Foot w S c) (ho : w.ownsRow 0 e 3 (c 70) S.prods.length xs) : ∀ u ∈ xs, ∀ g, u.ownBlock = some g → S.P g := by
  intro u hu g hg
  obtain ⟨k, hk, rfl⟩ := List.getElem_of_mem hu
  have hl := ho.1
  rcases ho.2 with ⟨hv, h0⟩ | ⟨gp, cap, cur, hv, _⟩
  · rw [hl, h0] at hk; simp at hk
  · have hb : (c 70).ownBlock = some gp := by rw [hv]; rfl
    obtain ⟨u', h1, h2⟩ := own_cell ho hb (k := k) (by rw [← hl]; exact hk)
    rw [List.getElem?_eq_getElem hk] at h1
    cases h1
    exact hf.2.2 gp k _ g hb (by rw [← hl]; exact hk) h2 hg
/-- A step that lays the productions anew. -/
theorem foot_prods {w w' : World} {S S' : BS} {c c' : Nat → Value} {row : Option Nat} {B e n : Nat} {xs : List Value} (hf : Foot w S c) (hg : w.grownBy w' row) (hP : S'.P = S.P) (hc : ∀ i, i = 1 ∨ i = 3 ∨ i = 69 → c' i = c i)
    (hv : ∀ g, (c' 70).ownBlock = some g → w.heap.size ≤ g) (ho : w'.ownsRow B e 3 (c' 70) n xs) (hn : S'.prods.length = n) (hx : ∀ u ∈ xs, ∀ g, u.ownBlock = some g → S.P g) : Foot w' S' c' := by
  refine ⟨fun g h => by rw [hP]; exact hf.1 g (Nat.le_trans hg.size h), fun i hi g h => ?_, fun gp k v g h1 h2 h3 h4 => ?_⟩
  · rw [hP]
    by_cases e : i = 70
    · rw [e] at h; exact hf.1 g (hv g h)
    · rw [hc i (by omega)] at h; exact hf.2.1 i hi g h
  · rw [hP]
    rw [hn] at h2
    have ho' : w'.ownsRow 0 e 3 (c' 70) n xs := ⟨ho.1, by
      rcases ho.2 with h' | ⟨g, cap, cur, hv, _, rest⟩
      · exact .inl h'
      · exact .inr ⟨g, cap, cur, hv, Nat.zero_le _, rest⟩⟩
    obtain ⟨u, e1, e2⟩ := own_cell ho' h1 h2
    rw [e2] at h3
    cases h3
    exact hx _ (List.mem_of_getElem? e1) g h4
/-- One cell turned. -/
def putC (c : Nat → Value) (i : Nat) (v : Value) : Nat → Value := fun j => if j = i then v else c j
theorem putC_same (c : Nat → Value) (i : Nat) (v : Value) : putC c i v i = v := by simp [putC]
theorem putC_other (c : Nat → Value) {i j : Nat} (v : Value) (h : j ≠ i) : putC c i v j = c j := by simp [putC, h]
end Go.Proofs.Ytljlkmiaemkokaa

/-
  What a table of names does: its size, a name's number, a new name.
-/
namespace Go.Proofs.Ytljlkmiaemkokaa
open Go.RowKit Go.Maps

theorem strKey : Keyed Try.prog 9 := string_keyed Try.underlying9
theorem zeroInt (w : World) : (zeroValue 3).run Try.prog w = .ok (.int .i64 0) w := by kernel_rfl
theorem infoStr : (Try.prog.info? 9).map (fun i => (i.zero, i.size, i.bytes)) = some (some (.string ByteArray.empty), 1, 16) := by kernel_rfl

theorem StrsIn.form {w : World} {v : Value} {l : List ByteArray} (h : StrsIn w v l) : ∃ a cap, v = .slice a l.length cap ∧ l.length ≤ cap ∧ (a = none → l.length = 0 ∧ cap = 0) ∧ (∀ g, a = some g → ∀ j u, (l.map Value.string)[j]? = some u → w.cell? (g.add j) = some u) := by
  have h' := h
  rcases h.2 with ⟨rfl, hn⟩ | ⟨g, cap, cur, rfl, _, hg, hle, _⟩
  · rw [hn]
    exact ⟨none, 0, rfl, Nat.le_refl _, fun _ => ⟨rfl, rfl⟩, fun g hg => by cases hg⟩
  · exact ⟨_, cap, rfl, hle, (fun h => by cases h), (fun g' hg' => by cases hg'; exact World.ownsRow.cells h' rfl)⟩
theorem IntsIn.form {w : World} {v : Value} {l : List Int} (h : IntsIn w v l) : ∃ a cap, v = .slice a l.length cap ∧ l.length ≤ cap ∧ (a = none → l.length = 0 ∧ cap = 0) ∧ (∀ g, a = some g → ∀ j u, (l.map (Value.int .i64))[j]? = some u → w.cell? (g.add j) = some u) := by
  have h' := h
  rcases h.2 with ⟨rfl, hn⟩ | ⟨g, cap, cur, rfl, _, hg, hle, _⟩
  · rw [hn]
    exact ⟨none, 0, rfl, Nat.le_refl _, fun _ => ⟨rfl, rfl⟩, fun g hg => by cases hg⟩
  · exact ⟨_, cap, rfl, hle, (fun h => by cases h), (fun g' hg' => by cases hg'; exact World.ownsRow.cells h' rfl)⟩

theorem keyStr (s : ByteArray) (hs : s.size ≤ maxLen) : keyOf Try.prog 9 (.string s) = some (.string s.data.toList) := WideMaps.keyOf_string_mk Try.underlying9 hs

/-- An append that grows, its new slice written out. -/
theorem wpList_append_new {P : Program} (w : World) {ops : Array Oper} {rest : List Oper} {o : Oper} {a : Act} {Q : Exit → Act → World → Prop}
    (hg : o.guard = none) (s x : Operand) (t : TypeId) (hop : o.op = Op.call { callee := Callee.builtin Builtin.append, args := #[s, x], argTypes := #[t, t] })
    (e : TypeId) (i : TypeInfo) (z : Value) (size bytes : Nat) (h1 : P.underlying t = some (.slice e)) (h2 : P.info? e = some i) (h3 : i.zero = some z) (h4 : i.size = size) (h5 : i.bytes = bytes) (h6 : z.cells.size = size) (h7 : 0 < size)
    (ao : Option Addr) (n cap : Nat) (olds : List Value) (hs : a.eval s = .slice ao n cap) (hnone : ao = none → n = 0 ∧ cap = 0) (hlo : olds.length = n * size) (holds : ∀ b, ao = some b → ∀ j u, olds[j]? = some u → w.cell? (b.add j) = some u)
    (ad : Addr) (m c : Nat) (news : List Value) (hx : a.eval x = .slice (some ad) m c) (hn : news.length = m * size) (hc : ∀ j u, news[j]? = some u → w.cell? (ad.add j) = some u) (h1c : ∀ u ∈ news, u.oneCell' = true)
    (hfull : cap < n + m) (b1 : n + m ≤ maxLen) (b2 : (n + m) * bytes ≤ 140737488355328)
    (hK : ∀ g c' w', w'.ownsRow w.heap.size e size (.slice (some ⟨g, 0, none⟩) (n + m) c') (n + m) (olds ++ news) → w.grownBy w' none → wpList P ops Q rest (a.put o.dst (.slice (some ⟨g, 0, none⟩) (n + m) c')) w') :
    wpList P ops Q (o :: rest) a w := by
  by_cases hm : n + m = 0
  · omega
  · refine wpList_append_grows w hg s x t hop e i z size bytes h1 h2 h3 h4 h5 h6 h7 ao n cap olds hs hnone hlo holds ad m c news hx hn hc h1c hfull b1 b2 ?_
    intro v' w' hown hgr
    have hex : ∃ g c', v' = .slice (some ⟨g, 0, none⟩) (n + m) c' := by
      rcases hown.2 with ⟨_, h0⟩ | ⟨g, c', _, hv, _⟩
      · exact absurd h0 hm
      · exact ⟨g, c', hv⟩
    obtain ⟨g, c', hv⟩ := hex
    rw [hv] at hown ⊢
    exact hK g c' w' hown hgr

theorem owns_base {w : World} {base e size n : Nat} {v : Value} {xs : List Value} (h : w.ownsRow base e size v n xs) : w.ownsRow 0 e size v n xs := by
  refine ⟨h.1, ?_⟩
  rcases h.2 with h' | ⟨g, cap, cur, hv, _, rest⟩
  · exact .inl h'
  · exact .inr ⟨g, cap, cur, hv, Nat.zero_le _, rest⟩

theorem MapIs.put {w : World} {l : List ByteArray} {B n : Nat} {D : DataW Unit} {s : ByteArray} (ho : w.ownsMap Try.prog 9 strR B (n + 1) (D.put (.string s.data.toList) (.lit (.int .i64 ((l.length + 1 : Nat) : Int))))) (hn : n ≤ l.length) (hs : s ∉ l) (hD : IsMap D)
    (hat : ∀ s : ByteArray, D.atKey (.string s.data.toList) (.lit (.int .i64 0)) = .lit (.int .i64 (numOf l s))) : MapIs w (.map (some B)) (l ++ [s]) := by
  refine .inr ⟨B, n + 1, _, rfl, by simp; omega, ho, fun s' => ?_⟩
  by_cases e : s' = s
  · subst e
    rw [atKey_put_same hD (by simp [WideAt.IsKeyLit]), numOf_snoc_same hs]
  · rw [atKey_put_other (fun h => e (bytes_ext (by simpa using h))), hat s', numOf_snoc_other e]

end Go.Proofs.Ytljlkmiaemkokaa

/-
  A new name in a table: the map and the list are replaced.
-/
namespace Go.Proofs.Ytljlkmiaemkokaa
open Go.RowKit Go.Maps

theorem str_oneCell (s : ByteArray) : ∀ u ∈ [Value.string s], u.oneCell' = true := by
  intro u hu; simp at hu; subst hu; rfl

theorem owns_apart_map {w : World} {e size n B k : Nat} {v : Value} {xs : List Value} {D : DataW Unit} (h : w.ownsRow 0 e size v n xs) (hm : w.ownsMap Try.prog 9 strR B k D) : v.ownBlock = none ∨ v.ownBlock ≠ some B := by
  rcases h.2 with ⟨rfl, _⟩ | ⟨g, cap, cur, rfl, _, hg, _⟩
  · exact .inl rfl
  · right
    intro hh
    obtain ⟨es, clock, hb, _⟩ := hm
    have hh' : g = B := by simpa [Value.ownBlock] using hh
    rw [hh'] at hg
    rw [hb] at hg
    cases hg

end Go.Proofs.Ytljlkmiaemkokaa

/-
  Term and Non of a builder; whether a handle is a terminal's or a nonterminal's.
-/
namespace Go.Proofs.Ytljlkmiaemkokaa
open Go.RowKit Go.Maps

theorem grown_drewN (w : World) (k : Nat) : w.grownBy (w.drewN k) none := ⟨rfl, rfl, rfl, Nat.le_refl _, fun _ _ _ => rfl⟩
/-! ### Term, Non -/
def BS.addT (S : BS) (s : ByteArray) : BS := { S with terms := S.terms ++ [s] }
def BS.addN (S : BS) (s : ByteArray) : BS := { S with nons := S.nons ++ [s] }
/-- A name's number, or 0 and the error; the builder behind it. -/
def numbered (full : Bool) (l : List ByteArray) (s : ByteArray) : Nat × Int :=
  if numOf l s = 0 then (if full then (0, 11) else (l.length + 1, 0)) else (numOf l s, 0)
def BS.full (S : BS) : Bool := decide (64 ≤ S.terms.length + S.nons.length)
def BS.term (S : BS) (s : ByteArray) : Int × Int × BS :=
  if isTextB s then (((numbered S.full S.terms s).1 : Int), (numbered S.full S.terms s).2, if numOf S.terms s = 0 ∧ S.full = false then S.addT s else S) else (0, 1, S)
def BS.non (S : BS) (s : ByteArray) : Int × Int × BS :=
  if isNameB s then (-((numbered S.full S.nons s).1 : Int), (numbered S.full S.nons s).2, if numOf S.nons s = 0 ∧ S.full = false then S.addN s else S) else (0, 1, S)

theorem BS.OK.addT {S : BS} (h : S.OK) {s : ByteArray} (hs : isTextB s = true) (hni : s ∉ S.terms) (hf : S.full = false) : (S.addT s).OK := by
  have hf' : S.terms.length + S.nons.length < 64 := by simpa [BS.full] using hf
  have hl : (S.addT s).terms.length = S.terms.length + 1 := by simp [BS.addT]
  refine ⟨by rw [hl]; show S.terms.length + 1 + S.nons.length ≤ 64; omega, fun x hx => ?_, h.nnames, ?_, h.nnd, h.sides, h.sdv, h.prods, h.lev, h.lev0, fun k hk => h.levT k (by omega), fun i hi => ?_, h.pl, fun p hp k hk => ?_, h.plen, h.pv, h.st⟩
  · rcases List.mem_append.1 hx with hx | hx
    · exact h.tnames x hx
    · simp at hx; subst hx; exact hs
  · exact List.nodup_append.2 ⟨h.tnd, by simp, fun a ha b hb => by simp at hb; subst hb; exact fun e => hni (e ▸ ha)⟩
  · obtain ⟨k, h1, h2, h3⟩ := h.has i hi
    exact ⟨k, h1, by omega, h3⟩
  · rcases h.pr p hp k hk with h' | h'
    · left; rw [hl]; omega
    · exact .inr h'
theorem BS.OK.addN {S : BS} (h : S.OK) {s : ByteArray} (hs : isNameB s = true) (hni : s ∉ S.nons) (hf : S.full = false) : (S.addN s).OK := by
  have hf' : S.terms.length + S.nons.length < 64 := by simpa [BS.full] using hf
  have hl : (S.addN s).nons.length = S.nons.length + 1 := by simp [BS.addN]
  refine ⟨by rw [hl]; show S.terms.length + (S.nons.length + 1) ≤ 64; omega, h.tnames, fun x hx => ?_, h.tnd, ?_, h.sides, h.sdv, h.prods, h.lev, h.lev0, h.levT, h.has, fun p hp => ?_, fun p hp k hk => ?_, h.plen, h.pv, ?_⟩
  · rcases List.mem_append.1 hx with hx | hx
    · exact h.nnames x hx
    · simp at hx; subst hx; exact hs
  · exact List.nodup_append.2 ⟨h.nnd, by simp, fun a ha b hb => by simp at hb; subst hb; exact fun e => hni (e ▸ ha)⟩
  · have := h.pl p hp; rw [hl]; omega
  · rcases h.pr p hp k hk with h' | h'
    · exact .inl h'
    · right; rw [hl]; omega
  · have hst : (S.addN s).start = S.start := rfl
    rw [hl, hst]
    rcases h.st with h' | h'
    · exact .inl h'
    · right; omega

theorem isTextB_size {s : ByteArray} (h : isTextB s = true) : s.size ≤ 16 := by simp [isTextB, lenOK] at h; omega
theorem isNameB_size {s : ByteArray} (h : isNameB s = true) : s.size ≤ 16 := by simp [isNameB, lenOK] at h; omega

end Go.Proofs.Ytljlkmiaemkokaa
