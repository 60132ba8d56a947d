import Derived.Test.YtjijagnpcmonbaaDoorQppijnenhdkii
import Derived.Deep.RegionWith
import Derived.Deep.RegionHeld3
import Derived.Deep.DrawnRows
import Derived.DeepKeys

/-
  What Add and Drop do.
-/
namespace Go.Proofs.YtjijagnpcmonbaaDoor.B
open Go.RowKit

/-- One member more: the set, and how many were new. -/
def addStep (n : Nat) (s : Nat × Nat) (x : Int) : Nat × Nat := if inB n x && !hasB s.1 x then (s.1 ||| 2 ^ x.toNat, s.2 + 1) else s
def addS (n m : Nat) (l : List Int) : Nat × Nat := l.foldl (addStep n) (m, 0)
/-- One member less: the set, and how many were there. -/
def dropStep (s : Nat × Nat) (x : Int) : Nat × Nat := if hasB s.1 x then (s.1 ^^^ 2 ^ x.toNat, s.2 + 1) else s
def dropS (m : Nat) (l : List Int) : Nat × Nat := l.foldl dropStep (m, 0)

theorem addS_snoc (n m : Nat) (l : List Int) (k : Nat) (hk : k < l.length) : addS n m (l.take (k + 1)) = addStep n (addS n m (l.take k)) (l.getD k 0) := by
  unfold addS
  rw [List.take_succ_eq_append_getElem hk, List.foldl_append]
  simp [List.getD, hk]
/-- What is stored when n is added. -/
theorem or_bit (m n : Nat) : bits BinOp.or IntKind.u64 (wd m (n / 64) : Int) (bt n : Int) = (wd (m ||| 2 ^ n) (n / 64) : Nat) := by
  rw [bits_or_u64_nat _ _ (wd_lt _ _) (bt_lt _), wd_or, wd_two_pow, if_pos rfl]; rfl
theorem or_other (m n i : Nat) (h : i ≠ n / 64) : wd (m ||| 2 ^ n) i = wd m i := by rw [wd_or, wd_two_pow, if_neg h]; simp
theorem RowAt.added {w : World} {b n m : Nat} (h : RowAt w b n (wd m)) (k : Nat) (hk : k < 1024) : RowAt (w.setCell ⟨b, 1 + k / 64, none⟩ (.int .u64 (wd (m ||| 2 ^ k) (k / 64) : Nat))) b n (wd (m ||| 2 ^ k)) :=
  (h.setWord (k / 64) _ (by omega)).congr fun i _ => by
    by_cases e : i = k / 64
    · subst e; simp
    · simp only [e, if_false]; exact (or_other m k i e).symm

/-- The numbers of a slice lie where it leads to. -/
def IntsAt (w : World) (a : Option Addr) (l : List Int) : Prop :=
  l = [] ∨ ∃ b off, a = some ⟨b, off, none⟩ ∧ ∀ i, i < l.length → w.cell? ⟨b, off + i, none⟩ = some (.int .i64 (l.getD i 0))

theorem But.drewN {b : Nat} {w w' : World} (h : But b w w') (k : Nat) : But b w (w'.drewN k) := ⟨h.os, h.tape, h.output, h.size, h.block⟩
theorem RowAt.drewN {w : World} {b n : Nat} {f : Nat → Nat} (h : RowAt w b n f) (k : Nat) : RowAt (w.drewN k) b n f := h

theorem has_is {p : Option Addr} {n m : Nat} {x : Int} {w : World} (h : SetM w p n m) (hx : hasB m x = true) :
    Calls Tryd.prog 35 #[.pointer p, .int .i64 x] w fun e w' => e = .returned (.bool true) ∧ ∃ k, w' = w.drewN k := by
  have := has_any p n m x w h
  rwa [hx] at this
theorem has_isnt {p : Option Addr} {n m : Nat} {x : Int} {w : World} (h : SetM w p n m) (hx : hasB m x = false) :
    Calls Tryd.prog 35 #[.pointer p, .int .i64 x] w fun e w' => e = .returned (.bool false) ∧ ∃ k, w' = w.drewN k := by
  have := has_any p n m x w h
  rwa [hx] at this

theorem add_none (a : Option Addr) (cap : Nat) (p : Option Addr) (w : World) :
    Calls Tryd.prog 22 #[.pointer p, .slice a 0 cap] w fun e w' => e = .returned (.int .i64 0) ∧ w' = w := by
  go_enter Tryd.func22, Tryd.ntmps22
  go_wp2
  go_loop [5, 10] (fun a i => a = .int .i64 0 ∧ i = .int .i64 0) (fun _ _ => 0)
  case atStart => exact ⟨rfl, rfl⟩
  case round =>
    obtain ⟨rfl, rfl⟩ := hrel
    go_wp2
    go_ret
    exact ⟨rfl, rfl⟩

attribute [local go_sem ↓] Go.wp_at_zero Go.wp_at_succ

set_option maxHeartbeats 1000000 in
theorem add_row (b n m bl off cap : Nat) (l : List Int) (w : World) (hn : n ≤ 1024) (hm : m < 2 ^ n) (hr : RowAt w b n (wd m)) (hne : bl ≠ b) (hlen : l.length < 1152921504606846976)
    (hc : ∀ i, i < l.length → w.cell? ⟨bl, off + i, none⟩ = some (.int .i64 (l.getD i 0))) :
    Calls Tryd.prog 22 #[.pointer (some ⟨b, 0, none⟩), .slice (some ⟨bl, off, none⟩) l.length cap] w fun e w' =>
      e = .returned (.int .i64 ((addS n m l).2 : Nat)) ∧ RowAt w' b n (wd (addS n m l).1) ∧ (addS n m l).1 < 2 ^ n ∧ But b w w' := by
  have HC : Hid (∀ i, i < l.length → w.cell? ⟨bl, off + i, none⟩ = some (.int .i64 (l.getD i 0))) := hc
  have HR : Hid (RowAt w b n (wd m)) := hr
  have HM : Hid (m < 2 ^ n) := hm
  clear hc hr hm
  go_enter Tryd.func22, Tryd.ntmps22
  go_wp2
  go_loopw [5, 10] (fun a i wr => ∃ k : Nat, k ≤ l.length ∧ i = .int .i64 k ∧ a = .int .i64 ((addS n m (l.take k)).2 : Nat) ∧ (addS n m (l.take k)).2 ≤ k ∧ (addS n m (l.take k)).1 < 2 ^ n ∧ RowAt wr b n (wd (addS n m (l.take k)).1) ∧ But b w wr)
    (fun _ i _ => l.length - (intOf i).toNat)
  case atStart => exact ⟨0, Nat.zero_le _, rfl, rfl, Nat.zero_le _, HM.out, HR.out, But.refl _ _⟩
  case round =>
    obtain ⟨k, hk, rfl, rfl, hle, hlt2, hrow, hbut⟩ := hrel
    by_cases hlt : k < l.length
    · have hsn := addS_snoc n m l k hlt
      have hcell : wr.cell? ⟨bl, off + k, none⟩ = some (.int .i64 (l.getD k 0)) := by
        have h1 := HC.out k hlt
        have h2 : bl < w.heap.size := World.block_lt_of_cell? w _ h1
        rw [World.cell?_of_block (w := w) (hbut.block bl h2 hne)]; exact h1
      generalize l.getD k 0 = x at hsn hcell
      generalize addS n m (l.take k) = s at *
      obtain ⟨sm, sk⟩ := s
      have HSN : Hid (addS n m (l.take (k + 1)) = addStep n (sm, sk) x) := hsn
      have HS : Hid (SetM wr (some ⟨b, 0, none⟩) n sm) := SetM.of hrow hn hlt2
      have HROW : Hid (RowAt wr b n (wd sm)) := hrow
      have HLT2 : Hid (sm < 2 ^ n) := hlt2
      have HBUT : Hid (But b w wr) := hbut
      clear hsn hrow hlt2 hbut
      cases hin : inB n x with
      | false =>
        have HIN : Hid (inB n x = false) := hin
        clear hin
        go_wp2_with (go_at_call 34; refine (holds_no HS.out HIN.out).mono ?_; rintro e w2 ⟨rfl, rfl⟩)
        go_roundw
        case rel =>
          have e : addS n m (l.take (k + 1)) = (sm, sk) := by rw [HSN.out]; simp [addStep, HIN.out]
          exact ⟨k + 1, by omega, by go_num, by rw [e], by rw [e]; simp; omega, by rw [e]; exact HLT2.out, by rw [e]; exact HROW.out, HBUT.out⟩
        case measure => simp [intOf]; omega
      | true =>
        have HIN : Hid (inB n x = true) := hin
        obtain ⟨h0, h1⟩ : 0 ≤ x ∧ x < n := by simpa [inB] using hin
        clear hin
        cases hh : hasB sm x with
        | true =>
          have HH : Hid (hasB sm x = true) := hh
          clear hh
          go_wp2_with (first | (go_at_call 34; refine (holds_yes HS.out HIN.out).mono ?_; rintro e w2 ⟨rfl, rfl⟩) | (go_at_call 35; refine (has_is HS.out HH.out).mono ?_; rintro e w2 ⟨rfl, j, rfl⟩))
          go_roundw
          case rel =>
            have e : addS n m (l.take (k + 1)) = (sm, sk) := by rw [HSN.out]; simp [addStep, HH.out]
            exact ⟨k + 1, by omega, by go_num, by rw [e], by rw [e]; simp; omega, by rw [e]; exact HLT2.out, by rw [e]; exact HROW.out, HBUT.out.drewN _⟩
          case measure => simp [intOf]; omega
        | false =>
          have HH : Hid (hasB sm x = false) := hh
          clear hh
          obtain ⟨y, rfl⟩ := Int.eq_ofNat_of_zero_le h0
          have hy : y < 1024 := by omega
          have hyi : (y : Int) / 64 < 16 := by omega
          have hyi0 : (0 : Int) ≤ (y : Int) / 64 := by omega
          have hq1 : (y : Int).tdiv 64 = (y : Int) / 64 := Int.tdiv_eq_ediv_of_nonneg (by omega)
          have hq2 : IntKind.i64.wrap ((y : Int) / 64) = (y : Int) / 64 := by rw [IntKind.wrap_i64]; omega
          have hq3 : ((y : Int) / 64).toNat = y / 64 := by omega
          have hw := HROW.out.word (y / 64) (by omega)
          have hfz := HROW.out.free (1 + y / 64)
          have ho := or_bit sm y
          go_wp2_with (first | (go_at_call 34; refine (holds_yes HS.out HIN.out).mono ?_; rintro e w2 ⟨rfl, rfl⟩) | (go_at_call 35; refine (has_isnt HS.out HH.out).mono ?_; rintro e w2 ⟨rfl, j, rfl⟩))
          go_region_with (go_at_call 36; refine (bit_any y hy _).mono ?_; rintro e w' ⟨rfl, rfl⟩)
          all_goals go_wp2
          all_goals go_roundw
          case' rel =>
            have e : addS n m (l.take (k + 1)) = (sm ||| 2 ^ y, sk + 1) := by rw [HSN.out]; simp [addStep, HH.out, HIN.out]
            exact ⟨k + 1, by omega, by go_num, by rw [e]; go_num, by rw [e]; simp; omega, by rw [e]; exact lt_or HLT2.out (two_pow_lt (by omega)), by rw [e]; exact RowAt.added (RowAt.drewN HROW.out _) y hy, (But.drewN HBUT.out _).setCell _ _⟩
          case' measure => simp [intOf]; omega
          case' rel =>
            have e : addS n m (l.take (k + 1)) = (sm ||| 2 ^ y, sk + 1) := by rw [HSN.out]; simp [addStep, HH.out, HIN.out]
            exact ⟨k + 1, by omega, by go_num, by rw [e]; go_num, by rw [e]; simp; omega, by rw [e]; exact lt_or HLT2.out (two_pow_lt (by omega)), by rw [e]; exact RowAt.added (RowAt.drewN HROW.out _) y hy, (But.drewN HBUT.out _).setCell _ _⟩
          case' measure => simp [intOf]; omega
    · have : k = l.length := by omega
      subst this
      rw [List.take_length] at *
      go_wp2
      go_ret
      exact ⟨rfl, hrow, hlt2, hbut⟩

end Go.Proofs.YtjijagnpcmonbaaDoor.B

/-
  What Drop does; Add and Drop of sets without room.
-/
namespace Go.Proofs.YtjijagnpcmonbaaDoor.B
open Go.RowKit

/-! ### A set without room (nil among them): nothing is taken, nothing is there. -/
theorem inB_zero (x : Int) : inB 0 x = false := by
  unfold inB
  by_cases h : 0 ≤ x
  · have : ¬ x < ((0 : Nat) : Int) := by omega
    rw [decide_eq_false this, Bool.and_false]
  · simp [h]
theorem add_zero (p : Option Addr) (bl off cap : Nat) (l : List Int) (w : World) (h : SetM w p 0 0) (hlen : l.length < 1152921504606846976)
    (hc : ∀ i, i < l.length → w.cell? ⟨bl, off + i, none⟩ = some (.int .i64 (l.getD i 0))) :
    Calls Tryd.prog 22 #[.pointer p, .slice (some ⟨bl, off, none⟩) l.length cap] w fun e w' => e = .returned (.int .i64 0) ∧ w' = w := by
  have H : Hid (SetM w p 0 0) := h
  have HC : Hid (∀ i, i < l.length → w.cell? ⟨bl, off + i, none⟩ = some (.int .i64 (l.getD i 0))) := hc
  clear hc h
  go_enter Tryd.func22, Tryd.ntmps22
  go_wp2
  go_loop [5, 10] (fun a i => ∃ k : Nat, k ≤ l.length ∧ i = .int .i64 k ∧ a = .int .i64 0) (fun _ i => l.length - (intOf i).toNat)
  case atStart => exact ⟨0, Nat.zero_le _, rfl, rfl⟩
  case round =>
    obtain ⟨k, hk, rfl, rfl⟩ := hrel
    by_cases hlt : k < l.length
    · have hcell := HC.out k hlt
      generalize l.getD k 0 = x at hcell
      go_wp2_with (go_at_call 34; refine (holds_no H.out (inB_zero _)).mono ?_; rintro e w2 ⟨rfl, rfl⟩)
      go_round
      case rel => exact ⟨k + 1, by omega, by go_num, rfl⟩
      case measure => simp [intOf]; omega
    · go_wp2
      go_ret
      exact ⟨rfl, rfl⟩

end Go.Proofs.YtjijagnpcmonbaaDoor.B

/-
  What Of, Copy and Equal do.
-/
namespace Go.Proofs.YtjijagnpcmonbaaDoor.B
open Go.RowKit

theorem SetM.keep {w w' : World} {p : Option Addr} {n m : Nat} (h : SetM w p n m) (hb : Below w.heap.size w w') : SetM w' p n m := by
  refine ⟨h.1, h.2.1, ?_⟩
  rcases h.2.2 with h3 | ⟨b, rfl, hr⟩
  · exact .inl h3
  · exact .inr ⟨b, rfl, hr.below hb hr.lt⟩
theorem SetM.but {w w' : World} {p : Option Addr} {n m c : Nat} (h : SetM w p n m) (hb : But c w w') (hne : ∀ b, p = some ⟨b, 0, none⟩ → b ≠ c) : SetM w' p n m := by
  refine ⟨h.1, h.2.1, ?_⟩
  rcases h.2.2 with h3 | ⟨b, rfl, hr⟩
  · exact .inl h3
  · exact .inr ⟨b, rfl, hr.but hb (hne b rfl)⟩

/-- Have two sets the same size and members? -/
def eqB (n m n' m' : Nat) : Bool := decide (n = n' ∧ m = m')

/-- A size as Of takes it. -/
def clampN (z : Int) : Nat := (min (max z 0) 1024).toNat
theorem clampN_le (z : Int) : clampN z ≤ 1024 := by unfold clampN; omega

theorem zero_row (n : Nat) : (#[Value.int IntKind.i64 n, Value.int IntKind.u64 0, Value.int IntKind.u64 0, Value.int IntKind.u64 0,
    Value.int IntKind.u64 0, Value.int IntKind.u64 0, Value.int IntKind.u64 0, Value.int IntKind.u64 0,
    Value.int IntKind.u64 0, Value.int IntKind.u64 0, Value.int IntKind.u64 0, Value.int IntKind.u64 0,
    Value.int IntKind.u64 0, Value.int IntKind.u64 0, Value.int IntKind.u64 0, Value.int IntKind.u64 0,
    Value.int IntKind.u64 0] : Array Value) = (rowL n (fun _ => 0)).toArray := rfl

/-- What Of leaves, whatever Add does to the new set. -/
theorem of_core (z : Int) (n k : Nat) (f : Nat → Nat) (v : Value) (w : World) (hn : clampN z = n)
    (hA : Calls Tryd.prog 22 #[.pointer (some ⟨w.heap.size, 0, none⟩), v] (w.alloc (.cells (rowL n (fun _ => 0)).toArray 67)) fun e w' =>
      e = .returned (.int .i64 k) ∧ RowAt w' w.heap.size n f ∧ But w.heap.size (w.alloc (.cells (rowL n (fun _ => 0)).toArray 67)) w') :
    Calls Tryd.prog 33 #[.int .i64 z, v] w fun e w' => e = .returned (.pointer (some ⟨w.heap.size, 0, none⟩)) ∧ RowAt w' w.heap.size n f ∧ Below w.heap.size w w' := by
  have HA := hA
  rw [← zero_row] at hA
  have fin : ∀ w', But w.heap.size (w.alloc (.cells (rowL n (fun _ => 0)).toArray 67)) w' → Below w.heap.size w w' := fun w' hb =>
    ((Below.refl _ w).alloc (Nat.le_refl _) _).trans (hb.below (by simp) (Nat.le_refl _))
  have FIN : Hid (∀ w', But w.heap.size (w.alloc (.cells (rowL n (fun _ => 0)).toArray 67)) w' → Below w.heap.size w w') := fin
  clear fin HA
  have HN : Hid (clampN z = n) := hn
  clear hn
  by_cases h1 : z ≤ 0
  · obtain rfl : n = 0 := by rw [← HN.out]; unfold clampN; omega
    by_cases h2 : z = 0
    · subst h2
      go_enter Tryd.func33, Tryd.ntmps33
      go_wp2_with fail
      refine hA.mono ?_
      rintro e w' ⟨rfl, hr, hb⟩
      go_wp2
      go_ret
      exact ⟨rfl, hr, FIN.out _ hb⟩
    · have h3 : z < 0 := by omega
      clear h1
      go_enter Tryd.func33, Tryd.ntmps33
      go_wp2_with fail
      refine hA.mono ?_
      rintro e w' ⟨rfl, hr, hb⟩
      go_wp2
      go_ret
      exact ⟨rfl, hr, FIN.out _ hb⟩
  · by_cases h2 : z ≤ 1024
    · obtain ⟨y, rfl⟩ := Int.eq_ofNat_of_zero_le (by omega : 0 ≤ z)
      obtain rfl : n = y := by rw [← HN.out]; unfold clampN; omega
      go_enter Tryd.func33, Tryd.ntmps33
      go_wp2_with fail
      refine hA.mono ?_
      rintro e w' ⟨rfl, hr, hb⟩
      go_wp2
      go_ret
      exact ⟨rfl, hr, FIN.out _ hb⟩
    · obtain rfl : n = 1024 := by rw [← HN.out]; unfold clampN; omega
      go_enter Tryd.func33, Tryd.ntmps33
      go_wp2_with fail
      refine hA.mono ?_
      rintro e w' ⟨rfl, hr, hb⟩
      go_wp2
      go_ret
      exact ⟨rfl, hr, FIN.out _ hb⟩

theorem IntsAt.below {w w' : World} {a : Option Addr} {l : List Int} (h : IntsAt w a l) (hb : Below w.heap.size w w') : IntsAt w' a l := by
  rcases h with h | ⟨b, off, rfl, hc⟩
  · exact .inl h
  · refine .inr ⟨b, off, rfl, fun i hi => ?_⟩
    have h1 := hc i hi
    rw [hb.cell (World.block_lt_of_cell? w _ h1)]; exact h1

theorem addS_lt (n m : Nat) (l : List Int) (hm : m < 2 ^ n) : (addS n m l).1 < 2 ^ n := by
  unfold addS
  generalize 0 = k
  induction l generalizing m k with
  | nil => exact hm
  | cons x l ih =>
    rw [List.foldl_cons]
    unfold addStep
    split
    · rename_i h
      have h1 : 0 ≤ x ∧ x < n := by simp [inB] at h; exact h.1
      exact ih (m ||| 2 ^ x.toNat) (lt_or hm (two_pow_lt (by omega))) (k + 1)
    · exact ih m hm k

theorem of_any (z : Int) (a : Option Addr) (cap : Nat) (l : List Int) (w : World) (hl : IntsAt w a l) (hlen : l.length < 1152921504606846976) :
    Calls Tryd.prog 33 #[.int .i64 z, .slice a l.length cap] w fun e w' =>
      e = .returned (.pointer (some ⟨w.heap.size, 0, none⟩)) ∧ SetM w' (some ⟨w.heap.size, 0, none⟩) (clampN z) (addS (clampN z) 0 l).1 ∧ Below w.heap.size w w' := by
  have hrow : RowAt (w.alloc (.cells (rowL (clampN z) (fun _ => 0)).toArray 67)) w.heap.size (clampN z) (wd 0) := by
    rw [wd_zero']; exact heap_alloc_last w _
  have hle := clampN_le z
  rcases hl with rfl | ⟨bl, off, rfl, hc⟩
  · refine (of_core z _ 0 (wd 0) _ w rfl ((add_none a cap _ _).mono ?_)).mono ?_
    · rintro e w' ⟨rfl, rfl⟩
      exact ⟨rfl, hrow, But.refl _ _⟩
    · rintro e w' ⟨rfl, hr, hb⟩
      exact ⟨rfl, SetM.of hr hle (Nat.two_pow_pos _), hb⟩
  · by_cases hne : l = []
    · subst hne
      refine (of_core z _ 0 (wd 0) _ w rfl ((add_none _ cap _ _).mono ?_)).mono ?_
      · rintro e w' ⟨rfl, rfl⟩
        exact ⟨rfl, hrow, But.refl _ _⟩
      · rintro e w' ⟨rfl, hr, hb⟩
        exact ⟨rfl, SetM.of hr hle (Nat.two_pow_pos _), hb⟩
    · have hlt : bl < w.heap.size := World.block_lt_of_cell? w _ (hc 0 (List.length_pos_iff.2 hne))
      have hc' : ∀ i, i < l.length → (w.alloc (.cells (rowL (clampN z) (fun _ => 0)).toArray 67)).cell? ⟨bl, off + i, none⟩ = some (.int .i64 (l.getD i 0)) := fun i hi => by
        rw [World.cell?_alloc_lt _ _ _ hlt]; exact hc i hi
      have hA := add_row w.heap.size (clampN z) 0 bl off cap l _ hle (Nat.two_pow_pos _) hrow (by omega) hlen hc'
      have hlt2 : (addS (clampN z) 0 l).1 < 2 ^ clampN z := addS_lt _ _ _ (Nat.two_pow_pos _)
      refine (of_core z _ (addS (clampN z) 0 l).2 (wd (addS (clampN z) 0 l).1) _ w rfl (hA.mono ?_)).mono ?_
      · rintro e w' ⟨rfl, hr, _, hb⟩
        exact ⟨rfl, hr, hb⟩
      · rintro e w' ⟨rfl, hr, hb⟩
        exact ⟨rfl, SetM.of hr hle hlt2, hb⟩

end Go.Proofs.YtjijagnpcmonbaaDoor.B

/-
  What Union does.
-/
namespace Go.Proofs.YtjijagnpcmonbaaDoor.B
open Go.RowKit

/-- What a union comes to: each of the others' members that are below the size. -/
def uS (n m : Nat) (L : List (Option Addr × Nat)) : Nat := L.foldl (fun acc e => acc ||| (e.2 &&& (2 ^ n - 1))) m

theorem uS_snoc (n m : Nat) (L : List (Option Addr × Nat)) (k : Nat) (hk : k < L.length) : uS n m (L.take (k + 1)) = uS n m (L.take k) ||| ((L.getD k (none, 0)).2 &&& (2 ^ n - 1)) := by
  unfold uS
  rw [List.take_succ_eq_append_getElem hk, List.foldl_append]
  simp [List.getD, hk]
theorem uS_lt (n m : Nat) (L : List (Option Addr × Nat)) (hm : m < 2 ^ n) : uS n m L < 2 ^ n := by
  unfold uS
  induction L generalizing m with
  | nil => exact hm
  | cons e L ih => rw [List.foldl_cons]; exact ih _ (lt_or hm (lt_and_right (ones_lt n)))

/-- What Count does, with some function for the count. -/
def CountIs (c : Nat → Nat) : Prop := ∀ p n m w, SetM w p n m → Calls Tryd.prog 37 #[.pointer p] w fun e w' => e = .returned (.int .i64 (c m : Nat)) ∧ Below w.heap.size w w'
theorem countIs : CountIs cnt := count_any

/-- What is stored at word i of a union. -/
theorem or_word (a b on i : Nat) : bits BinOp.or IntKind.u64 (wd a i : Int) (bits BinOp.and IntKind.u64 (wd b i : Int) (wd on i : Nat)) = (wd (a ||| (b &&& on)) i : Nat) := by
  have h : wd b i &&& wd on i < 18446744073709551616 := Nat.lt_of_le_of_lt Nat.and_le_left (wd_lt b i)
  rw [bits_and_u64_nat _ _ (wd_lt _ _) (wd_lt _ _), bits_or_u64_nat _ _ (wd_lt _ _) h, wd_or, wd_and]

/-- The words up to k of x, the others of y. -/
def mix (k : Nat) (x y : Nat) (i : Nat) : Nat := if i < k then wd x i else wd y i

theorem RowAt.mixed {w : World} {b n x y k : Nat} (h : RowAt w b n (mix k x y)) (hk : k < 16) : RowAt (w.setCell ⟨b, 1 + k, none⟩ (.int .u64 (wd x k : Nat))) b n (mix (k + 1) x y) :=
  (h.setWord k _ hk).congr fun i _ => by
    unfold mix
    by_cases e : i = k
    · subst e; simp
    · simp only [e, if_false]
      by_cases e2 : i < k
      · rw [if_pos e2, if_pos (by omega)]
      · rw [if_neg e2, if_neg (by omega)]

/-- The pointers of a slice lie where it leads to. -/
def PtrsAt (w : World) (a : Option Addr) (L : List (Option Addr × Nat)) : Prop :=
  L = [] ∨ ∃ b off, a = some ⟨b, off, none⟩ ∧ ∀ i, i < L.length → w.cell? ⟨b, off + i, none⟩ = some (.pointer (L.getD i (none, 0)).1)

/-- What the others of a call on set b are: b itself (which adds nothing), or other sets. -/
def OtherOk (w : World) (b : Nat) (q : Option Addr) (m' : Nat) : Prop :=
  (q = some ⟨b, 0, none⟩ ∧ m' = 0) ∨ (q ≠ some ⟨b, 0, none⟩ ∧ ∃ n', SetM w q n' m')

theorem union_none (b n m : Nat) (c : Nat → Nat) (a : Option Addr) (cap : Nat) (w : World) (hr : RowAt w b n (wd m)) (hn : n ≤ 1024) (hm : m < 2 ^ n) (hC : CountIs c) (hle : ∀ x, c x ≤ 1024) :
    Calls Tryd.prog 24 #[.pointer (some ⟨b, 0, none⟩), .slice a 0 cap] w fun e w' => e = .returned (.int .i64 0) ∧ Below w.heap.size w w' := by
  have HS : Hid (SetM w (some ⟨b, 0, none⟩) n m) := SetM.of hr hn hm
  have l0 := hle m
  clear hr hm hle
  go_enter Tryd.func24, Tryd.ntmps24
  go_wp2_with (go_at_call 37; refine (hC _ n m _ HS.out).mono ?_; rintro e w1 ⟨rfl, hb1⟩)
  have HB1 : Hid (Below w.heap.size w w1) := hb1
  clear hb1
  go_loop [16] (fun i => i = .int .i64 0) (fun _ => 0)
  case atStart => rfl
  case round =>
    subst hrel
    go_wp2_with (go_at_call 37; refine (hC _ n m _ (SetM.keep HS.out HB1.out)).mono ?_; rintro e w2 ⟨rfl, hb2⟩)
    go_ret
    exact ⟨by simp, HB1.out.trans (hb2.mono HB1.out.size)⟩

set_option maxHeartbeats 1000000 in
theorem union_core (b n m bl off cap : Nat) (c : Nat → Nat) (L : List (Option Addr × Nat)) (w : World) (hC : CountIs c) (hle : ∀ x, c x ≤ 1024) (hn : n ≤ 1024) (hm : m < 2 ^ n) (hr : RowAt w b n (wd m)) (hne : bl ≠ b)
    (hlen : L.length < 1152921504606846976) (hlt : bl < w.heap.size)
    (hc : ∀ i, i < L.length → w.cell? ⟨bl, off + i, none⟩ = some (.pointer (L.getD i (none, 0)).1)) (ho : ∀ i, i < L.length → OtherOk w b (L.getD i (none, 0)).1 (L.getD i (none, 0)).2) :
    Calls Tryd.prog 24 #[.pointer (some ⟨b, 0, none⟩), .slice (some ⟨bl, off, none⟩) L.length cap] w fun e w' =>
      e = .returned (.int .i64 ((c (uS n m L) : Int) - c m)) ∧ RowAt w' b n (wd (uS n m L)) ∧ But b w w' := by
  have HC : Hid (∀ i, i < L.length → w.cell? ⟨bl, off + i, none⟩ = some (.pointer (L.getD i (none, 0)).1)) := hc
  have HO : Hid (∀ i, i < L.length → OtherOk w b (L.getD i (none, 0)).1 (L.getD i (none, 0)).2) := ho
  have HR : Hid (RowAt w b n (wd m)) := hr
  have HM : Hid (m < 2 ^ n) := hm
  have HLE : Hid (∀ x, c x ≤ 1024) := hle
  have l0 := hle m
  clear hc ho hr hm hle
  go_enter Tryd.func24, Tryd.ntmps24
  go_wp2_with (go_at_call 37; refine (hC _ n m _ (SetM.of HR.out hn HM.out)).mono ?_; rintro e w1 ⟨rfl, hb1⟩)
  have HR1 : Hid (RowAt w1 b n (wd m)) := HR.out.below hb1 HR.out.lt
  have HB1 : Hid (But b w w1) := But.of_below hb1
  clear hb1
  go_loopw [16] (fun i wr => ∃ k : Nat, k ≤ L.length ∧ i = .int .i64 k ∧ RowAt wr b n (wd (uS n m (L.take k))) ∧ But b w wr) (fun i _ => L.length - (intOf i).toNat)
  case atStart => exact ⟨0, Nat.zero_le _, rfl, HR1.out, HB1.out⟩
  case round =>
    obtain ⟨k, hk, rfl, hrow, hbut⟩ := hrel
    by_cases hlt2 : k < L.length
    · have hcell : wr.cell? ⟨bl, off + k, none⟩ = some (.pointer (L.getD k (none, 0)).1) := by
        rw [World.cell?_of_block (w := w) (hbut.block bl hlt hne)]; exact HC.out k hlt2
      have hsn := uS_snoc n m L k hlt2
      have hok := HO.out k hlt2
      have hu3 := uS_lt n m (L.take k) HM.out
      generalize L.getD k (none, 0) = e at hcell hsn hok
      obtain ⟨q, m'⟩ := e
      simp only at hcell hsn hok
      generalize hu : uS n m (L.take k) = u at hsn hrow hu3
      obtain ⟨n2, m2, hS2, hx⟩ : ∃ n2 m2, SetM wr q n2 m2 ∧ u ||| (m2 &&& (2 ^ n - 1)) = u ||| (m' &&& (2 ^ n - 1)) := by
        rcases hok with ⟨rfl, rfl⟩ | ⟨hq, n', hS⟩
        · refine ⟨n, u, SetM.of hrow hn hu3, ?_⟩
          apply Nat.eq_of_testBit_eq
          intro j
          simp only [Nat.testBit_or, Nat.testBit_and, Nat.zero_testBit]
          cases u.testBit j <;> simp
        · exact ⟨n', m', hS.but hbut (fun b' hb' e => hq (by rw [hb', e])), rfl⟩
      have hV := value_any q n2 m2 wr hS2
      have HROW : Hid (RowAt wr b n (wd u)) := hrow
      have HBUT : Hid (But b w wr) := hbut
      have hbel : ∀ i : Nat, i < 16 → ∀ w, Calls Tryd.prog 39 #[.int .i64 n, .int .i64 i] w fun e w' => e = .returned (.int .u64 ((wd (2 ^ n - 1) i : Nat) : Int)) ∧ w' = w := fun i hi w => below_any n i hn hi w
      generalize 2 ^ n - 1 = on at hbel hsn hx
      have HBEL : Hid (∀ i : Nat, i < 16 → ∀ w, Calls Tryd.prog 39 #[.int .i64 n, .int .i64 i] w fun e w' => e = .returned (.int .u64 ((wd on i : Nat) : Int)) ∧ w' = w) := hbel
      obtain ⟨x, hxe⟩ : ∃ x, x = u ||| (m2 &&& on) := ⟨_, rfl⟩
      have HX : Hid (uS n m (L.take (k + 1)) = x) := by show _ = _; rw [hxe, hx]; exact hsn
      have HOW : Hid (∀ i, bits BinOp.or IntKind.u64 (wd u i : Int) (bits BinOp.and IntKind.u64 (wd m2 i : Int) (wd on i : Nat)) = (wd x i : Nat)) := fun i => by rw [hxe]; exact or_word u m2 on i
      have hf := fun w' => run_words n2 (wd m2) w'
      clear hrow hbut hbel hsn hx hok hS2 hu hu3 hxe
      go_wp2_with (go_at_call 38; refine hV.mono ?_; clear hV; rintro e w2 ⟨rfl, hb2⟩)
      have HROW2 : Hid (RowAt w2 b n (wd u)) := HROW.out.below hb2 HROW.out.lt
      have HBUT2 : Hid (But b w w2) := HBUT.out.trans (But.of_below hb2)
      clear hb2 hf hcell
      go_loopw [23] (fun j wr2 => ∃ k2 : Nat, k2 ≤ 16 ∧ j = .int .i64 k2 ∧ RowAt wr2 b n (mix k2 x u) ∧ But b w wr2) (fun j _ => 16 - (intOf j).toNat)
      case atStart => exact ⟨0, by omega, rfl, HROW2.out.congr (fun i _ => by simp [mix]), HBUT2.out⟩
      case round =>
        obtain ⟨k2, hk2, rfl, hrow3, hbut3⟩ := hrel
        by_cases hlt3 : k2 < 16
        · have hi := fun w' => run_word (wd m2) k2 hlt3 w'
          have how := HOW.out k2
          have hw := hrow3.word k2 hlt3
          rw [show mix k2 x u k2 = wd u k2 by simp [mix]] at hw
          have hsz := hrow3.size
          have hfz := hrow3.free (1 + k2)
          have hki : (k2 : Int) < 16 := by omega
          have HROW3 : Hid (RowAt wr b n (mix k2 x u)) := hrow3
          have HBUT3 : Hid (But b w wr) := hbut3
          clear hrow3 hbut3
          go_wp2_with fail
          go_region_with (go_at_call 39; refine (HBEL.out k2 hlt3 _).mono ?_; rintro e w' ⟨rfl, rfl⟩)
          all_goals go_wp2
          all_goals go_roundw
          all_goals first
            | exact ⟨k2 + 1, by omega, by go_num, RowAt.mixed HROW3.out hlt3, (But.drew HBUT3.out).setCell _ _⟩
            | (simp [intOf]; omega)
        · have e16 : k2 = 16 := by omega
          subst e16
          have hrow4 : RowAt wr b n (wd x) := hrow3.congr (fun i hi => by simp [mix, hi])
          have HROW3 : Hid (RowAt wr b n (wd x)) := hrow4
          have HBUT3 : Hid (But b w wr) := hbut3
          clear hrow3 hbut3 hrow4
          go_wp2_with fail
          go_roundw
          case rel => exact ⟨k + 1, by omega, by go_num, by rw [HX.out]; exact HROW3.out, HBUT3.out⟩
          case measure => simp [intOf]; omega
    · have : k = L.length := by omega
      subst this
      rw [List.take_length] at *
      have hlt3 := uS_lt n m L HM.out
      have l1 := HLE.out (uS n m L)
      generalize hu : uS n m L = u at hrow hlt3 l1
      have HU : Hid (uS n m L = u) := hu
      clear hu
      have HROW : Hid (RowAt wr b n (wd u)) := hrow
      have HBUT : Hid (But b w wr) := hbut
      have HLT3 : Hid (u < 2 ^ n) := hlt3
      clear hrow hbut hlt3
      go_wp2_with (go_at_call 37; refine (hC _ n u _ (SetM.of HROW.out hn HLT3.out)).mono ?_; rintro e w2 ⟨rfl, hb2⟩)
      go_ret
      rw [HU.out]
      exact ⟨rfl, HROW.out.below hb2 HROW.out.lt, HBUT.out.trans (But.of_below hb2)⟩

end Go.Proofs.YtjijagnpcmonbaaDoor.B
