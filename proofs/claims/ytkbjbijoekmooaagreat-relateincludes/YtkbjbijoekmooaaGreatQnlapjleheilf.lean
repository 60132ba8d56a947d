import Derived.Test.YtkbjbijoekmooaaGreatQklanhafgjoem
import Derived.Test.YtkbjbijoekmooaaGreatQoedpndjniglm
import Derived.Test.YtkbjbijoekmooaaGreatQbnkpopjandco
import Derived.Test.YtkbjbijoekmooaaGreatQdkabjhppobfo

/-
  first: sets and what is found, in memory.
-/
namespace Go.Proofs.YtkbjbijoekmooaaGreat
open Go.RowKit Go.Maps Go.Shelf

/-- One member more. -/
theorem add_one (b n m bl : Nat) (x : Int) (w : World) (hS : B.SetM w (some ⟨b, 0, none⟩) n m) (hne : bl ≠ b) (hl : w.cell? ⟨bl, 0, none⟩ = some (.int .i64 x)) :
    Calls Tryz.prog 126 #[.pointer (some ⟨b, 0, none⟩), .slice (some ⟨bl, 0, none⟩) 1 1] w fun e w' => e = .returned (.int .i64 ((B.addS n m [x]).2 : Nat)) ∧ B.SetM w' (some ⟨b, 0, none⟩) n (B.addS n m [x]).1 ∧ w.grownBy w' (some b) := by
  have h1 : ∀ i, i < [x].length → w.cell? ⟨bl, 0 + i, none⟩ = some (.int .i64 ([x].getD i 0)) := fun i hi => by
    have : i = 0 := by simpa using hi
    subst this
    exact hl
  refine Calls.mono (B.add_row b n m bl 0 1 [x] w hS.1 hS.2.1 (SetM_row hS) hne (by simp) h1) ?_
  rintro e w' ⟨he, hr, hlt, hb⟩
  exact ⟨he, B.SetM.of hr hS.1 hlt, hb.os, hb.tape, hb.output, hb.size, fun k hk hne => hb.block k hk (by simpa using hne)⟩

/-- Of what was there, blocks from lo on below hi alone may have turned. -/
structure Outside (lo hi : Nat) (X Y : World) : Prop where
  os : Y.os = X.os
  tape : Y.tape = X.tape
  output : Y.output = X.output
  size : X.heap.size ≤ Y.heap.size
  block : ∀ j, j < X.heap.size → (j < lo ∨ hi ≤ j) → Y.heap[j]? = X.heap[j]?
theorem Outside.kept {lo hi : Nat} {X Y Z : World} (h : Outside lo hi X Y) (hg : Y.grownBy Z none) : Outside lo hi X Z :=
  ⟨hg.os.trans h.os, hg.tape.trans h.tape, hg.output.trans h.output, Nat.le_trans h.size hg.size, fun j hj ho => (hg.block j (Nat.lt_of_lt_of_le hj h.size) (by simp)).trans (h.block j hj ho)⟩
theorem Outside.at {lo hi b : Nat} {X Y Z : World} (h : Outside lo hi X Y) (hg : Y.grownBy Z (some b)) (h1 : lo ≤ b) (h2 : b < hi) : Outside lo hi X Z :=
  ⟨hg.os.trans h.os, hg.tape.trans h.tape, hg.output.trans h.output, Nat.le_trans h.size hg.size, fun j hj ho => (hg.block j (Nat.lt_of_lt_of_le hj h.size) (by simp; omega)).trans (h.block j hj ho)⟩
theorem Outside.grown {lo hi : Nat} {w X Y : World} (h : Outside lo hi X Y) (hw : w.grownBy X none) (hl : w.heap.size ≤ lo) : w.grownBy Y none :=
  ⟨h.os.trans hw.os, h.tape.trans hw.tape, h.output.trans hw.output, Nat.le_trans hw.size h.size, fun j hj _ => (h.block j (Nat.lt_of_lt_of_le hj hw.size) (.inl (by omega))).trans (hw.block j hj (by simp))⟩

/-- A union with one other of the same size. -/
theorem union_in (b c n m s bl : Nat) (w : World) (hm : B.SetM w (some ⟨b, 0, none⟩) n m) (hs : B.SetM w (some ⟨c, 0, none⟩) n s) (hne : c ≠ b) (hnl : bl ≠ b) (hl : w.cell? ⟨bl, 0, none⟩ = some (.pointer (some ⟨c, 0, none⟩))) :
    Calls Tryz.prog 128 #[.pointer (some ⟨b, 0, none⟩), .slice (some ⟨bl, 0, none⟩) 1 1] w fun e w' =>
      e = .returned (.int .i64 (((B.cnt (m ||| s) : Nat) : Int) - (B.cnt m : Nat))) ∧ B.SetM w' (some ⟨b, 0, none⟩) n (m ||| s) ∧ w.grownBy w' (some b) := by
  have e : s &&& (2 ^ n - 1) = s := by rw [Nat.and_two_pow_sub_one_eq_mod]; exact Nat.mod_eq_of_lt hs.2.1
  exact union_one b c n m s bl w hm hs hne hnl hl _ (by rw [e]) _ (by rw [e])

theorem addS_one {n m i : Nat} (hi : i < n) : B.addS n m [(i : Int)] = if m.testBit i = true then (m, 0) else (m ||| 2 ^ i, 1) := by
  have h1 : B.inB n (i : Int) = true := by simp [B.inB, hi]
  have h2 : B.hasB m (i : Int) = m.testBit i := by simp [B.hasB]
  show B.addStep n (m, 0) (i : Int) = _
  unfold B.addStep
  rw [h1]
  simp only [h2, Bool.true_and, Int.toNat_natCast]
  cases m.testBit i <;> rfl
theorem or_bit_same {m i : Nat} (h : m.testBit i = true) : m ||| 2 ^ i = m := by
  apply Nat.eq_of_testBit_eq
  intro j
  rw [Nat.testBit_or, Nat.testBit_two_pow]
  by_cases e : i = j
  · subst e; simp [h]
  · simp [e]
/-- One member below the size more. -/
theorem add_in (b n m bl i : Nat) (hi : i < n) (w : World) (hS : B.SetM w (some ⟨b, 0, none⟩) n m) (hne : bl ≠ b) (hl : w.cell? ⟨bl, 0, none⟩ = some (.int .i64 (i : Int))) :
    Calls Tryz.prog 126 #[.pointer (some ⟨b, 0, none⟩), .slice (some ⟨bl, 0, none⟩) 1 1] w fun e w' => e = .returned (.int .i64 ((if m.testBit i = true then 0 else 1 : Nat) : Int)) ∧ B.SetM w' (some ⟨b, 0, none⟩) n (m ||| 2 ^ i) ∧ w.grownBy w' (some b) := by
  refine (add_one b n m bl (i : Int) w hS hne hl).mono ?_
  rintro e w' ⟨rfl, h2, h3⟩
  rw [addS_one hi] at h2 ⊢
  cases h : m.testBit i with
  | true => rw [h] at h2; exact ⟨rfl, by rw [or_bit_same h]; exact h2, h3⟩
  | false => rw [h] at h2; exact ⟨rfl, h2, h3⟩
theorem cnt_add {m i : Nat} (hi : i < 1024) (h : m.testBit i = false) : B.cnt (m ||| 2 ^ i) = B.cnt m + 1 := by
  have key : ∀ k m, B.pc (k + 1) m = B.pc k m + (if m.testBit k = true then 1 else 0) := by
    intro k m
    rw [← B.mems_length, ← B.mems_length, B.mems_succ, List.length_append]
    cases m.testBit k <;> simp
  have hb : ∀ j, (m ||| 2 ^ i).testBit j = (m.testBit j || decide (i = j)) := fun j => by rw [Nat.testBit_or, Nat.testBit_two_pow]
  have below : ∀ k, k ≤ i → B.pc k (m ||| 2 ^ i) = B.pc k m := by
    intro k
    induction k with
    | zero => intro _; simp [B.pc, B.ds]
    | succ k ih =>
      intro hk
      rw [key, key, ih (by omega), hb]
      have : ¬ i = k := by omega
      simp [this]
  have above : ∀ d, B.pc (i + 1 + d) (m ||| 2 ^ i) = B.pc (i + 1 + d) m + 1 := by
    intro d
    induction d with
    | zero =>
      rw [Nat.add_zero, key, key, below i (Nat.le_refl _), hb, h]
      simp
    | succ d ih =>
      rw [← Nat.add_assoc, key, key, ih, hb]
      have : ¬ i = i + 1 + d := by omega
      simp [this]
      omega
  have := above (1024 - (i + 1))
  rw [show i + 1 + (1024 - (i + 1)) = 1024 by omega] at this
  exact this

/-- What is found, in memory: a row of sets, by symbol, and the set of what vanishes. -/
structure FAt (w : World) (lo hi tn S fb vb : Nat) (f : Nat → Nat) (v : Nat) (m : Nat → Nat) : Prop where
  row : ∀ i, i < S → w.cell? ⟨fb, i, none⟩ = some (.pointer (some ⟨f i, 0, none⟩))
  sets : ∀ i, i < S → B.SetM w (some ⟨f i, 0, none⟩) tn (m i)
  van : B.SetM w (some ⟨vb, 0, none⟩) S v
  rng : (lo ≤ vb ∧ vb < hi) ∧ (lo ≤ fb ∧ fb < hi) ∧ ∀ i, i < S → lo ≤ f i ∧ f i < hi
  inj : ∀ i j, i < S → j < S → f i = f j → i = j
  ne : vb ≠ fb ∧ ∀ i, i < S → f i ≠ vb ∧ f i ≠ fb
section
variable {w w' : World} {lo hi tn S fb vb : Nat} {f : Nat → Nat} {v : Nat} {m : Nat → Nat}
theorem FAt.kept (h : FAt w lo hi tn S fb vb f v m) (hg : w.grownBy w' none) : FAt w' lo hi tn S fb vb f v m :=
  ⟨fun i hi => hg.cell (h.row i hi) (by simp), fun i hi => SetM_kept (h.sets i hi) hg, SetM_kept h.van hg, h.rng, h.inj, h.ne⟩
theorem FAt.other {c : Nat} (h : FAt w lo hi tn S fb vb f v m) (hg : w.grownBy w' (some c)) (hc : c < lo ∨ hi ≤ c) : FAt w' lo hi tn S fb vb f v m :=
  ⟨fun i hi => hg.cell (h.row i hi) (by have := h.rng.2.1; simp; omega), fun i hi => SetM_at (h.sets i hi) hg (by have := h.rng.2.2 i hi; omega), SetM_at h.van hg (by have := h.rng.1; omega), h.rng, h.inj, h.ne⟩
theorem FAt.setB {i y : Nat} (h : FAt w lo hi tn S fb vb f v m) (hiS : i < S) (hg : w.grownBy w' (some (f i))) (hS : B.SetM w' (some ⟨f i, 0, none⟩) tn y) : FAt w' lo hi tn S fb vb f v (upd m i y) :=
  ⟨fun j hj => hg.cell (h.row j hj) (by have := (h.ne.2 i hiS).2; simp; omega), fun j hj => by
    by_cases e : j = i
    · subst e; rw [upd_same]; exact hS
    · rw [upd_other _ _ e]; exact SetM_at (h.sets j hj) hg (fun e2 => e (h.inj j i hj hiS e2)), SetM_at h.van hg (by have := (h.ne.2 i hiS).1; omega), h.rng, h.inj, h.ne⟩
theorem FAt.setV {y : Nat} (h : FAt w lo hi tn S fb vb f v m) (hg : w.grownBy w' (some vb)) (hS : B.SetM w' (some ⟨vb, 0, none⟩) S y) : FAt w' lo hi tn S fb vb f y m :=
  ⟨fun j hj => hg.cell (h.row j hj) (by have := h.ne.1; simp; omega), fun j hj => SetM_at (h.sets j hj) hg (h.ne.2 j hj).1, hS, h.rng, h.inj, h.ne⟩
end

theorem has_in (b n m i : Nat) (w : World) (h : B.SetM w (some ⟨b, 0, none⟩) n m) : Calls Tryz.prog 68 #[.pointer (some ⟨b, 0, none⟩), .int .i64 (i : Int)] w fun e w' => e = .returned (.bool (m.testBit i)) ∧ w.grownBy w' none := by
  refine (B.has_any _ n m (i : Int) w h).mono ?_
  rintro e w' ⟨rfl, k, rfl⟩
  exact ⟨by simp [B.hasB], grown_drewN _ _⟩

end Go.Proofs.YtkbjbijoekmooaaGreat

/-
  first: what a row begins with, as far as is found (ofRow), and add.
-/
namespace Go.Proofs.YtkbjbijoekmooaaGreat
open Go.RowKit Go.Maps Go.Shelf

attribute [local go_sem] Oper.semAt_some

theorem boxKept {X Y : World} {b : Nat} {o : Obj} (h : X.heap[b]? = some o) (hg : X.grownBy Y none) : Hid (Y.heap[b]? = some o) := (hg.block b (Array.getElem?_eq_some_iff.1 h).1 (by simp)).trans h

/-- The box of found, and what it holds. -/
structure FB (w X : World) (fb0 : Nat) (lo hi tn S fb vb : Nat) (f : Nat → Nat) (v : Nat) (m : Nat → Nat) : Prop where
  grown : w.grownBy X none
  box : X.heap[fb0]? = some (.cells #[.int .i64 (tn : Int), .pointer (some ⟨vb, 0, none⟩), .slice (some ⟨fb, 0, none⟩) S S] 126 (0, 0))
  fat : FAt X lo hi tn S fb vb f v m
section
variable {w X Y : World} {fb0 lo hi tn S fb vb : Nat} {f : Nat → Nat} {v : Nat} {m : Nat → Nat}
theorem FB.kept (h : FB w X fb0 lo hi tn S fb vb f v m) (hg : X.grownBy Y none) : FB w Y fb0 lo hi tn S fb vb f v m := ⟨grown_trans h.grown hg, (boxKept h.box hg).out, h.fat.kept hg⟩
theorem FB.cells (h : FB w X fb0 lo hi tn S fb vb f v m) : X.cell? ⟨fb0, 0, none⟩ = some (.int .i64 (tn : Int)) ∧ X.cell? ⟨fb0, 1, none⟩ = some (.pointer (some ⟨vb, 0, none⟩)) ∧ X.cell? ⟨fb0, 2, none⟩ = some (.slice (some ⟨fb, 0, none⟩) S S) := by
  refine ⟨?_, ?_, ?_⟩ <;> rw [cell_of_row _ _ _ _ _ _ h.box] <;> rfl
end

theorem rowM_take {v : Nat} {m : Nat → Nat} {l : List Int} {k : Nat} (hk : k < l.length) (hv : rowV v (l.take k) = true) : rowM v m (l.take (k + 1)) = rowM v m (l.take k) ||| m (l.getD k 0).toNat := by
  rw [List.take_add_one, List.getElem?_eq_getElem hk, Option.toList_some, rowM_append, if_pos hv]
  have e : l.getD k 0 = l[k] := by rw [List.getD_eq_getElem?_getD, List.getElem?_eq_getElem hk]; rfl
  rw [e]
  simp [rowM]
theorem rowV_take {v : Nat} {l : List Int} {k : Nat} (hk : k < l.length) : rowV v (l.take (k + 1)) = (rowV v (l.take k) && v.testBit (l.getD k 0).toNat) := by
  rw [List.take_add_one, List.getElem?_eq_getElem hk, Option.toList_some, rowV_append]
  have e : l.getD k 0 = l[k] := by rw [List.getD_eq_getElem?_getD, List.getElem?_eq_getElem hk]; rfl
  rw [e]
  simp [rowV]
theorem row_stop {v : Nat} {m : Nat → Nat} {l : List Int} {k : Nat} (hk : k < l.length) (hv : v.testBit (l.getD k 0).toNat = false) : rowV v l = false ∧ rowM v m l = rowM v m (l.take (k + 1)) := by
  have h1 : rowV v (l.take (k + 1)) = false := by rw [rowV_take hk, hv, Bool.and_false]
  have e := List.take_append_drop (k + 1) l
  constructor
  · rw [← e, rowV_append, h1, Bool.false_and]
  · conv => lhs; rw [← e]
    rw [rowM_append, h1]
    simp

set_option maxRecDepth 100000 in
set_option maxHeartbeats 1000000 in
theorem ofRow_any (lo hi tn S fb vb : Nat) (f : Nat → Nat) (v : Nat) (m : Nat → Nat) (a : Option Addr) (cap : Nat) (l : List Int) (w : World) (hF : FAt w lo hi tn S fb vb f v m) (hl : IntsAt w a l) (hlen : l.length ≤ 17592186044416) (hin : ∀ x ∈ l, (0 : Int) ≤ x ∧ x < (S : Int)) (htn : tn ≤ 1024) (hhi : hi ≤ w.heap.size) :
    Calls Tryz.prog 127 #[.agg #[.int .i64 (tn : Int), .pointer (some ⟨vb, 0, none⟩), .slice (some ⟨fb, 0, none⟩) S S], .slice a l.length cap] w fun e w' => ∃ b, e = .returned (.tuple #[.pointer (some ⟨b, 0, none⟩), .bool (rowV v l)]) ∧ w.heap.size ≤ b ∧ B.SetM w' (some ⟨b, 0, none⟩) tn (rowM v m l) ∧ w.grownBy w' none := by
  obtain ⟨n, hn⟩ : ∃ n, n = l.length := ⟨_, rfl⟩
  have HN : Hid (n = l.length) := hn
  rw [← hn] at hlen
  rw [← hn]
  have HB0 : Hid (FB w (w.alloc (.cells #[.int .i64 (tn : Int), .pointer (some ⟨vb, 0, none⟩), .slice (some ⟨fb, 0, none⟩) S S] 126)) w.heap.size lo hi tn S fb vb f v m) := ⟨World.grownBy_alloc _ _ none, heap_alloc_last w _, hF.kept (World.grownBy_alloc _ _ none)⟩
  have HL : Hid (∀ X, w.grownBy X none → IntsAt X a l) := fun X hX => hl.kept hX
  have HIN : Hid (∀ k, k < l.length → (0 : Int) ≤ l.getD k 0 ∧ l.getD k 0 < (S : Int)) := fun k hk => by
    rw [List.getD_eq_getElem?_getD, List.getElem?_eq_getElem hk]; exact hin _ (List.getElem_mem hk)
  have HCL : Hid (B.clampN (tn : Int) = tn) := by show B.clampN (tn : Int) = tn; unfold B.clampN; omega
  have HHI : Hid (hi ≤ w.heap.size) := hhi
  clear hF hl hin hn hhi
  obtain ⟨k0, k1, k2⟩ := HB0.out.cells
  go_enter Tryz.func127, Tryz.ntmps127
  go_wp2_with fail
  refine Calls.mono (B.of_any (tn : Int) none 0 [] _ (.inl rfl) (by decide)) ?_
  rintro e w1 ⟨rfl, hS, hb⟩
  rw [HCL.out] at hS
  have HB1 : Hid (FB w w1 w.heap.size lo hi tn S fb vb f v m) := HB0.out.kept (grown_of_below hb)
  obtain ⟨b, hbe⟩ : ∃ b, b = (w.alloc (.cells #[.int .i64 (tn : Int), .pointer (some ⟨vb, 0, none⟩), .slice (some ⟨fb, 0, none⟩) S S] 126)).heap.size := ⟨_, rfl⟩
  rw [← hbe] at hS
  rw [← hbe]
  have HBS : Hid (w.heap.size < b ∧ b < w1.heap.size ∧ hi ≤ b) := by
    have h3 := SetM_lt hS
    rw [World.size_alloc] at hbe
    exact ⟨by omega, h3, by have := HHI.out; omega⟩
  have HS1 : Hid (B.SetM w1 (some ⟨b, 0, none⟩) tn (rowM v m (l.take 0))) := hS
  clear hb hS hbe k0 k1 k2 HB0
  go_wp2_with fail
  go_loopg [4, 5, 13] n (fun gk u4 u5 i wr => ∃ k : Nat, k ≤ n ∧ gk = n - k ∧ u4 = .pointer (some ⟨b, 0, none⟩) ∧ u5 = .bool false ∧ i = .int .i64 k ∧ rowV v (l.take k) = true ∧ B.SetM wr (some ⟨b, 0, none⟩) tn (rowM v m (l.take k)) ∧ FB w wr w.heap.size lo hi tn S fb vb f v m)
  case atStart => exact ⟨0, Nat.zero_le _, rfl, rfl, rfl, rfl, rfl, HS1.out, HB1.out⟩
  case round =>
    obtain ⟨k, hk, hgk, rfl, rfl, rfl, hv, hS, hB⟩ := hrel
    have HGK : Hid (gk = n - k) := hgk
    have HV : Hid (rowV v (l.take k) = true) := hv
    have HS : Hid (B.SetM wr (some ⟨b, 0, none⟩) tn (rowM v m (l.take k))) := hS
    have HB : Hid (FB w wr w.heap.size lo hi tn S fb vb f v m) := hB
    clear hgk hv hS hB
    by_cases hlt : k < n
    · have hkl : k < l.length := by rw [← HN.out]; exact hlt
      obtain ⟨ab, ao, rfl, hc⟩ : ∃ ab ao, a = some ⟨ab, ao, none⟩ ∧ wr.cell? ⟨ab, ao + k, none⟩ = some (.int .i64 (l.getD k 0)) := by
        rcases HL.out wr HB.out.grown with h | ⟨ab, ao, e, h⟩
        · rw [h] at hkl; cases hkl
        · exact ⟨ab, ao, e, h k hkl⟩
      have hx := HIN.out k hkl
      obtain ⟨x, hxe⟩ : ∃ x : Nat, l.getD k 0 = (x : Int) := ⟨(l.getD k 0).toNat, by omega⟩
      have HX : Hid (l.getD k 0 = (x : Int)) := hxe
      rw [hxe] at hc hx
      have hxS : x < S := by omega
      obtain ⟨k0, k1, k2⟩ := HB.out.cells
      have r0 := HB.out.fat.row x hxS
      have hx0 : (0 : Int) ≤ (x : Int) := by omega
      have hx1 : (x : Int) < (S : Int) := by omega
      have hk0 : (0 : Int) ≤ (k : Int) := by omega
      have hk1 : (k : Int) < (n : Int) := by omega
      have hkd : decide (k < n) = true := decide_eq_true hlt
      have HUN : Hid (Calls Tryz.prog 128 #[.pointer (some ⟨b, 0, none⟩), .slice (some ⟨wr.heap.size, 0, none⟩) 1 1] (wr.alloc (.cells #[.pointer (some ⟨f x, 0, none⟩)] 123)) fun e w' => (∃ z, e = .returned (.int .i64 z)) ∧ B.SetM w' (some ⟨b, 0, none⟩) tn (rowM v m (l.take (k + 1))) ∧ FB w w' w.heap.size lo hi tn S fb vb f v m) := by
        have hg := World.grownBy_alloc wr (.cells #[.pointer (some ⟨f x, 0, none⟩)] 123) none
        have h1 := SetM_kept HS.out hg
        have h2 := HB.out.kept hg
        have h3 := SetM_lt HS.out
        refine (union_in b (f x) tn _ _ wr.heap.size _ h1 (h2.fat.sets x hxS) (by have := h2.fat.rng.2.2 x hxS; have := HBS.out; omega) (by omega) (new_cell wr _ _)).mono ?_
        rintro e w' ⟨rfl, h4, h5⟩
        refine ⟨⟨_, rfl⟩, ?_, ?_⟩
        · rw [rowM_take hkl HV.out, HX.out, Int.toNat_natCast]
          exact h4
        · refine ⟨grown_at h2.grown h5 (Nat.le_of_lt HBS.out.1), (h5.block _ (Array.getElem?_eq_some_iff.1 h2.box).1 (by have := HBS.out; simp; omega)).trans h2.box, h2.fat.other h5 (.inr HBS.out.2.2)⟩
      clear hx hxe
      go_wp2_with fail
      refine Calls.mono HUN.out ?_
      rintro e w2 ⟨⟨z, rfl⟩, hS2, hB2⟩
      have HS2 : Hid (B.SetM w2 (some ⟨b, 0, none⟩) tn (rowM v m (l.take (k + 1)))) := hS2
      have HB2 : Hid (FB w w2 w.heap.size lo hi tn S fb vb f v m) := hB2
      clear hS2 hB2 HUN HS HB k0 k1 k2 r0 hc
      obtain ⟨k0, k1, k2⟩ := HB2.out.cells
      go_wp2_with fail
      refine Calls.mono (has_in vb S v x w2 HB2.out.fat.van) ?_
      rintro e w3 ⟨rfl, hg3⟩
      have HS3 : Hid (B.SetM w3 (some ⟨b, 0, none⟩) tn (rowM v m (l.take (k + 1)))) := SetM_kept HS2.out hg3
      have HB3 : Hid (FB w w3 w.heap.size lo hi tn S fb vb f v m) := HB2.out.kept hg3
      clear hg3 HS2 HB2 k0 k1 k2
      cases hvx : v.testBit x with
      | true =>
        go_wp2_with fail
        go_roundg (n - (k + 1))
        case measure => have := HGK.out; omega
        case rel => exact ⟨k + 1, by omega, rfl, rfl, rfl, by go_num, by rw [rowV_take hkl, HV.out, HX.out, Int.toNat_natCast, hvx]; rfl, HS3.out, HB3.out⟩
      | false =>
        have HST := row_stop (m := m) hkl (show v.testBit (l.getD k 0).toNat = false by rw [HX.out, Int.toNat_natCast]; exact hvx)
        have HST2 : Hid (rowV v l = false ∧ rowM v m l = rowM v m (l.take (k + 1))) := HST
        clear HST
        go_wp2_with fail
        go_ret2
        exact ⟨b, by rw [HST2.out.1]; rfl, Nat.le_of_lt HBS.out.1, by rw [HST2.out.2]; exact HS3.out, HB3.out.grown⟩
    · have hkn : n = k := by omega
      subst hkn
      have hkd : decide (n < n) = false := decide_eq_false (by omega)
      go_wp2_with fail
      go_ret2
      have e : l.take n = l := by rw [HN.out]; exact List.take_length
      have h1 := HV.out
      have h2 := HS.out
      rw [e] at h1 h2
      exact ⟨b, by rw [h1]; rfl, Nat.le_of_lt HBS.out.1, h2, HB.out.grown⟩

end Go.Proofs.YtkbjbijoekmooaaGreat

/-
  first: add: a nonterminal is let have what a row has.
-/
namespace Go.Proofs.YtkbjbijoekmooaaGreat
open Go.RowKit Go.Maps Go.Shelf

attribute [local go_sem] Oper.semAt_some

/-- What is found behind a step. -/
def stV (v x : Nat) (l : List Int) : Nat := if rowV v l = true then v ||| 2 ^ x else v
def stB (v : Nat) (m : Nat → Nat) (x : Nat) (l : List Int) : Nat → Nat := upd m x (m x ||| rowM v m l)

theorem tot_step {S v x : Nat} {m : Nat → Nat} {l : List Int} (hx : x < S) (hS : S ≤ 1024) : tot S (stV v x l) (stB v m x l) = tot S v m + (B.cnt (m x ||| rowM v m l) - B.cnt (m x)) + (if rowV v l = true then (if v.testBit x = true then 0 else 1) else 0) := by
  have h1 := sumC_upd m x (m x ||| rowM v m l) S hx
  have h2 := cnt_or (m x) (rowM v m l)
  unfold tot stB stV
  cases hv : rowV v l with
  | false => simp; omega
  | true =>
    simp only [if_true]
    cases hb : v.testBit x with
    | true => rw [or_bit_same hb]; simp; omega
    | false => rw [cnt_add (by omega) hb]; simp; omega
theorem step_none {S v x tn : Nat} {m : Nat → Nat} {l : List Int} (hx : x < S) (hS : S ≤ 1024) (ht : tn ≤ 1024) (hm : rowM v m l < 2 ^ tn) (h : tot S (stV v x l) (stB v m x l) = tot S v m) : stV v x l = v ∧ stB v m x l = m ∧ (rowV v l = true → v.testBit x = true) ∧ ∀ t : Nat, (rowM v m l).testBit t = true → (m x).testBit t = true := by
  rw [tot_step hx hS] at h
  have h2 := cnt_or (m x) (rowM v m l)
  have e1 : m x ||| rowM v m l = m x := cnt_or_same ht hm (by omega)
  have e2 : rowV v l = true → v.testBit x = true := fun hv => by
    rw [if_pos hv] at h
    cases hb : v.testBit x with
    | true => rfl
    | false => rw [hb, if_neg (by decide)] at h; omega
  refine ⟨?_, ?_, e2, fun t ht => ?_⟩
  · unfold stV
    split
    · rename_i hv; exact or_bit_same (e2 hv)
    · rfl
  · unfold stB
    rw [e1]
    funext j
    unfold upd
    split
    · rename_i e; rw [e]
    · rfl
  · rw [← e1, Nat.testBit_or, ht, Bool.or_true]

set_option maxRecDepth 100000 in
set_option maxHeartbeats 1000000 in
theorem addF_any (lo hi tn S fb vb x : Nat) (f : Nat → Nat) (v : Nat) (m : Nat → Nat) (a : Option Addr) (cap : Nat) (l : List Int) (w : World) (hF : FAt w lo hi tn S fb vb f v m) (hl : IntsAt w a l) (hlen : l.length ≤ 17592186044416) (hin : ∀ y ∈ l, (0 : Int) ≤ y ∧ y < (S : Int)) (htn : tn ≤ 1024) (hS : S ≤ 1024) (hhi : hi ≤ w.heap.size) (hx : x < S) :
    Calls Tryz.prog 100 #[.agg #[.int .i64 (tn : Int), .pointer (some ⟨vb, 0, none⟩), .slice (some ⟨fb, 0, none⟩) S S], .int .i64 (x : Int), .slice a l.length cap] w fun e w' => ∃ z : Nat, e = .returned (.int .i64 (z : Int)) ∧ FAt w' lo hi tn S fb vb f (stV v x l) (stB v m x l) ∧ tot S (stV v x l) (stB v m x l) = tot S v m + z ∧ Outside lo hi w w' := by
  have HB0 : Hid (FB w (w.alloc (.cells #[.int .i64 (tn : Int), .pointer (some ⟨vb, 0, none⟩), .slice (some ⟨fb, 0, none⟩) S S] 126)) w.heap.size lo hi tn S fb vb f v m) := ⟨World.grownBy_alloc _ _ none, heap_alloc_last w _, hF.kept (World.grownBy_alloc _ _ none)⟩
  have HOR : Hid (∀ X, FB w X w.heap.size lo hi tn S fb vb f v m → Calls Tryz.prog 127 #[.agg #[.int .i64 (tn : Int), .pointer (some ⟨vb, 0, none⟩), .slice (some ⟨fb, 0, none⟩) S S], .slice a l.length cap] X fun e w' => ∃ b, e = .returned (.tuple #[.pointer (some ⟨b, 0, none⟩), .bool (rowV v l)]) ∧ X.heap.size ≤ b ∧ B.SetM w' (some ⟨b, 0, none⟩) tn (rowM v m l) ∧ X.grownBy w' none) := fun X hX => ofRow_any lo hi tn S fb vb f v m a cap l X hX.fat (hl.kept hX.grown) hlen hin htn (Nat.le_trans hhi hX.grown.size)
  have HT := show Hid _ from tot_step (v := v) (m := m) (l := l) hx hS
  obtain ⟨n, hn⟩ : ∃ n, n = l.length := ⟨_, rfl⟩
  rw [← hn] at HOR ⊢
  obtain ⟨r, hr⟩ : ∃ r, r = rowV v l := ⟨_, rfl⟩
  have HR : Hid (r = rowV v l) := hr
  rw [← hr] at HOR
  have HHI : Hid (hi ≤ w.heap.size) := hhi
  clear hF hl hin hlen hn hr hhi
  obtain ⟨k0, k1, k2⟩ := HB0.out.cells
  go_enter Tryz.func100, Tryz.ntmps100
  go_wp2_with fail
  refine Calls.mono (HOR.out _ HB0.out) ?_
  rintro e w1 ⟨b, rfl, hb, hS1, hg1⟩
  have HB1 : Hid (FB w w1 w.heap.size lo hi tn S fb vb f v m) := HB0.out.kept hg1
  have HBB : Hid (w.heap.size < b) := by
    show _ < _
    rw [World.size_alloc] at hb; omega
  have HS1 : Hid (B.SetM w1 (some ⟨b, 0, none⟩) tn (rowM v m l)) := hS1
  clear hb hS1 hg1 HB0 k0 k1 k2
  obtain ⟨k0, k1, k2⟩ := HB1.out.cells
  have r0 := HB1.out.fat.row x hx
  have hx0 : (0 : Int) ≤ (x : Int) := by omega
  have hx1 : (x : Int) < (S : Int) := by omega
  obtain ⟨z1, hz1⟩ : ∃ z : Nat, z = B.cnt (m x ||| rowM v m l) - B.cnt (m x) := ⟨_, rfl⟩
  have hz1b : z1 ≤ 1024 := by have := cnt_le (m x ||| rowM v m l); omega
  have HZ1 : Hid (((B.cnt (m x ||| rowM v m l) : Nat) : Int) - (B.cnt (m x) : Nat) = (z1 : Int) ∧ z1 = B.cnt (m x ||| rowM v m l) - B.cnt (m x)) := ⟨by have := cnt_or (m x) (rowM v m l); omega, hz1⟩
  clear hz1
  have HUN : Hid (Calls Tryz.prog 128 #[.pointer (some ⟨f x, 0, none⟩), .slice (some ⟨w1.heap.size, 0, none⟩) 1 1] (w1.alloc (.cells #[.pointer (some ⟨b, 0, none⟩)] 123)) fun e w' => e = .returned (.int .i64 (z1 : Int)) ∧ FAt w' lo hi tn S fb vb f v (stB v m x l) ∧ Outside lo hi w w' ∧ w'.heap[w.heap.size]? = some (.cells #[.int .i64 (tn : Int), .pointer (some ⟨vb, 0, none⟩), .slice (some ⟨fb, 0, none⟩) S S] 126 (0, 0))) := by
    have hg := World.grownBy_alloc w1 (.cells #[.pointer (some ⟨b, 0, none⟩)] 123) none
    have h2 := HB1.out.kept hg
    have h3 := h2.fat.rng.2.2 x hx
    have h4 := HHI.out
    have h6 := SetM_lt HS1.out
    have h7 := h2.grown.size
    refine (union_in (f x) b tn _ _ w1.heap.size _ (h2.fat.sets x hx) (SetM_kept HS1.out hg) (by have := HBB.out; omega) (by have := HB1.out.grown.size; omega) (new_cell w1 _ _)).mono ?_
    rintro e w' ⟨rfl, h8, h9⟩
    refine ⟨by rw [HZ1.out.1], h2.fat.setB hx h9 h8, ?_, (h9.block _ (Array.getElem?_eq_some_iff.1 h2.box).1 (by simp; omega)).trans h2.box⟩
    exact Outside.at ⟨h2.grown.os, h2.grown.tape, h2.grown.output, h2.grown.size, fun j hj _ => h2.grown.block j hj (by simp)⟩ h9 h3.1 h3.2
  go_wp2_with fail
  refine Calls.mono HUN.out ?_
  rintro e w2 ⟨rfl, hF2, hO2, hbx2⟩
  have HF2 : Hid (FAt w2 lo hi tn S fb vb f v (stB v m x l)) := hF2
  have HO2 : Hid (Outside lo hi w w2) := hO2
  clear HUN k0 k1 k2 r0 hF2 hO2 HS1
  have k1 : w2.cell? ⟨w.heap.size, 1, none⟩ = some (.pointer (some ⟨vb, 0, none⟩)) := by rw [cell_of_row _ _ _ _ _ _ hbx2]; rfl
  clear hbx2
  cases r with
  | false =>
    go_wp2_with fail
    go_ret
    refine ⟨z1, rfl, ?_, ?_, HO2.out⟩
    · have e1 : stV v x l = v := by unfold stV; rw [← HR.out]; rfl
      rw [e1]; exact HF2.out
    · have := HT.out
      rw [← HR.out, ← HZ1.out.2] at this
      simpa using this
  | true =>
    obtain ⟨z2, hz2⟩ : ∃ z : Nat, z = if v.testBit x = true then 0 else 1 := ⟨_, rfl⟩
    have hz2b : z2 ≤ 1 := by rw [hz2]; split <;> omega
    have HZ2 : Hid (z2 = if v.testBit x = true then 0 else 1) := hz2
    have HAD : Hid (Calls Tryz.prog 126 #[.pointer (some ⟨vb, 0, none⟩), .slice (some ⟨w2.heap.size, 0, none⟩) 1 1] (w2.alloc (.cells #[.int .i64 (x : Int)] 3)) fun e w' => e = .returned (.int .i64 (z2 : Int)) ∧ FAt w' lo hi tn S fb vb f (stV v x l) (stB v m x l) ∧ Outside lo hi w w') := by
      have hg := World.grownBy_alloc w2 (.cells #[.int .i64 (x : Int)] 3) none
      have h1 := HF2.out.kept hg
      have h2 := SetM_lt HF2.out.van
      refine (add_in vb S v w2.heap.size x hx _ h1.van (by omega) (new_cell w2 _ _)).mono ?_
      rintro e w' ⟨rfl, h8, h9⟩
      have e1 : stV v x l = v ||| 2 ^ x := by unfold stV; rw [← HR.out]; rfl
      refine ⟨by rw [hz2], by rw [e1]; exact h1.setV h9 h8, ?_⟩
      exact (HO2.out.kept hg).at h9 h1.rng.1.1 h1.rng.1.2
    clear hz2
    go_wp2_with fail
    refine Calls.mono HAD.out ?_
    rintro e w3 ⟨rfl, hF3, hO3⟩
    have HF3 : Hid (FAt w3 lo hi tn S fb vb f (stV v x l) (stB v m x l)) := hF3
    have HO3 : Hid (Outside lo hi w w3) := hO3
    clear HAD hF3 hO3
    go_wp2_with fail
    go_ret
    refine ⟨z1 + z2, by first | rfl | (go_num), HF3.out, ?_, HO3.out⟩
    have := HT.out
    rw [← HR.out, ← HZ1.out.2] at this
    simp only [if_true] at this
    rw [← HZ2.out] at this
    omega

end Go.Proofs.YtkbjbijoekmooaaGreat

/-
  first: unlike: the symbols of a row, each where it stands first.
-/
namespace Go.Proofs.YtkbjbijoekmooaaGreat
open Go.RowKit Go.Maps Go.Shelf

attribute [local go_sem] Oper.semAt_some

theorem symbols_at (ta na la pa : Option Addr) (tn nn ln n tc nc lc pc S : Nat) (st : Int) (w : World) (hS : S = tn + nn) (hz : S ≤ 1024) :
    Calls Tryz.prog 125 #[.agg #[.slice ta tn tc, .slice na nn nc, .slice la ln lc, .int .i64 st, .slice pa n pc]] w fun e w' => e = .returned (.int .i64 (S : Int)) ∧ w.grownBy w' none := by
  have hz1 : tn + nn ≤ 1024 := by omega
  have HS : Hid ((S : Int) = (tn : Int) + (nn : Int)) := by show (S : Int) = (tn : Int) + (nn : Int); omega
  clear hS hz
  go_enter Tryz.func125, Tryz.ntmps125
  go_wp2_with fail
  go_ret
  exact ⟨by rw [HS.out]; rfl, World.grownBy_alloc _ _ none⟩

theorem infoIntK : (Tryz.prog.info? 3).map (fun i => (i.zero, i.size, i.bytes)) = some (some (.int .i64 0), 1, 8) := by kernel_rfl

/-- While unlike goes over a row. -/
structure UlAt (w wr : World) (sb S M : Nat) (v : Value) (u : List Int) : Prop where
  grown : w.grownBy wr none
  set : B.SetM wr (some ⟨sb, 0, none⟩) S M
  lo : w.heap.size ≤ sb
  own : wr.ownsRow (sb + 1) 3 1 v u.length (u.map (Value.int .i64))
theorem UlAt.kept {w wr y : World} {sb S M : Nat} {v : Value} {u : List Int} (h : UlAt w wr sb S M v u) (hg : wr.grownBy y none) : UlAt w y sb S M v u := ⟨grown_trans h.grown hg, SetM_kept h.set hg, h.lo, keep0 h.own hg⟩
theorem UlAt.add {w wr y : World} {sb S M M' : Nat} {v : Value} {u : List Int} (h : UlAt w wr sb S M v u) (hg : wr.grownBy y (some sb)) (hS : B.SetM y (some ⟨sb, 0, none⟩) S M') : UlAt w y sb S M' v u :=
  ⟨grown_at h.grown hg h.lo, hS, h.lo, h.own.kept hg (by
    cases hv : v.ownBlock with
    | none => exact .inl rfl
    | some q => exact .inr (by have := (h.own.lt q hv).1; simp; omega))⟩
theorem UlAt.push {w wr y : World} {sb S M : Nat} {v v' : Value} {u u' : List Int} (h : UlAt w wr sb S M v u) (hg : wr.grownBy y v.ownBlock) (ho : y.ownsRow (sb + 1) 3 1 v' u'.length (u'.map (Value.int .i64))) : UlAt w y sb S M v' u' := by
  have hlo := h.lo
  cases hv : v.ownBlock with
  | none =>
    rw [hv] at hg
    exact ⟨grown_trans h.grown hg, SetM_kept h.set hg, h.lo, ho⟩
  | some q =>
    rw [hv] at hg
    have hq := (h.own.lt q hv).1
    exact ⟨grown_at h.grown hg (by omega), SetM_at h.set hg (by omega), h.lo, ho⟩

theorem contains_bit {M S x : Nat} {u : List Int} (hx : x < S) (hM : ∀ i : Nat, M.testBit i = (decide (i < S) && u.contains (i : Int))) : M.testBit x = u.contains (x : Int) := by rw [hM]; simp [hx]
theorem contains_snoc {M S x : Nat} {u : List Int} (hx : x < S) (hM : ∀ i : Nat, M.testBit i = (decide (i < S) && u.contains (i : Int))) : ∀ i : Nat, (M ||| 2 ^ x).testBit i = (decide (i < S) && (u ++ [(x : Int)]).contains (i : Int)) := fun i => by
  rw [Nat.testBit_or, hM, Nat.testBit_two_pow]
  by_cases e : x = i
  · subst e; simp [hx]
  · have e2 : ¬ ((i : Int) = (x : Int)) := by omega
    simp [e, e2]
/-- The answer of unlike. -/
def UnlTold (l : List Int) (w : World) (e : Ending) (y : World) : Prop :=
  ∃ a c, e = .returned (.slice a (unl l).length c) ∧ y.ownsRow w.heap.size 3 1 (.slice a (unl l).length c) (unl l).length ((unl l).map (Value.int .i64)) ∧ w.grownBy y none

set_option maxRecDepth 100000 in
set_option maxHeartbeats 1000000 in
theorem unlike_any (ta na la pa a : Option Addr) (tn nn ln pn tc nc lc pc cap S : Nat) (st : Int) (l : List Int) (w : World) (hS : S = tn + nn) (hz : S ≤ 1024) (hl : IntsAt w a l) (hlen : l.length ≤ 17592186044416) (hin : ∀ x ∈ l, (0 : Int) ≤ x ∧ x < (S : Int)) :
    Calls Tryz.prog 99 #[.agg #[.slice ta tn tc, .slice na nn nc, .slice la ln lc, .int .i64 st, .slice pa pn pc], .slice a l.length cap] w fun e y => UnlTold l w e y := by
  obtain ⟨n, hn⟩ : ∃ n, n = l.length := ⟨_, rfl⟩
  have HN : Hid (n = l.length) := hn
  rw [← hn] at hlen
  rw [← hn]
  have HL : Hid (∀ X, w.grownBy X none → IntsAt X a l) := fun X hX => hl.kept hX
  have HIN : Hid (∀ k, k < l.length → (0 : Int) ≤ l.getD k 0 ∧ l.getD k 0 < (S : Int)) := fun k hk => by
    rw [List.getD_eq_getElem?_getD, List.getElem?_eq_getElem hk]; exact hin _ (List.getElem_mem hk)
  have HCL : Hid (B.clampN (S : Int) = S) := by show B.clampN (S : Int) = S; unfold B.clampN; omega
  have HSY : Hid (∀ X, Calls Tryz.prog 125 #[.agg #[.slice ta tn tc, .slice na nn nc, .slice la ln lc, .int .i64 st, .slice pa pn pc]] X fun e w' => e = .returned (.int .i64 (S : Int)) ∧ X.grownBy w' none) := fun X => symbols_at ta na la pa tn nn ln pn tc nc lc pc S st X hS hz
  have HG0 : Hid (w.grownBy (w.alloc (.cells #[.slice ta tn tc, .slice na nn nc, .slice la ln lc, .int .i64 st, .slice pa pn pc] 27)) none) := World.grownBy_alloc _ _ none
  obtain ⟨i0, hi0, hz0, hz1, hz2⟩ := info_parts infoIntK
  clear hl hin hn hS
  go_enter Tryz.func99, Tryz.ntmps99
  go_wp2_with fail
  refine Calls.mono (HSY.out _) ?_
  rintro e w1 ⟨rfl, hg1⟩
  have HG1 : Hid (w.grownBy w1 none) := grown_trans HG0.out hg1
  clear hg1 HG0
  go_wp2_with fail
  refine Calls.mono (B.of_any (S : Int) none 0 [] _ (.inl rfl) (by decide)) ?_
  rintro e w2 ⟨rfl, hS2, hb2⟩
  rw [HCL.out] at hS2
  obtain ⟨sb, hsb⟩ : ∃ b, b = w1.heap.size := ⟨_, rfl⟩
  rw [← hsb] at hS2
  rw [← hsb]
  have HU2 : Hid (UlAt w w2 sb S 0 (.slice none 0 0) (unl (l.take 0))) := ⟨grown_trans HG1.out (grown_of_below hb2), hS2, by rw [hsb]; exact HG1.out.size, World.ownsRow_nil _ _ _ _⟩
  clear hS2 hb2 hsb
  go_wp2_with fail
  go_loopg [6, 14] n (fun gk v6 i wr => ∃ (k M : Nat) (a' : Option Addr) (c' : Nat), k ≤ n ∧ gk = n - k ∧ i = .int .i64 k ∧ v6 = .slice a' (unl (l.take k)).length c' ∧ (∀ i : Nat, M.testBit i = (decide (i < S) && (l.take k).contains (i : Int))) ∧ UlAt w wr sb S M (.slice a' (unl (l.take k)).length c') (unl (l.take k)))
  case atStart => exact ⟨0, 0, none, 0, Nat.zero_le _, rfl, rfl, rfl, fun i => by simp, HU2.out⟩
  case round =>
    obtain ⟨k, M, a', c', hk, hgk, rfl, rfl, hM, hU⟩ := hrel
    have HGK : Hid (gk = n - k) := hgk
    have HM : Hid (∀ i : Nat, M.testBit i = (decide (i < S) && (l.take k).contains (i : Int))) := hM
    have HU : Hid (UlAt w wr sb S M (.slice a' (unl (l.take k)).length c') (unl (l.take k))) := hU
    clear hgk hM hU
    by_cases hlt : k < n
    · have hkl : k < l.length := by rw [← HN.out]; exact hlt
      obtain ⟨ab, ao, rfl, hc⟩ : ∃ ab ao, a = some ⟨ab, ao, none⟩ ∧ wr.cell? ⟨ab, ao + k, none⟩ = some (.int .i64 (l.getD k 0)) := by
        rcases HL.out wr HU.out.grown with h | ⟨ab, ao, e, h⟩
        · rw [h] at hkl; cases hkl
        · exact ⟨ab, ao, e, h k hkl⟩
      have hx := HIN.out k hkl
      obtain ⟨x, hxe⟩ : ∃ x : Nat, l.getD k 0 = (x : Int) := ⟨(l.getD k 0).toNat, by omega⟩
      have HTK : Hid (l.take (k + 1) = l.take k ++ [(x : Int)]) := by
        show _ = _
        rw [List.take_add_one, List.getElem?_eq_getElem hkl, Option.toList_some, ← hxe, List.getD_eq_getElem?_getD, List.getElem?_eq_getElem hkl]
        rfl
      rw [hxe] at hc hx
      have hxS : x < S := by omega
      have hk0 : (0 : Int) ≤ (k : Int) := by omega
      have hk1 : (k : Int) < (n : Int) := by omega
      have hkd : decide (k < n) = true := decide_eq_true hlt
      obtain ⟨q, hq⟩ : ∃ q, q = M.testBit x := ⟨_, rfl⟩
      have HAD : Hid (Calls Tryz.prog 126 #[.pointer (some ⟨sb, 0, none⟩), .slice (some ⟨wr.heap.size, 0, none⟩) 1 1] (wr.alloc (.cells #[.int .i64 (x : Int)] 3)) fun e w' => e = .returned (.int .i64 ((if q = true then 0 else 1 : Nat) : Int)) ∧ UlAt w w' sb S (M ||| 2 ^ x) (.slice a' (unl (l.take k)).length c') (unl (l.take k))) := by
        have hg := World.grownBy_alloc wr (.cells #[.int .i64 (x : Int)] 3) none
        have h1 := HU.out.kept hg
        have h2 := SetM_lt HU.out.set
        refine (add_in sb S M wr.heap.size x hxS _ h1.set (by omega) (new_cell wr _ _)).mono ?_
        rintro e w' ⟨rfl, h8, h9⟩
        exact ⟨by rw [hq], h1.add h9 h8⟩
      have HQ : Hid (q = (unl (l.take k)).contains (x : Int)) := by
        show _ = _
        rw [hq, contains_bit hxS HM.out]
        have : ((l.take k).contains (x : Int) = true) ↔ ((unl (l.take k)).contains (x : Int) = true) := by
          simp only [List.contains_iff_mem, unl_mem]
        cases h1 : (l.take k).contains (x : Int) <;> cases h2 : (unl (l.take k)).contains (x : Int) <;> simp_all
      have HM2 : Hid (∀ i : Nat, (M ||| 2 ^ x).testBit i = (decide (i < S) && (l.take (k + 1)).contains (i : Int))) := by
        show ∀ i : Nat, _ = _
        rw [HTK.out]
        exact contains_snoc hxS HM.out
      have HUN : Hid (unl (l.take (k + 1)) = if q = true then unl (l.take k) else unl (l.take k) ++ [(x : Int)]) := by
        show _ = _
        rw [HTK.out, unl_snoc, ← HQ.out]
      have hul : (unl (l.take k)).length + 1 ≤ 17592186044416 := by
        have := unl_len (l.take k)
        have h3 := List.length_take_le k l
        omega
      obtain ⟨ul, hule⟩ : ∃ x, x = (unl (l.take k)).length := ⟨_, rfl⟩
      have HUL : Hid (ul = (unl (l.take k)).length) := hule
      rw [← hule] at hul HAD HU
      rw [← hule]
      have HUB : Hid (ul + 1 ≤ 17592186044416) := hul
      clear hx hxe hq hule HM HQ HTK hul
      go_wp2_with fail
      refine Calls.mono HAD.out ?_
      rintro e w3 ⟨rfl, hU3⟩
      have HU3 : Hid (UlAt w w3 sb S (M ||| 2 ^ x) (.slice a' ul c') (unl (l.take k))) := hU3
      clear hU3 HAD HU hc
      cases q with
      | true =>
        have HUN2 : Hid (unl (l.take (k + 1)) = unl (l.take k)) := HUN.out
        clear HUN
        go_wp2_with fail
        go_roundg (n - (k + 1))
        case measure => have := HGK.out; omega
        case rel => exact ⟨k + 1, M ||| 2 ^ x, a', c', by omega, rfl, by go_num, by rw [HUN2.out, ← HUL.out], HM2.out, by rw [HUN2.out, ← HUL.out]; exact HU3.out⟩
      | false =>
        have HUN2 : Hid (unl (l.take (k + 1)) = unl (l.take k) ++ [(x : Int)]) := HUN.out
        have HAL : Hid (UlAt w (w3.alloc (.cells #[.int .i64 (x : Int)] 3)) sb S (M ||| 2 ^ x) (.slice a' ul c') (unl (l.take k))) := HU3.out.kept (World.grownBy_alloc _ _ none)
        have HOW : Hid ((w3.alloc (.cells #[.int .i64 (x : Int)] 3)).ownsRow (sb + 1) 3 1 (.slice a' ul c') ul ((unl (l.take k)).map (Value.int .i64))) := by
          have := HAL.out.own
          rw [← HUL.out] at this
          exact this
        have HF6 : Hid (∀ v6 wB, wB.ownsRow (sb + 1) 3 1 v6 (ul + 1) ((unl (l.take k)).map (Value.int .i64) ++ [.int .i64 (x : Int)]) → (w3.alloc (.cells #[.int .i64 (x : Int)] 3)).grownBy wB (Value.slice a' ul c').ownBlock → ∃ a c, v6 = .slice a (unl (l.take (k + 1))).length c ∧ UlAt w wB sb S (M ||| 2 ^ x) (.slice a (unl (l.take (k + 1))).length c) (unl (l.take (k + 1)))) := by
          intro v6 wB ho hg
          obtain ⟨a, c, rfl⟩ := owns_slice ho
          have e1 : (unl (l.take (k + 1))).length = ul + 1 := by rw [HUN2.out, List.length_append, ← HUL.out]; rfl
          refine ⟨a, c, by rw [e1], HAL.out.push hg ?_⟩
          rw [e1, HUN2.out, List.map_append]
          exact ho
        have HNW : Hid (∀ j u, [Value.int .i64 (x : Int)][j]? = some u → (w3.alloc (.cells #[.int .i64 (x : Int)] 3)).cell? ((⟨w3.heap.size, 0, none⟩ : Addr).add j) = some u) := news_new w3 _ _
        have HBB : Hid (sb + 1 ≤ (w3.alloc (.cells #[.int .i64 (x : Int)] 3)).heap.size) := by
          have := SetM_lt HAL.out.set
          exact this
        clear HUN HU3
        go_wp2_with (at_builtin; refine wpList_append_src rfl (.tmp 23) (.tmp 25) 24 rfl (sb + 1) 3 i0 (.int .i64 0) 1 8 Tryz.underlying24 hi0 hz0 hz1 hz2 rfl (by decide) (.slice a' ul c') ul ((unl (l.take k)).map (Value.int .i64)) rfl HOW.out (some ⟨w3.heap.size, 0, none⟩) 1 1 [.int .i64 (x : Int)] rfl (fun h => by cases h) rfl (fun ad e => by cases e; exact HNW.out) (by simp [Value.oneCell']) (by have := HUB.out; unfold maxLen; omega) (by have := HUB.out; omega) HBB.out ?_; intro v6 wB hoB hgB; obtain ⟨a6, c6, rfl, y2⟩ := HF6.out v6 wB hoB hgB; have HY2 := show Hid _ from y2; clear hoB hgB y2)
        go_roundg (n - (k + 1))
        case measure => have := HGK.out; omega
        case rel => exact ⟨k + 1, M ||| 2 ^ x, a6, c6, by omega, rfl, by go_num, rfl, HM2.out, HY2.out⟩
    · have hkn : n = k := by omega
      subst hkn
      have hkd : decide (n < n) = false := decide_eq_false (by omega)
      go_wp2_with fail
      go_ret
      have e : l.take n = l := by rw [HN.out]; exact List.take_length
      have h1 := HU.out
      rw [e] at h1
      refine ⟨a', c', by rw [e]; rfl, ?_, h1.grown⟩
      have h2 := h1.own
      refine ⟨h2.1, ?_⟩
      rcases h2.2 with h | ⟨g, cap, cur, hv, hB, hr⟩
      · exact .inl h
      · exact .inr ⟨g, cap, cur, hv, by have := h1.lo; omega, hr⟩

end Go.Proofs.YtkbjbijoekmooaaGreat

/-
  first: rows of values and boxes; nothingFound, its first statement.
-/
namespace Go.Proofs.YtkbjbijoekmooaaGreat
open Go.RowKit Go.Maps Go.Shelf

attribute [local go_sem] Oper.semAt_some

/-- A row of values, whole in block k. -/
def ValAt (w : World) (k len : Nat) (t : TypeId) (c : Nat → Value) : Prop := w.heap[k]? = some (.cells ((List.range len).map c).toArray t (0, 0))
section
variable {w w' : World} {k len : Nat} {t : TypeId} {c : Nat → Value}
theorem ValAt.cell (h : ValAt w k len t c) (i : Nat) (hi : i < len) : w.cell? ⟨k, i, none⟩ = some (c i) := by
  rw [cell_of_row _ _ _ _ _ _ h]; simp [hi]
theorem ValAt.free (h : ValAt w k len t c) (i : Nat) : w.frozen? ⟨k, i, none⟩ = false := frozen_of_row _ _ _ _ _ h
theorem ValAt.lt (h : ValAt w k len t c) : k < w.heap.size := (Array.getElem?_eq_some_iff.1 h).1
theorem ValAt.kept (h : ValAt w k len t c) (hg : w.grownBy w' none) : ValAt w' k len t c := (hg.block k h.lt (by simp)).trans h
theorem ValAt.at {b : Nat} (h : ValAt w k len t c) (hg : w.grownBy w' (some b)) (hne : k ≠ b) : ValAt w' k len t c := (hg.block k h.lt (by simpa using hne)).trans h
/-- The cells with one turned. -/
def put (c : Nat → Value) (x : Nat) (v : Value) : Nat → Value := fun i => if i = x then v else c i
theorem ValAt.set (h : ValAt w k len t c) (x : Nat) (v : Value) : ValAt (w.setCell ⟨k, x, none⟩ v) k len t (put c x v) := by
  unfold ValAt
  rw [heap_setCell_same _ _ _ _ _ _ h]
  congr 2
  apply Array.ext'
  apply List.ext_getElem?
  intro i
  simp only [Array.toList_setIfInBounds, List.getElem?_set, List.getElem?_map]
  by_cases hi : i < len
  · by_cases e : x = i
    · subst e; simp [hi, put]
    · have e2 : ¬ i = x := fun h => e h.symm
      simp [e, e2, hi, put]
  · by_cases e : x = i
    · subst e; simp [hi]
    · simp [e, hi]
end
theorem box3 {x : World} {b : Nat} {v0 v1 v2 : Value} {t : TypeId} (h : x.heap[b]? = some (.cells #[v0, v1, v2] t (0, 0))) : (x.cell? ⟨b, 0, none⟩ = some v0 ∧ x.cell? ⟨b, 1, none⟩ = some v1 ∧ x.cell? ⟨b, 2, none⟩ = some v2) ∧ x.frozen? ⟨b, 0, none⟩ = false ∧ x.frozen? ⟨b, 1, none⟩ = false ∧ x.frozen? ⟨b, 2, none⟩ = false := by
  refine ⟨⟨?_, ?_, ?_⟩, frozen_of_row _ _ _ _ _ h, frozen_of_row _ _ _ _ _ h, frozen_of_row _ _ _ _ _ h⟩ <;> rw [cell_of_row _ _ _ _ _ _ h] <;> rfl
theorem grown_two {x y z : World} {b : Nat} (h1 : x.grownBy y (some b)) (h2 : y.grownBy z (some b)) : x.grownBy z (some b) :=
  ⟨h2.os.trans h1.os, h2.tape.trans h1.tape, h2.output.trans h1.output, Nat.le_trans h1.size h2.size, fun k hk hne => (h2.block k (Nat.lt_of_lt_of_le hk h1.size) hne).trans (h1.block k hk hne)⟩

theorem infoSetP : (Tryz.prog.info? 123).map (fun i => (i.zero, i.size, i.bytes)) = some (some (.pointer none), 1, 8) := by kernel_rfl
theorem infoFound : (Tryz.prog.info? 126).map (·.size) = some 3 := by kernel_rfl

/-- While nothingFound's first statement is under way: what of its parts there is. -/
structure NF (Y x : World) (S : Nat) (M : Array Value) (ov ob : Option Nat) : Prop where
  grown : Y.grownBy x none
  v : ∀ b, ov = some b → Y.heap.size ≤ b ∧ B.SetM x (some ⟨b, 0, none⟩) S 0
  b : ∀ b, ob = some b → Y.heap.size ≤ b ∧ x.heap[b]? = some (.cells #[.int .i64 0, .pointer none, .slice none 0 0] 126 (0, 0))
section
variable {Y x y : World} {S : Nat} {M : Array Value} {ov ob : Option Nat}
theorem NF.kept (h : NF Y x S M ov ob) (hg : x.grownBy y none) : NF Y y S M ov ob :=
  ⟨grown_trans h.grown hg, fun b hb => ⟨(h.v b hb).1, SetM_kept (h.v b hb).2 hg⟩, fun b hb => ⟨(h.b b hb).1, (boxKept (h.b b hb).2 hg).out⟩⟩
theorem NF.al (h : NF Y x S M ov none) : NF Y (x.alloc (.cells #[.int .i64 0, .pointer none, .slice none 0 0] 126)) S M ov (some x.heap.size) :=
  ⟨grown_trans h.grown (World.grownBy_alloc _ _ none), fun b hb => ⟨(h.v b hb).1, SetM_kept (h.v b hb).2 (World.grownBy_alloc _ _ none)⟩, fun b hb => by cases hb; exact ⟨h.grown.size, heap_alloc_last x _⟩⟩
theorem NF.ald (h : NF Y x S M ov none) : NF Y (x.alloc (.cells #[.int .i64 0, .pointer none, .slice none 0 0] 126)).drew S M ov (some x.heap.size) := (h.al).kept (grown_drewN _ 1)
theorem NF.of {b : Nat} (h : NF Y x S M none ob) (hg : x.grownBy y none) (hb : x.heap.size ≤ b) (hS : B.SetM y (some ⟨b, 0, none⟩) S 0) : NF Y y S M (some b) ob :=
  ⟨grown_trans h.grown hg, fun c hc => by cases hc; exact ⟨Nat.le_trans h.grown.size hb, hS⟩, fun b hb => ⟨(h.b b hb).1, (boxKept (h.b b hb).2 hg).out⟩⟩
theorem NF.hid (h : NF Y x S M ov ob) : Hid (NF Y x S M ov ob) := h
/-- The box behind another alloc. -/
theorem NF.boxM {kb : Nat} (h : NF Y x S M ov (some kb)) : ((x.alloc (.cells M 123)).cell? ⟨kb, 0, none⟩ = some (.int .i64 0) ∧ (x.alloc (.cells M 123)).cell? ⟨kb, 1, none⟩ = some (.pointer none) ∧ (x.alloc (.cells M 123)).cell? ⟨kb, 2, none⟩ = some (.slice none 0 0)) ∧ (x.alloc (.cells M 123)).frozen? ⟨kb, 0, none⟩ = false ∧ (x.alloc (.cells M 123)).frozen? ⟨kb, 1, none⟩ = false ∧ (x.alloc (.cells M 123)).frozen? ⟨kb, 2, none⟩ = false :=
  box3 (boxKept (h.b kb rfl).2 (World.grownBy_alloc x (.cells M 123) none)).out
theorem boxA (x : World) (M : Array Value) : (((x.alloc (.cells #[.int .i64 0, .pointer none, .slice none 0 0] 126)).alloc (.cells M 123)).cell? ⟨x.heap.size, 0, none⟩ = some (.int .i64 0) ∧ ((x.alloc (.cells #[.int .i64 0, .pointer none, .slice none 0 0] 126)).alloc (.cells M 123)).cell? ⟨x.heap.size, 1, none⟩ = some (.pointer none) ∧ ((x.alloc (.cells #[.int .i64 0, .pointer none, .slice none 0 0] 126)).alloc (.cells M 123)).cell? ⟨x.heap.size, 2, none⟩ = some (.slice none 0 0)) ∧ ((x.alloc (.cells #[.int .i64 0, .pointer none, .slice none 0 0] 126)).alloc (.cells M 123)).frozen? ⟨x.heap.size, 0, none⟩ = false ∧ ((x.alloc (.cells #[.int .i64 0, .pointer none, .slice none 0 0] 126)).alloc (.cells M 123)).frozen? ⟨x.heap.size, 1, none⟩ = false ∧ ((x.alloc (.cells #[.int .i64 0, .pointer none, .slice none 0 0] 126)).alloc (.cells M 123)).frozen? ⟨x.heap.size, 2, none⟩ = false :=
  box3 (boxKept (heap_alloc_last x _) (World.grownBy_alloc _ (.cells M 123) none)).out
end

end Go.Proofs.YtkbjbijoekmooaaGreat

/-
  first: nothingFound.
-/
namespace Go.Proofs.YtkbjbijoekmooaaGreat
open Go.RowKit Go.Maps Go.Shelf

attribute [local go_sem] Oper.semAt_some

/-- nothingFound, behind its first statement: k sets are made. -/
structure NAt (w X : World) (cs : Array Value) (tn S kb vb fb : Nat) (k : Nat) (f : Nat → Nat) : Prop where
  grown : w.grownBy X none
  gbox : X.heap[w.heap.size]? = some (.cells cs 27 (0, 0))
  res : X.heap[w.heap.size + 1]? = some (.cells #[.int .i64 0, .pointer none, .slice none 0 0] 126 (0, 0))
  box : X.heap[kb]? = some (.cells #[.int .i64 (tn : Int), .pointer (some ⟨vb, 0, none⟩), .slice (some ⟨fb, 0, none⟩) S S] 126 (0, 0))
  van : B.SetM X (some ⟨vb, 0, none⟩) S 0
  row : ValAt X fb S 123 (fun i => if i < k then .pointer (some ⟨f i, 0, none⟩) else .pointer none)
  lo : w.heap.size + 1 < kb ∧ w.heap.size + 1 < vb ∧ w.heap.size + 1 < fb
  ne : vb ≠ fb ∧ kb ≠ fb ∧ kb ≠ vb
  sets : ∀ i, i < k → B.SetM X (some ⟨f i, 0, none⟩) tn (if i < tn then 2 ^ i else 0)
  fne : ∀ i, i < k → w.heap.size + 1 < f i ∧ f i ≠ vb ∧ f i ≠ fb ∧ f i ≠ kb
  inj : ∀ i j, i < k → j < k → f i = f j → i = j

theorem setp_ne {x : World} {b c n m : Nat} {o : Obj} (h : B.SetM x (some ⟨b, 0, none⟩) n m) (hc : x.heap[c]? = some o) (ho : ∀ r, o ≠ .cells r 156 (0, 0)) : b ≠ c := fun e => by
  subst e
  have h2 := SetM_row h
  unfold B.RowAt at h2
  rw [h2] at hc
  exact ho _ (by injection hc with hc; exact hc.symm)

theorem st3 {Y x : World} {kb : Nat} {a b c : Value} (h : Y.grownBy x none) (hk : Y.heap.size ≤ kb) : Y.grownBy (((x.setCell ⟨kb, 0, none⟩ a).setCell ⟨kb, 1, none⟩ b).setCell ⟨kb, 2, none⟩ c) none :=
  grown_at h (grown_two (grown_two (grown_setCell _ _ _) (grown_setCell _ _ _)) (grown_setCell _ _ _)) hk

theorem heap_alloc_one (x : World) (o o' : Obj) : ((x.alloc o).alloc o').heap[x.heap.size + 1]? = some o' := by
  have := heap_alloc_last (x.alloc o) o'
  rw [World.size_alloc] at this
  exact this

theorem nat_stored {w Y x : World} {cs M : Array Value} {tn S kb vb fb : Nat} (hph : PhAt w Y w.heap.size cs) (hY : Y.heap.size = w.heap.size + 1 + 1) (hrb : Y.heap[w.heap.size + 1]? = some (.cells #[.int .i64 0, .pointer none, .slice none 0 0] 126 (0, 0))) (h : NF Y x S M (some vb) (some kb)) (hM : x.heap[fb]? = some (.cells M 123 (0, 0))) (hMe : M = ((List.range S).map fun _ => Value.pointer none).toArray) (hfb : Y.heap.size ≤ fb) (f : Nat → Nat) :
    NAt w (((x.setCell ⟨kb, 0, none⟩ (.int .i64 (tn : Int))).setCell ⟨kb, 1, none⟩ (.pointer (some ⟨vb, 0, none⟩))).setCell ⟨kb, 2, none⟩ (.slice (some ⟨fb, 0, none⟩) S S)) cs tn S kb vb fb 0 f := by
  have G : x.grownBy (((x.setCell ⟨kb, 0, none⟩ (.int .i64 (tn : Int))).setCell ⟨kb, 1, none⟩ (.pointer (some ⟨vb, 0, none⟩))).setCell ⟨kb, 2, none⟩ (.slice (some ⟨fb, 0, none⟩) S S)) (some kb) := grown_two (grown_two (grown_setCell _ _ _) (grown_setCell _ _ _)) (grown_setCell _ _ _)
  have hv := h.v vb rfl
  have hb := h.b kb rfl
  have n1 : vb ≠ kb := setp_ne hv.2 hb.2 (by intro r e; cases e)
  have n2 : vb ≠ fb := setp_ne hv.2 hM (by intro r e; cases e)
  have n3 : kb ≠ fb := fun e => by
    rw [e] at hb
    rw [hb.2] at hM
    cases hM
  have hph' := hph.kept h.grown
  have hr' := (boxKept hrb h.grown).out
  refine ⟨grown_at (grown_trans hph.grown h.grown) G (by omega), (G.block _ (Array.getElem?_eq_some_iff.1 hph'.box).1 (by simp; omega)).trans hph'.box, (G.block _ (Array.getElem?_eq_some_iff.1 hr').1 (by simp; omega)).trans hr', ?_, SetM_at hv.2 G n1, ?_, ⟨by omega, by omega, by omega⟩, ⟨n2, n3, fun e => n1 e.symm⟩, fun i hi => absurd hi (Nat.not_lt_zero _), fun i hi => absurd hi (Nat.not_lt_zero _), fun i j hi => absurd hi (Nat.not_lt_zero _)⟩
  · have e1 := heap_setCell_same x kb 0 _ _ (.int .i64 (tn : Int)) hb.2
    have e2 := heap_setCell_same _ kb 1 _ _ (.pointer (some ⟨vb, 0, none⟩)) e1
    have e3 := heap_setCell_same _ kb 2 _ _ (.slice (some ⟨fb, 0, none⟩) S S) e2
    rw [e3]; rfl
  · unfold ValAt
    rw [G.block fb (Array.getElem?_eq_some_iff.1 hM).1 (by simp; exact fun e => n3 e.symm), hM, hMe]
    simp

theorem nat_made {w Y x : World} {cs M : Array Value} {tn S vb : Nat} (hph : PhAt w Y w.heap.size cs) (hY : Y.heap.size = w.heap.size + 1 + 1) (hrb : Y.heap[w.heap.size + 1]? = some (.cells #[.int .i64 0, .pointer none, .slice none 0 0] 126 (0, 0))) (h : NF Y x S M (some vb) none) (hMe : M = ((List.range S).map fun _ => Value.pointer none).toArray) (f : Nat → Nat) :
    NAt w ((x.alloc (.cells M 123)).alloc (.cells #[.int .i64 (tn : Int), .pointer (some ⟨vb, 0, none⟩), .slice (some ⟨x.heap.size, 0, none⟩) S S] 126)) cs tn S (x.heap.size + 1) vb x.heap.size 0 f := by
  have G : x.grownBy ((x.alloc (.cells M 123)).alloc (.cells #[.int .i64 (tn : Int), .pointer (some ⟨vb, 0, none⟩), .slice (some ⟨x.heap.size, 0, none⟩) S S] 126)) none := grown_trans (World.grownBy_alloc _ _ none) (World.grownBy_alloc _ _ none)
  have hv := h.v vb rfl
  have hvl := SetM_lt hv.2
  have hs := h.grown.size
  have hph' := hph.kept (grown_trans h.grown G)
  refine ⟨hph'.grown, hph'.box, (boxKept hrb (grown_trans h.grown G)).out, ?_, SetM_kept hv.2 G, ?_, ⟨by omega, by omega, by omega⟩, ⟨by omega, by omega, by omega⟩, fun i hi => absurd hi (Nat.not_lt_zero _), fun i hi => absurd hi (Nat.not_lt_zero _), fun i j hi => absurd hi (Nat.not_lt_zero _)⟩
  · have := heap_alloc_last (x.alloc (.cells M 123)) (.cells #[.int .i64 (tn : Int), .pointer (some ⟨vb, 0, none⟩), .slice (some ⟨x.heap.size, 0, none⟩) S S] 126)
    rw [World.size_alloc] at this
    exact this
  · have e := (boxKept (heap_alloc_last x (.cells M 123)) (World.grownBy_alloc (x.alloc (.cells M 123)) (.cells #[.int .i64 (tn : Int), .pointer (some ⟨vb, 0, none⟩), .slice (some ⟨x.heap.size, 0, none⟩) S S] 126) none)).out
    rw [hMe] at e
    unfold ValAt
    rw [hMe]
    rw [e]
    simp
theorem nat_made2 {w Y x : World} {cs M : Array Value} {tn S vb : Nat} (hph : PhAt w Y w.heap.size cs) (hY : Y.heap.size = w.heap.size + 1 + 1) (hrb : Y.heap[w.heap.size + 1]? = some (.cells #[.int .i64 0, .pointer none, .slice none 0 0] 126 (0, 0))) (h : NF Y x S M (some vb) none) (hMe : M = ((List.range S).map fun _ => Value.pointer none).toArray) (f : Nat → Nat) :
    NAt w ((x.alloc (.cells #[.int .i64 (tn : Int), .pointer (some ⟨vb, 0, none⟩), .slice (some ⟨x.heap.size + 1, 0, none⟩) S S] 126)).alloc (.cells M 123)) cs tn S x.heap.size vb (x.heap.size + 1) 0 f := by
  have G : x.grownBy ((x.alloc (.cells #[.int .i64 (tn : Int), .pointer (some ⟨vb, 0, none⟩), .slice (some ⟨x.heap.size + 1, 0, none⟩) S S] 126)).alloc (.cells M 123)) none := grown_trans (World.grownBy_alloc _ _ none) (World.grownBy_alloc _ _ none)
  have hv := h.v vb rfl
  have hvl := SetM_lt hv.2
  have hs := h.grown.size
  have hph' := hph.kept (grown_trans h.grown G)
  refine ⟨hph'.grown, hph'.box, (boxKept hrb (grown_trans h.grown G)).out, ?_, SetM_kept hv.2 G, ?_, ⟨by omega, by omega, by omega⟩, ⟨by omega, by omega, by omega⟩, fun i hi => absurd hi (Nat.not_lt_zero _), fun i hi => absurd hi (Nat.not_lt_zero _), fun i j hi => absurd hi (Nat.not_lt_zero _)⟩
  · exact (boxKept (heap_alloc_last x _) (World.grownBy_alloc _ (.cells M 123) none)).out
  · have e := heap_alloc_one x (.cells #[.int .i64 (tn : Int), .pointer (some ⟨vb, 0, none⟩), .slice (some ⟨x.heap.size + 1, 0, none⟩) S S] 126) (.cells M 123)
    rw [hMe] at e
    unfold ValAt
    rw [hMe]
    rw [e]
    simp
section
variable {w X Z : World} {cs : Array Value} {tn S kb vb fb k : Nat} {f : Nat → Nat}
theorem NAt.kept (h : NAt w X cs tn S kb vb fb k f) (hg : X.grownBy Z none) : NAt w Z cs tn S kb vb fb k f :=
  ⟨grown_trans h.grown hg, (boxKept h.gbox hg).out, (boxKept h.res hg).out, (boxKept h.box hg).out, SetM_kept h.van hg, h.row.kept hg, h.lo, h.ne, fun i hi => SetM_kept (h.sets i hi) hg, h.fne, h.inj⟩
theorem NAt.ph (h : NAt w X cs tn S kb vb fb k f) : PhAt w X w.heap.size cs := ⟨h.grown, h.gbox⟩
theorem NAt.push {b : Nat} (h : NAt w X cs tn S kb vb fb k f) (hX : X.grownBy Z none) (hb : X.heap.size ≤ b) (hS : B.SetM Z (some ⟨b, 0, none⟩) tn (if k < tn then 2 ^ k else 0)) (hk : k < S) : NAt w (Z.setCell ⟨fb, k, none⟩ (.pointer (some ⟨b, 0, none⟩))) cs tn S kb vb fb (k + 1) (fun i => if i = k then b else f i) := by
  have h' := h.kept hX
  have G : Z.grownBy (Z.setCell ⟨fb, k, none⟩ (.pointer (some ⟨b, 0, none⟩))) (some fb) := grown_setCell _ _ _
  have l1 := (Array.getElem?_eq_some_iff.1 h.gbox).1
  have l2 := (Array.getElem?_eq_some_iff.1 h.box).1
  have l3 := SetM_lt h.van
  have l4 := h.row.lt
  have l5 : ∀ i, i < k → f i < X.heap.size := fun i hi => SetM_lt (h.sets i hi)
  have lo := h.lo
  refine ⟨grown_at h'.grown G (by omega), (G.block _ (Array.getElem?_eq_some_iff.1 h'.gbox).1 (by simp; omega)).trans h'.gbox, (G.block _ (Array.getElem?_eq_some_iff.1 h'.res).1 (by simp; omega)).trans h'.res, (G.block _ (Array.getElem?_eq_some_iff.1 h'.box).1 (by have := h.ne; simp; omega)).trans h'.box, SetM_at h'.van G h.ne.1, ?_, h.lo, h.ne, fun i hi => ?_, fun i hi => ?_, fun i j hi hj e => ?_⟩
  · have h2 := h'.row.set k (.pointer (some ⟨b, 0, none⟩))
    unfold ValAt at h2 ⊢
    rw [h2]
    congr 2
    apply congrArg List.toArray
    apply List.map_congr_left
    intro i _
    unfold put
    by_cases e : i = k
    · subst e; simp
    · by_cases e2 : i < k
      · have e3 : i < k + 1 := by omega
        simp [e, e2, e3]
      · have e3 : ¬ i < k + 1 := by omega
        simp [e, e2, e3]
  · by_cases e : i = k
    · subst e; simp only [if_true]; exact SetM_at hS G (by omega)
    · simp only [e, if_false]; exact SetM_at (h'.sets i (by omega)) G (h.fne i (by omega)).2.2.1
  · by_cases e : i = k
    · subst e; simp only [if_true]; exact ⟨by omega, by omega, by omega, by omega⟩
    · simp only [e, if_false]; exact h.fne i (by omega)
  · by_cases e1 : i = k
    · by_cases e2 : j = k
      · omega
      · simp only [e1, e2, if_true, if_false] at e
        have := l5 j (by omega); omega
    · by_cases e2 : j = k
      · simp only [e1, e2, if_true, if_false] at e
        have := l5 i (by omega); omega
      · simp only [e1, e2, if_false] at e
        exact h.inj i j (by omega) (by omega) e
theorem NAt.told (h : NAt w X cs tn S kb vb fb S f) (c0 c1 c2 : Value) : FAt (((X.setCell ⟨w.heap.size + 1, 0, none⟩ c0).setCell ⟨w.heap.size + 1, 1, none⟩ c1).setCell ⟨w.heap.size + 1, 2, none⟩ c2) w.heap.size (((X.setCell ⟨w.heap.size + 1, 0, none⟩ c0).setCell ⟨w.heap.size + 1, 1, none⟩ c1).setCell ⟨w.heap.size + 1, 2, none⟩ c2).heap.size tn S fb vb f 0 (fun i => if i < tn then 2 ^ i else 0) ∧ w.grownBy (((X.setCell ⟨w.heap.size + 1, 0, none⟩ c0).setCell ⟨w.heap.size + 1, 1, none⟩ c1).setCell ⟨w.heap.size + 1, 2, none⟩ c2) none := by
  have G : X.grownBy (((X.setCell ⟨w.heap.size + 1, 0, none⟩ c0).setCell ⟨w.heap.size + 1, 1, none⟩ c1).setCell ⟨w.heap.size + 1, 2, none⟩ c2) (some (w.heap.size + 1)) := grown_two (grown_two (grown_setCell _ _ _) (grown_setCell _ _ _)) (grown_setCell _ _ _)
  have lo := h.lo
  have hs := G.size
  have l3 := SetM_lt h.van
  have l4 := h.row.lt
  refine ⟨⟨fun i hi => ?_, fun i hi => SetM_at (h.sets i hi) G (by have := h.fne i hi; omega), SetM_at h.van G (by omega), ⟨⟨by omega, by omega⟩, ⟨by omega, by omega⟩, fun i hi => ⟨by have := h.fne i hi; omega, by have := SetM_lt (h.sets i hi); omega⟩⟩, h.inj, ⟨h.ne.1, fun i hi => ⟨(h.fne i hi).2.1, (h.fne i hi).2.2.1⟩⟩⟩, grown_at h.grown G (by omega)⟩
  have := (h.row.at G (by omega)).cell i hi
  rw [if_pos hi] at this
  exact this
end
theorem start_bits (tn k : Nat) : (B.addS tn 0 [(k : Int)]).1 = if k < tn then 2 ^ k else 0 := by
  by_cases h : k < tn
  · rw [addS_one h, if_pos h]; simp
  · rw [if_neg h]
    have h1 : B.inB tn (k : Int) = false := by simp [B.inB]; omega
    show (B.addStep tn (0, 0) (k : Int)).1 = _
    unfold B.addStep
    rw [h1]; rfl

set_option maxRecDepth 100000 in
set_option maxHeartbeats 2000000 in
theorem nothing_any (ta na la pa : Option Addr) (tn nn ln pn tc nc lc pc S : Nat) (st : Int) (w : World) (hS : S = tn + nn) (hz : S ≤ 1024) :
    Calls Tryz.prog 98 #[.agg #[.slice ta tn tc, .slice na nn nc, .slice la ln lc, .int .i64 st, .slice pa pn pc]] w fun e w' => ∃ vb fb f, e = .returned (.agg #[.int .i64 (tn : Int), .pointer (some ⟨vb, 0, none⟩), .slice (some ⟨fb, 0, none⟩) S S]) ∧ FAt w' w.heap.size w'.heap.size tn S fb vb f 0 (fun i => if i < tn then 2 ^ i else 0) ∧ w.grownBy w' none := by
  have HSY : Hid (∀ X, Calls Tryz.prog 125 #[.agg #[.slice ta tn tc, .slice na nn nc, .slice la ln lc, .int .i64 st, .slice pa pn pc]] X fun e w' => e = .returned (.int .i64 (S : Int)) ∧ X.grownBy w' none) := fun X => symbols_at ta na la pa tn nn ln pn tc nc lc pc S st X hS hz
  have hts : tn ≤ S := by omega
  have HCL : Hid (B.clampN (S : Int) = S ∧ B.clampN (tn : Int) = tn) := ⟨by unfold B.clampN; omega, by unfold B.clampN; omega⟩
  obtain ⟨Y, hY⟩ : ∃ Y, Y = (w.alloc (.cells #[.slice ta tn tc, .slice na nn nc, .slice la ln lc, .int .i64 st, .slice pa pn pc] 27)).alloc (.cells #[.int .i64 0, .pointer none, .slice none 0 0] 126) := ⟨_, rfl⟩
  have hYg : w.grownBy Y none := by rw [hY]; exact grown_trans (World.grownBy_alloc _ _ none) (World.grownBy_alloc _ _ none)
  have hYs : Y.heap.size = w.heap.size + 1 + 1 := by rw [hY]; simp
  have HPH : Hid (PhAt w Y w.heap.size #[.slice ta tn tc, .slice na nn nc, .slice la ln lc, .int .i64 st, .slice pa pn pc]) := ⟨hYg, by rw [hY]; exact ((World.grownBy_alloc (w.alloc _) _ none).block _ (by simp) (by simp)).trans (heap_alloc_last w _)⟩
  have HRB : Hid (Y.heap[w.heap.size + 1]? = some (.cells #[.int .i64 0, .pointer none, .slice none 0 0] 126 (0, 0))) := by
    show _ = _
    have h := heap_alloc_last (w.alloc (.cells #[.slice ta tn tc, .slice na nn nc, .slice la ln lc, .int .i64 st, .slice pa pn pc] 27)) (.cells #[.int .i64 0, .pointer none, .slice none 0 0] 126)
    rw [World.size_alloc] at h
    rw [hY]; exact h
  obtain ⟨i0, hi0, hz0, hz1, hz2⟩ := info_parts infoSetP
  obtain ⟨M, hM⟩ : ∃ M, M = madeCells (Value.pointer none).cells ((S : Int).toNat * i0.size) := ⟨_, rfl⟩
  have HME : Hid (M = ((List.range S).map fun _ => Value.pointer none).toArray) := by
    show _ = _
    rw [hM, hz1]
    apply Array.ext'
    rw [show (Value.pointer none).cells = #[.pointer none] from rfl, toList_madeCells_one, Nat.mul_one, List.map_const', List.length_range]
    simp
  have hmk : ∀ W : World, (Instr.makeSlice 124 (.int .i64 (S : Int)) (.int .i64 (S : Int))).run Tryz.prog W = .ok (.slice (some ⟨W.heap.size, 0, none⟩) S S) (W.alloc (.cells M 123)) := fun W => by
    have h := run_make (P := Tryz.prog) W 124 123 i0 (.pointer none) Tryz.underlying124 hi0 hz0 .i64 .i64 (S : Int) (S : Int) (by omega) (by omega) (by rw [hz2]; omega) (by omega)
    rw [← hM] at h
    simpa using h
  have HYG : Hid (w.grownBy Y none) := hYg
  have HYS : Hid (Y.heap.size = w.heap.size + 1 + 1) := hYs
  have HY : Hid (Y = (w.alloc (.cells #[.slice ta tn tc, .slice na nn nc, .slice la ln lc, .int .i64 st, .slice pa pn pc] 27)).alloc (.cells #[.int .i64 0, .pointer none, .slice none 0 0] 126)) := hY
  have HKS : Hid (∀ x, Y.grownBy x none → x.cell? ⟨w.heap.size, 0, none⟩ = some (.slice ta tn tc) ∧ x.cell? ⟨w.heap.size, 1, none⟩ = some (.slice na nn nc) ∧ x.cell? ⟨w.heap.size, 2, none⟩ = some (.slice la ln lc) ∧ x.cell? ⟨w.heap.size, 3, none⟩ = some (.int .i64 st) ∧ x.cell? ⟨w.heap.size, 4, none⟩ = some (.slice pa pn pc)) := fun x hx => (HPH.out.kept hx).cells
  have HNF : Hid (NF Y Y.drew S M none none) := ⟨grown_drewN Y 1, fun b h => (by cases h), fun b h => (by cases h)⟩
  have NF0 : Hid (NF Y Y S M none none) := ⟨grown_refl _ _, fun b h => (by cases h), fun b h => (by cases h)⟩
  have HOF : Hid (∀ X, Calls Tryz.prog 124 #[.int .i64 (S : Int), .slice none 0 0] X fun e w' => ∃ b, e = .returned (.pointer (some ⟨b, 0, none⟩)) ∧ X.heap.size ≤ b ∧ B.SetM w' (some ⟨b, 0, none⟩) S 0 ∧ X.grownBy w' none) := fun X => (B.of_any (S : Int) none 0 [] X (.inl rfl) (by decide)).mono fun e w' ⟨h1, h2, h3⟩ => ⟨_, h1, Nat.le_refl _, by rw [HCL.out.1] at h2; exact h2, grown_of_below h3⟩
  have hm0 : w.heap.size < Y.heap.size := by omega
  have hn0 : w.heap.size ≠ Y.heap.size := by omega
  have ho0 : Y.heap.size ≠ w.heap.size := by omega
  clear hYg hYs hY hM hi0 hz0 hz1 hz2 hS
  go_enter Tryz.func98, Tryz.ntmps98
  go_wp2_with fail
  rw [← HY.out]
  go_cut [3] from 5 to 14 (fun v3 wx => ∃ kb vb fb f, v3 = .pointer (some ⟨kb, 0, none⟩) ∧ NAt w wx #[.slice ta tn tc, .slice na nn nc, .slice la ln lc, .int .i64 st, .slice pa pn pc] tn S kb vb fb 0 f)
  case first =>
    go_region_held3 (fun x => x.cell? ⟨w.heap.size, 0, none⟩ = some (.slice ta tn tc) ∧ x.cell? ⟨w.heap.size, 1, none⟩ = some (.slice na nn nc) ∧ x.cell? ⟨w.heap.size, 2, none⟩ = some (.slice la ln lc) ∧ x.cell? ⟨w.heap.size, 3, none⟩ = some (.int .i64 st) ∧ x.cell? ⟨w.heap.size, 4, none⟩ = some (.slice pa pn pc)) (first | exact HKS.out _ HNF.out.grown | exact HKS.out _ HNF.out.al.grown | exact HKS.out _ (NF.ald NF0.out).grown | exact HKS.out _ (grown_trans HNF.out.grown (World.grownBy_alloc _ _ none)) | exact HKS.out _ (grown_trans (grown_trans HNF.out.grown (World.grownBy_alloc _ _ none)) (World.grownBy_alloc _ _ none)) | exact HKS.out _ (st3 (grown_trans HNF.out.grown (World.grownBy_alloc _ _ none)) (HNF.out.b _ rfl).1) | exact HKS.out _ (st3 (grown_trans (grown_trans HNF.out.grown (World.grownBy_alloc _ _ none)) (World.grownBy_alloc _ _ none)) HNF.out.grown.size) | go_keep)
      ((first
        | (go_at_call 125; refine Calls.mono (HSY.out _) ?_; rintro e w8 ⟨rfl, hg8⟩; (first | (have HNF := NF.hid (NF.kept HNF.out hg8)) | (have HNF := NF.hid (NF.kept (NF.ald NF0.out) hg8)) | (have HNF := NF.hid (NF.kept (NF.al HNF.out) hg8)) | fail); clear hg8; (try have q0 := (NF.boxM HNF.out).1.1); have p0 := (boxA w8 M).1.1; (try have q1 := (NF.boxM HNF.out).1.2.1); have p1 := (boxA w8 M).1.2.1; (try have q2 := (NF.boxM HNF.out).1.2.2); have p2 := (boxA w8 M).1.2.2; (try have q3 := (NF.boxM HNF.out).2.1); have p3 := (boxA w8 M).2.1; (try have q4 := (NF.boxM HNF.out).2.2.1); have p4 := (boxA w8 M).2.2.1; (try have q5 := (NF.boxM HNF.out).2.2.2); have p5 := (boxA w8 M).2.2.2)
        | (go_at_call 124; refine Calls.mono (HOF.out _) ?_; rintro e w8 ⟨vb, rfl, hb8, hS8, hg8⟩; (first | (have HNF := NF.hid (NF.of HNF.out hg8 hb8 hS8)) | (have HNF := NF.hid (NF.of (NF.al HNF.out) hg8 hb8 hS8)) | fail); clear hg8 hb8 hS8)
        | fail))
    all_goals go_wp2_with fail
    all_goals go_meet
    all_goals first
      | exact ⟨_, vb, _, (fun _ => 0), rfl, nat_stored HPH.out HYS.out HRB.out (HNF.out.kept (World.grownBy_alloc _ _ none)) (heap_alloc_last _ _) HME.out HNF.out.grown.size _⟩
      | exact ⟨_, vb, _, (fun _ => 0), rfl, nat_stored HPH.out HYS.out HRB.out ((HNF.out.al).kept (World.grownBy_alloc _ _ none)) (heap_alloc_one _ _ _) HME.out (Nat.le_succ_of_le HNF.out.grown.size) _⟩
      | exact ⟨_, vb, _, (fun _ => 0), rfl, nat_made HPH.out HYS.out HRB.out HNF.out HME.out _⟩
      | exact ⟨_, vb, _, (fun _ => 0), rfl, nat_made2 HPH.out HYS.out HRB.out HNF.out HME.out _⟩
  case rest =>
    obtain ⟨kb, vb, fb, f0, rfl, hN⟩ := hcut
    have HN0 : Hid (NAt w wc #[.slice ta tn tc, .slice na nn nc, .slice la ln lc, .int .i64 st, .slice pa pn pc] tn S kb vb fb 0 f0) := hN
    clear hN HNF NF0 HOF HRB HPH HYG HYS HY HKS hm0 hn0 ho0 hmk HME
    obtain ⟨k0, k1, k2, k3, k4⟩ := HN0.out.ph.cells
    go_wp2_with fail
    refine Calls.mono (HSY.out _) ?_
    rintro e w2 ⟨rfl, hg2⟩
    have HN2 : Hid (NAt w w2 #[.slice ta tn tc, .slice na nn nc, .slice la ln lc, .int .i64 st, .slice pa pn pc] tn S kb vb fb 0 f0) := HN0.out.kept hg2
    clear hg2 HN0 k0 k1 k2 k3 k4
    go_wp2_with fail
    go_loopg [17] S (fun gk i wr => ∃ (k : Nat) (f : Nat → Nat), k ≤ S ∧ gk = S - k ∧ i = .int .i64 k ∧ NAt w wr #[.slice ta tn tc, .slice na nn nc, .slice la ln lc, .int .i64 st, .slice pa pn pc] tn S kb vb fb k f)
    case atStart => exact ⟨0, f0, Nat.zero_le _, rfl, rfl, HN2.out⟩
    case round =>
      obtain ⟨k, f, hk, hgk, rfl, hN⟩ := hrel
      have HGK : Hid (gk = S - k) := hgk
      have HN : Hid (NAt w wr #[.slice ta tn tc, .slice na nn nc, .slice la ln lc, .int .i64 st, .slice pa pn pc] tn S kb vb fb k f) := hN
      clear hgk hN
      by_cases hlt : k < S
      · obtain ⟨⟨b0, b1, b2⟩, _⟩ := box3 HN.out.box
        have hk0 : (0 : Int) ≤ (k : Int) := by omega
        have hk1 : (k : Int) < (S : Int) := by omega
        have hkd : decide (k < S) = true := decide_eq_true hlt
        have HKS : Hid (∀ x, wr.grownBy x none → x.cell? ⟨kb, 0, none⟩ = some (.int .i64 (tn : Int)) ∧ x.cell? ⟨kb, 2, none⟩ = some (.slice (some ⟨fb, 0, none⟩) S S)) := fun x hx => ⟨hx.cell b0 (by simp), hx.cell b2 (by simp)⟩
        have HG1 : Hid (wr.grownBy (wr.alloc (.cells #[.int .i64 (k : Int)] 3)).drew none) := grown_trans (World.grownBy_alloc _ _ none) (grown_drewN _ 1)
        have HG0 : Hid (wr.grownBy wr.drew none) := grown_drewN _ 1
        have HOK : Hid (Calls Tryz.prog 124 #[.int .i64 (tn : Int), .slice (some ⟨wr.heap.size, 0, none⟩) 1 1] (wr.alloc (.cells #[.int .i64 (k : Int)] 3)).drew fun e w' => ∃ b, e = .returned (.pointer (some ⟨b, 0, none⟩)) ∧ wr.heap.size ≤ b ∧ B.SetM w' (some ⟨b, 0, none⟩) tn (if k < tn then 2 ^ k else 0) ∧ wr.grownBy w' none) := by
          refine (B.of_any (tn : Int) (some ⟨wr.heap.size, 0, none⟩) 1 [(k : Int)] _ (.inr ⟨_, 0, rfl, fun i hi => by
            have : i = 0 := by simpa using hi
            subst this
            exact new_cell wr _ _⟩) (by simp)).mono ?_
          rintro e w' ⟨rfl, h2, h3⟩
          rw [HCL.out.2, start_bits] at h2
          refine ⟨_, rfl, ?_, h2, grown_trans HG1.out (grown_of_below h3)⟩
          have : (wr.alloc (.cells #[.int .i64 (k : Int)] 3)).drew.heap.size = wr.heap.size + 1 := by show (wr.alloc _).heap.size = _; simp
          omega
        clear b0 b1 b2
        go_wp2_with fail
        go_region_held3 (fun x => x.cell? ⟨kb, 0, none⟩ = some (.int .i64 (tn : Int)) ∧ x.cell? ⟨kb, 2, none⟩ = some (.slice (some ⟨fb, 0, none⟩) S S)) (first | exact HKS.out _ HG0.out | exact HKS.out _ HG1.out | exact HKS.out _ HG5.out | exact HST.out _ | go_keep)
          ((first
            | (go_at_call 124; refine Calls.mono HOK.out ?_; rintro e w5 ⟨b, rfl, hb5, hS5, hg5⟩; have HG5 : Hid (wr.grownBy w5 none) := hg5; have HB5 : Hid (wr.heap.size ≤ b ∧ B.SetM w5 (some ⟨b, 0, none⟩) tn (if k < tn then 2 ^ k else 0)) := ⟨hb5, hS5⟩; have x0 := (HN.out.kept hg5).row.cell k hlt; have x1 := (HN.out.kept hg5).row.free k; rw [if_neg (Nat.lt_irrefl k)] at x0; have HST : Hid (∀ v, (w5.setCell ⟨fb, k, none⟩ v).cell? ⟨kb, 0, none⟩ = some (.int .i64 (tn : Int)) ∧ (w5.setCell ⟨fb, k, none⟩ v).cell? ⟨kb, 2, none⟩ = some (.slice (some ⟨fb, 0, none⟩) S S)) := (fun v => ⟨(grown_setCell (w := w5) fb k v).cell (HKS.out _ hg5).1 (by have := HN.out.ne; simp; omega), (grown_setCell (w := w5) fb k v).cell (HKS.out _ hg5).2 (by have := HN.out.ne; simp; omega)⟩); clear hb5 hS5 hg5)
            | fail))
        go_wp2_with fail
        go_roundg (S - (k + 1))
        case measure => have := HGK.out; omega
        case rel => exact ⟨k + 1, _, by omega, rfl, by go_num, HN.out.push HG5.out HB5.out.1 HB5.out.2 hlt⟩
      · have hkn : S = k := by omega
        subst hkn
        have hkd : decide (S < S) = false := decide_eq_false (by omega)
        obtain ⟨⟨b0, b1, b2⟩, f0, f1, f2⟩ := box3 HN.out.box
        obtain ⟨⟨r0, r1, r2⟩, g0, g1, g2⟩ := box3 HN.out.res
        go_wp2_with fail
        refine bodyPost_ret (v := .agg #[.int .i64 (tn : Int), .pointer (some ⟨vb, 0, none⟩), .slice (some ⟨fb, 0, none⟩) S S]) (results_cell_row (fr := (0, 0)) rfl _ _ (w.heap.size + 1) 126 #[.int .i64 (tn : Int), .pointer (some ⟨vb, 0, none⟩), .slice (some ⟨fb, 0, none⟩) S S] _ rfl (by rw [heap_setCell_same _ _ _ _ _ _ (heap_setCell_same _ _ _ _ _ _ (heap_setCell_same _ _ _ _ _ _ HN.out.res))]; rfl) Tryz.underlying126 rfl infoFound) rfl ⟨vb, fb, f, rfl, (HN.out.told _ _ _).1, (HN.out.told _ _ _).2⟩

end Go.Proofs.YtkbjbijoekmooaaGreat

/-
  first: foundOf, its memory.
-/
namespace Go.Proofs.YtkbjbijoekmooaaGreat
open Go.RowKit Go.Maps Go.Shelf

attribute [local go_sem] Oper.semAt_some

/-- A row of numbers in a block of its own, from base on. -/
def RowIn (X : World) (a : Option Addr) (l : List Int) (base : Nat) : Prop := l = [] ∨ ∃ g cur, a = some ⟨g, 0, none⟩ ∧ base ≤ g ∧ X.heap[g]? = some (.cells cur 3 (0, 0)) ∧ ∀ i, i < l.length → cur[i]? = some (.int .i64 (l.getD i 0))
section
variable {X Z : World} {a : Option Addr} {l : List Int} {base lo hi : Nat}
theorem RowIn.ints (h : RowIn X a l base) : IntsAt X a l := by
  rcases h with h | ⟨g, cur, e, _, hh, hc⟩
  · exact .inl h
  · exact .inr ⟨g, 0, e, fun i hi => by rw [cell_of_row _ _ _ _ _ _ hh]; simpa using hc i hi⟩
theorem RowIn.block (h : RowIn X a l base) (hb : ∀ j, j < X.heap.size → base ≤ j → (∃ cur, X.heap[j]? = some (.cells cur 3 (0, 0))) → Z.heap[j]? = X.heap[j]?) : RowIn Z a l base := by
  rcases h with h | ⟨g, cur, e, h1, hh, hc⟩
  · exact .inl h
  · exact .inr ⟨g, cur, e, h1, (hb g (Array.getElem?_eq_some_iff.1 hh).1 h1 ⟨cur, hh⟩).trans hh, hc⟩
theorem RowIn.kept (h : RowIn X a l base) (hg : X.grownBy Z none) : RowIn Z a l base := h.block fun j hj _ _ => hg.block j hj (by simp)
theorem RowIn.out (h : RowIn X a l hi) (ho : Outside lo hi X Z) : RowIn Z a l hi := h.block fun j hj hb _ => ho.block j hj (.inr hb)
end
theorem RowIn.of {X : World} {B base : Nat} {a : Option Addr} {c : Nat} {l : List Int} (h : X.ownsRow B 3 1 (.slice a l.length c) l.length (l.map (Value.int .i64))) (hb : base ≤ B) : RowIn X a l base := by
  rcases h.2 with ⟨h', h2⟩ | ⟨g, cap, cur, hv, hB, hh, _, _, hs, ht⟩
  · left
    apply List.eq_nil_of_length_eq_zero
    simp only [Value.slice.injEq] at h'
    exact h'.2.1
  · right
    simp only [Value.slice.injEq] at hv
    refine ⟨g, cur, hv.1, Nat.le_trans hb hB, hh, fun i hi => ?_⟩
    have h3 : (cur.toList.take (l.length * 1))[i]? = some (.int .i64 (l.getD i 0)) := by
      rw [ht, List.getElem?_map, List.getD_eq_getElem?_getD, List.getElem?_eq_getElem hi]; rfl
    rw [List.getElem?_take, if_pos (by omega)] at h3
    simpa using h3

/-- While foundOf is under way. -/
structure FoAt (w X : World) (cs : Array Value) (tn S n kb vb fb rb lo hi : Nat) (f : Nat → Nat) (v : Nat) (m : Nat → Nat) (k : Nat) (R : Nat → List Int) (ua : Nat → Option Addr) (uc : Nat → Nat) : Prop where
  grown : w.grownBy X none
  gbox : X.heap[w.heap.size]? = some (.cells cs 27 (0, 0))
  res : X.heap[w.heap.size + 1]? = some (.cells #[.int .i64 0, .pointer none, .slice none 0 0] 126 (0, 0))
  box : X.heap[kb]? = some (.cells #[.int .i64 (tn : Int), .pointer (some ⟨vb, 0, none⟩), .slice (some ⟨fb, 0, none⟩) S S] 126 (0, 0))
  fat : FAt X lo hi tn S fb vb f v m
  row : ValAt X rb n 24 (fun i => if i < k then .slice (ua i) (unl (R i)).length (uc i) else .slice none 0 0)
  rows : ∀ i, i < k → RowIn X (ua i) (unl (R i)) hi
  lo : w.heap.size + 1 < lo ∧ lo ≤ hi ∧ hi ≤ kb ∧ hi ≤ rb ∧ kb ≠ rb ∧ hi ≤ X.heap.size
section
variable {w X Z : World} {cs : Array Value} {tn S n kb vb fb rb lo hi : Nat} {f : Nat → Nat} {v : Nat} {m : Nat → Nat} {k : Nat} {R : Nat → List Int} {ua : Nat → Option Addr} {uc : Nat → Nat}
theorem FoAt.kept (h : FoAt w X cs tn S n kb vb fb rb lo hi f v m k R ua uc) (hg : X.grownBy Z none) : FoAt w Z cs tn S n kb vb fb rb lo hi f v m k R ua uc :=
  ⟨grown_trans h.grown hg, (boxKept h.gbox hg).out, (boxKept h.res hg).out, (boxKept h.box hg).out, h.fat.kept hg, h.row.kept hg, fun i hi => (h.rows i hi).kept hg, ⟨h.lo.1, h.lo.2.1, h.lo.2.2.1, h.lo.2.2.2.1, h.lo.2.2.2.2.1, Nat.le_trans h.lo.2.2.2.2.2 hg.size⟩⟩
theorem FoAt.out {v' : Nat} {m' : Nat → Nat} (h : FoAt w X cs tn S n kb vb fb rb lo hi f v m k R ua uc) (ho : Outside lo hi X Z) (hF : FAt Z lo hi tn S fb vb f v' m') : FoAt w Z cs tn S n kb vb fb rb lo hi f v' m' k R ua uc := by
  have hl := h.lo
  exact ⟨ho.grown h.grown (by omega), (ho.block _ (Array.getElem?_eq_some_iff.1 h.gbox).1 (.inl (by omega))).trans h.gbox, (ho.block _ (Array.getElem?_eq_some_iff.1 h.res).1 (.inl (by omega))).trans h.res, (ho.block _ (Array.getElem?_eq_some_iff.1 h.box).1 (.inr (by omega))).trans h.box, hF, (ho.block _ h.row.lt (.inr (by omega))).trans h.row, fun i hi => (h.rows i hi).out ho, ⟨h.lo.1, h.lo.2.1, h.lo.2.2.1, h.lo.2.2.2.1, h.lo.2.2.2.2.1, Nat.le_trans h.lo.2.2.2.2.2 ho.size⟩⟩
theorem FoAt.ph (h : FoAt w X cs tn S n kb vb fb rb lo hi f v m k R ua uc) : PhAt w X w.heap.size cs := ⟨h.grown, h.gbox⟩
theorem FoAt.push {a : Option Addr} {c : Nat} (h : FoAt w X cs tn S n kb vb fb rb lo hi f v m k R ua uc) (hr : RowIn X a (unl (R k)) hi) : FoAt w (X.setCell ⟨rb, k, none⟩ (.slice a (unl (R k)).length c)) cs tn S n kb vb fb rb lo hi f v m (k + 1) R (fun i => if i = k then a else ua i) (fun i => if i = k then c else uc i) := by
  have hl := h.lo
  have G : X.grownBy (X.setCell ⟨rb, k, none⟩ (.slice a (unl (R k)).length c)) (some rb) := grown_setCell _ _ _
  have key : ∀ {b : Option Addr} {l : List Int}, RowIn X b l hi → RowIn (X.setCell ⟨rb, k, none⟩ (.slice a (unl (R k)).length c)) b l hi := fun {b l} h2 => h2.block fun j hj _ ⟨cur, hc⟩ => G.block j hj (by
    intro e
    have : j = rb := by simpa using e
    subst this
    have h3 := h.row
    unfold ValAt at h3
    rw [h3] at hc
    cases hc)
  refine ⟨grown_at h.grown G (by omega), (G.block _ (Array.getElem?_eq_some_iff.1 h.gbox).1 (by simp; omega)).trans h.gbox, (G.block _ (Array.getElem?_eq_some_iff.1 h.res).1 (by simp; omega)).trans h.res, (G.block _ (Array.getElem?_eq_some_iff.1 h.box).1 (by simp; omega)).trans h.box, h.fat.other G (.inr (by omega)), ?_, fun i hi => ?_, ⟨h.lo.1, h.lo.2.1, h.lo.2.2.1, h.lo.2.2.2.1, h.lo.2.2.2.2.1, Nat.le_trans h.lo.2.2.2.2.2 G.size⟩⟩
  · have h2 := h.row.set k (.slice a (unl (R k)).length c)
    unfold ValAt at h2 ⊢
    rw [h2]
    congr 2
    apply congrArg List.toArray
    apply List.map_congr_left
    intro i _
    unfold put
    by_cases e : i = k
    · subst e; simp
    · by_cases e2 : i < k
      · have e3 : i < k + 1 := by omega
        simp [e, e2, e3]
      · have e3 : ¬ i < k + 1 := by omega
        simp [e, e2, e3]
  · by_cases e : i = k
    · subst e; simp only [if_true]; exact key hr
    · simp only [e, if_false]; exact key (h.rows i (by omega))
theorem FoAt.told (h : FoAt w X cs tn S n kb vb fb rb lo hi f v m k R ua uc) (c0 c1 c2 : Value) : FAt (((X.setCell ⟨w.heap.size + 1, 0, none⟩ c0).setCell ⟨w.heap.size + 1, 1, none⟩ c1).setCell ⟨w.heap.size + 1, 2, none⟩ c2) w.heap.size (((X.setCell ⟨w.heap.size + 1, 0, none⟩ c0).setCell ⟨w.heap.size + 1, 1, none⟩ c1).setCell ⟨w.heap.size + 1, 2, none⟩ c2).heap.size tn S fb vb f v m ∧ w.grownBy (((X.setCell ⟨w.heap.size + 1, 0, none⟩ c0).setCell ⟨w.heap.size + 1, 1, none⟩ c1).setCell ⟨w.heap.size + 1, 2, none⟩ c2) none := by
  have G : X.grownBy (((X.setCell ⟨w.heap.size + 1, 0, none⟩ c0).setCell ⟨w.heap.size + 1, 1, none⟩ c1).setCell ⟨w.heap.size + 1, 2, none⟩ c2) (some (w.heap.size + 1)) := grown_two (grown_two (grown_setCell _ _ _) (grown_setCell _ _ _)) (grown_setCell _ _ _)
  have hl := h.lo
  have hs := G.size
  have h2 := h.fat.other G (.inl (by omega))
  exact ⟨⟨h2.row, h2.sets, h2.van, ⟨⟨by have := h2.rng.1; omega, by have := h2.rng.1; omega⟩, ⟨by have := h2.rng.2.1; omega, by have := h2.rng.2.1; omega⟩, fun i hi => ⟨by have := h2.rng.2.2 i hi; omega, by have := h2.rng.2.2 i hi; omega⟩⟩, h2.inj, h2.ne⟩, grown_at h.grown G (by omega)⟩
end

theorem rowM_lt {v tn : Nat} {m : Nat → Nat} : ∀ {l : List Int}, (∀ x ∈ l, m x.toNat < 2 ^ tn) → rowM v m l < 2 ^ tn
  | [], _ => Nat.two_pow_pos tn
  | x :: l, h => by
    simp only [rowM]
    refine Nat.or_lt_two_pow (h x (by simp)) ?_
    split
    · exact rowM_lt fun y hy => h y (by simp [hy])
    · exact Nat.two_pow_pos tn
theorem stV_unl (v x : Nat) (l : List Int) : stV v x (unl l) = stV v x l := by unfold stV; rw [unl_rowV]
theorem stB_unl (v : Nat) (m : Nat → Nat) (x : Nat) (l : List Int) : stB v m x (unl l) = stB v m x l := by unfold stB; rw [unl_rowM]

end Go.Proofs.YtkbjbijoekmooaaGreat

/-
  first: foundOf: all that is to be found.
-/
namespace Go.Proofs.YtkbjbijoekmooaaGreat
open Go.RowKit Go.Maps Go.Shelf

attribute [local go_sem] Oper.semAt_some

theorem made_rowK {w1 : World} {B g n : Nat} {t : TypeId} {z : Value} (hz : z.cells = #[z]) (h : w1.ownsRow B t 1 (.slice (some ⟨g, 0, none⟩) n n) n (madeCells z.cells (n * 1)).toList) : ValAt w1 g n t (fun _ => z) := by
  rcases h.2 with ⟨h', _⟩ | ⟨g', cap, cur, hv, _, hh, _, _, hs, ht⟩
  · cases h'
  · simp only [Value.slice.injEq, Option.some.injEq, Addr.mk.injEq, and_true, true_and] at hv
    obtain ⟨rfl, rfl⟩ := hv
    have e : cur = ((List.range n).map fun _ => z).toArray := by
      apply Array.ext'
      rw [show cur.toList = cur.toList.take (n * 1) by rw [List.take_of_length_le (by simp; omega)], ht]
      rw [hz, toList_madeCells_one, Nat.mul_one]
      rw [List.map_const', List.length_range]
    unfold ValAt
    rw [hh, e]

/-- The answer of foundOf. -/
def FoundTold (tn S n : Nat) (L : Nat → Int) (R : Nat → List Int) (w : World) (e : Ending) (y : World) : Prop :=
  ∃ vb fb f v m, e = .returned (.agg #[.int .i64 (tn : Int), .pointer (some ⟨vb, 0, none⟩), .slice (some ⟨fb, 0, none⟩) S S]) ∧ FAt y w.heap.size y.heap.size tn S fb vb f v m ∧ Found tn n L R v m ∧ w.grownBy y none

set_option maxRecDepth 100000 in
set_option maxHeartbeats 2000000 in
theorem foundOf_any (ta na la : Option Addr) (tn nn ln n tc nc lc pc S bp op : Nat) (st : Int) (L : Nat → Int) (R : Nat → List Int) (ra : Nat → Option Addr) (rc : Nat → Nat) (w : World) (hS : S = tn + nn) (hz : S ≤ 1024) (hn : n ≤ 1000)
    (hP : ∀ k, k < n → w.cell? ⟨bp, op + k * 3, none⟩ = some (.int .i64 (L k)) ∧ w.cell? ⟨bp, op + k * 3 + 1, none⟩ = some (.slice (ra k) (R k).length (rc k)) ∧ IntsAt w (ra k) (R k) ∧ (R k).length ≤ 17592186044416)
    (hL : ∀ k, k < n → (0 : Int) ≤ L k ∧ L k < (S : Int)) (hR : ∀ k, k < n → ∀ x ∈ R k, (0 : Int) ≤ x ∧ x < (S : Int)) :
    Calls Tryz.prog 67 #[.agg #[.slice ta tn tc, .slice na nn nc, .slice la ln lc, .int .i64 st, .slice (some ⟨bp, op, none⟩) n pc]] w fun e y => FoundTold tn S n L R w e y := by
  have HNO : Hid (∀ X, Calls Tryz.prog 98 #[.agg #[.slice ta tn tc, .slice na nn nc, .slice la ln lc, .int .i64 st, .slice (some ⟨bp, op, none⟩) n pc]] X fun e w' => ∃ vb fb f, e = .returned (.agg #[.int .i64 (tn : Int), .pointer (some ⟨vb, 0, none⟩), .slice (some ⟨fb, 0, none⟩) S S]) ∧ FAt w' X.heap.size w'.heap.size tn S fb vb f 0 (fun i => if i < tn then 2 ^ i else 0) ∧ X.grownBy w' none) := fun X => nothing_any ta na la (some ⟨bp, op, none⟩) tn nn ln n tc nc lc pc S st X hS hz
  have HUN : Hid (∀ k, k < n → ∀ X, w.grownBy X none → Calls Tryz.prog 99 #[.agg #[.slice ta tn tc, .slice na nn nc, .slice la ln lc, .int .i64 st, .slice (some ⟨bp, op, none⟩) n pc], .slice (ra k) (R k).length (rc k)] X fun e y => UnlTold (R k) X e y) := fun k hk X hX => unlike_any ta na la (some ⟨bp, op, none⟩) (ra k) tn nn ln n tc nc lc pc (rc k) S st (R k) X hS hz ((hP k hk).2.2.1.kept hX) (hP k hk).2.2.2 (hR k hk)
  have hts : tn ≤ 1024 := by omega
  have HP : Hid (∀ k, k < n → ∀ X, w.grownBy X none → X.cell? ⟨bp, op + k * 3, none⟩ = some (.int .i64 (L k)) ∧ X.cell? ⟨bp, op + k * 3 + 1, none⟩ = some (.slice (ra k) (R k).length (rc k))) := fun k hk X hX => ⟨hX.cell (hP k hk).1 (by simp), hX.cell (hP k hk).2.1 (by simp)⟩
  have HL : Hid (∀ k, k < n → (0 : Int) ≤ L k ∧ L k < (S : Int)) := hL
  have HR : Hid (∀ k, k < n → ∀ x ∈ R k, (0 : Int) ≤ x ∧ x < (S : Int)) := hR
  have HRL : Hid (∀ k, k < n → (R k).length ≤ 17592186044416) := fun k hk => (hP k hk).2.2.2
  obtain ⟨Y, hY⟩ : ∃ Y, Y = (w.alloc (.cells #[.slice ta tn tc, .slice na nn nc, .slice la ln lc, .int .i64 st, .slice (some ⟨bp, op, none⟩) n pc] 27)).alloc (.cells #[.int .i64 0, .pointer none, .slice none 0 0] 126) := ⟨_, rfl⟩
  have hYg : w.grownBy Y none := by rw [hY]; exact grown_trans (World.grownBy_alloc _ _ none) (World.grownBy_alloc _ _ none)
  have HYS : Hid (Y.heap.size = w.heap.size + 1 + 1) := by show _ = _; rw [hY]; simp
  have HPH : Hid (PhAt w Y w.heap.size #[.slice ta tn tc, .slice na nn nc, .slice la ln lc, .int .i64 st, .slice (some ⟨bp, op, none⟩) n pc]) := ⟨hYg, by rw [hY]; exact ((World.grownBy_alloc (w.alloc _) _ none).block _ (by simp) (by simp)).trans (heap_alloc_last w _)⟩
  have HRB : Hid (Y.heap[w.heap.size + 1]? = some (.cells #[.int .i64 0, .pointer none, .slice none 0 0] 126 (0, 0))) := by
    show _ = _
    have h := heap_alloc_last (w.alloc (.cells #[.slice ta tn tc, .slice na nn nc, .slice la ln lc, .int .i64 st, .slice (some ⟨bp, op, none⟩) n pc] 27)) (.cells #[.int .i64 0, .pointer none, .slice none 0 0] 126)
    rw [World.size_alloc] at h
    rw [hY]; exact h
  have HY : Hid (Y = (w.alloc (.cells #[.slice ta tn tc, .slice na nn nc, .slice la ln lc, .int .i64 st, .slice (some ⟨bp, op, none⟩) n pc] 27)).alloc (.cells #[.int .i64 0, .pointer none, .slice none 0 0] 126)) := hY
  obtain ⟨i0, hi0, hz0, hz1, hz2⟩ := info_parts infoInts
  clear hP hL hR hYg hS
  obtain ⟨k0, k1, k2, k3, k4⟩ := HPH.out.cells
  rw [hY] at k0 k1 k2 k3 k4
  clear hY
  go_enter Tryz.func67, Tryz.ntmps67
  go_wp2_with fail
  rw [← HY.out]
  refine Calls.mono (HNO.out Y) ?_
  rintro e w1 ⟨vb, fb, f, rfl, hF1, hg1⟩
  clear HY k0 k1 k2 k3 k4
  obtain ⟨kb, hkb⟩ : ∃ kb, kb = w1.heap.size := ⟨_, rfl⟩
  obtain ⟨X1, hX1⟩ : ∃ X1, X1 = w1.alloc (.cells #[.int .i64 (tn : Int), .pointer (some ⟨vb, 0, none⟩), .slice (some ⟨fb, 0, none⟩) S S] 126) := ⟨_, rfl⟩
  have hgb : w1.grownBy X1 none := by rw [hX1]; exact World.grownBy_alloc _ _ none
  have HF1 : Hid (FAt X1 Y.heap.size kb tn S fb vb f 0 (fun i => if i < tn then 2 ^ i else 0)) := by
    show FAt _ _ _ _ _ _ _ _ _ _
    rw [hkb]; exact hF1.kept hgb
  have HBX : Hid (X1.heap[kb]? = some (.cells #[.int .i64 (tn : Int), .pointer (some ⟨vb, 0, none⟩), .slice (some ⟨fb, 0, none⟩) S S] 126 (0, 0))) := by show _ = _; rw [hX1, hkb]; exact heap_alloc_last w1 _
  have HPX : Hid (PhAt w X1 w.heap.size #[.slice ta tn tc, .slice na nn nc, .slice la ln lc, .int .i64 st, .slice (some ⟨bp, op, none⟩) n pc]) := HPH.out.kept (grown_trans hg1 hgb)
  have HRX : Hid (X1.heap[w.heap.size + 1]? = some (.cells #[.int .i64 0, .pointer none, .slice none 0 0] 126 (0, 0))) := boxKept HRB.out (grown_trans hg1 hgb)
  have HSZ : Hid (w.heap.size + 1 < Y.heap.size ∧ Y.heap.size ≤ kb ∧ X1.heap.size = kb + 1) := ⟨by have := HYS.out; omega, by rw [hkb]; exact hg1.size, by rw [hX1, hkb]; simp⟩
  obtain ⟨k0, k1, k2, k3, k4⟩ := HPX.out.cells
  rw [hX1] at k0 k1 k2 k3 k4
  have HXE := show Hid _ from hX1
  have HKE := show Hid _ from hkb
  clear hF1 hg1 hgb hX1 hkb HPH HRB HYS HNO
  go_wp2_with (at_make; refine wpList_make_full _ rfl _ _ 30 rfl (w1.heap.size + 1) 24 i0 (.slice none 0 0) 1 Tryz.underlying30 hi0 hz0 hz1 .i64 .i64 _ _ n rfl rfl (by simp) (by simp) (by rw [hz2]; omega) (by unfold maxLen; omega) (by simp) ?_)
  intro w2 hown hgrow
  rw [← HXE.out] at hgrow
  rw [← HKE.out] at hown
  rw [← HKE.out]
  have hval : ValAt w2 (kb + 1) n 24 (fun _ => .slice none 0 0) := made_rowK (B := kb + 1) rfl (by simpa [Value.cells] using hown)
  obtain ⟨m0, hm0⟩ : ∃ m0 : Nat → Nat, m0 = fun i => if i < tn then 2 ^ i else 0 := ⟨_, rfl⟩
  have HSO : Hid (Sound tn n L R 0 m0) := by show Sound _ _ _ _ _ _; rw [hm0]; exact sound_start tn n L R
  rw [← hm0] at HF1
  have hfo : FoAt w w2 #[.slice ta tn tc, .slice na nn nc, .slice la ln lc, .int .i64 st, .slice (some ⟨bp, op, none⟩) n pc] tn S n kb vb fb (kb + 1) Y.heap.size kb f 0 m0 0 R (fun _ => none) (fun _ => 0) := ⟨grown_trans HPX.out.grown hgrow, (HPX.out.kept hgrow).box, (boxKept HRX.out hgrow).out, (boxKept HBX.out hgrow).out, HF1.out.kept hgrow, by simpa using hval, fun i hi => absurd hi (Nat.not_lt_zero _), ⟨HSZ.out.1, HSZ.out.2.1, Nat.le_refl _, by omega, by omega, by have := hgrow.size; have := HSZ.out.2.2; omega⟩⟩
  obtain ⟨rb, hrb⟩ : ∃ rb, rb = kb + 1 := ⟨_, rfl⟩
  rw [← hrb] at hfo
  rw [← hrb]
  obtain ⟨lo, hlo⟩ : ∃ lo, lo = Y.heap.size := ⟨_, rfl⟩
  rw [← hlo] at hfo
  have HFO := show Hid _ from hfo
  have HBP : Hid (∀ k, k < n → bp < w.heap.size) := fun k hk => World.block_lt_of_cell? w _ (HP.out k hk w (grown_refl _ _)).1
  clear hown hgrow hval hm0 hfo hrb hlo HXE HKE HPX HRX HBX HF1 HSZ k0 k1 k2 k3 k4 hi0 hz0 hz1 hz2
  obtain ⟨k0, k1, k2, k3, k4⟩ := HFO.out.ph.cells
  go_wp2_with fail
  clear k0 k1 k2 k3 k4
  go_loopg [17] n (fun gk i wr => ∃ (k : Nat) (ua : Nat → Option Addr) (uc : Nat → Nat), k ≤ n ∧ gk = n - k ∧ i = .int .i64 k ∧ FoAt w wr #[.slice ta tn tc, .slice na nn nc, .slice la ln lc, .int .i64 st, .slice (some ⟨bp, op, none⟩) n pc] tn S n kb vb fb rb lo kb f 0 m0 k R ua uc)
  case atStart => exact ⟨0, _, _, Nat.zero_le _, rfl, rfl, HFO.out⟩
  case round =>
    obtain ⟨k, ua, uc, hk, hgk, rfl, hF⟩ := hrel
    have HGK : Hid (gk = n - k) := hgk
    have HF : Hid (FoAt w wr #[.slice ta tn tc, .slice na nn nc, .slice la ln lc, .int .i64 st, .slice (some ⟨bp, op, none⟩) n pc] tn S n kb vb fb rb lo kb f 0 m0 k R ua uc) := hF
    clear hgk hF HFO
    by_cases hlt : k < n
    · have hk0 : (0 : Int) ≤ (k : Int) := by omega
      have hk1 : (k : Int) < (n : Int) := by omega
      have hkd : decide (k < n) = true := decide_eq_true hlt
      have HKS : Hid (∀ x, wr.grownBy x none → (x.cell? ⟨w.heap.size, 0, none⟩ = some (.slice ta tn tc) ∧ x.cell? ⟨w.heap.size, 1, none⟩ = some (.slice na nn nc) ∧ x.cell? ⟨w.heap.size, 2, none⟩ = some (.slice la ln lc) ∧ x.cell? ⟨w.heap.size, 3, none⟩ = some (.int .i64 st) ∧ x.cell? ⟨w.heap.size, 4, none⟩ = some (.slice (some ⟨bp, op, none⟩) n pc)) ∧ x.cell? ⟨bp, op + k * 3 + 1, none⟩ = some (.slice (ra k) (R k).length (rc k))) := fun x hx => ⟨(HF.out.ph.kept hx).cells, (HP.out k hlt x (grown_trans HF.out.grown hx)).2⟩
      have HG0 : Hid (wr.grownBy wr.drew none) := grown_drewN _ 1
      go_wp2_with fail
      go_region_held3 (fun x => (x.cell? ⟨w.heap.size, 0, none⟩ = some (.slice ta tn tc) ∧ x.cell? ⟨w.heap.size, 1, none⟩ = some (.slice na nn nc) ∧ x.cell? ⟨w.heap.size, 2, none⟩ = some (.slice la ln lc) ∧ x.cell? ⟨w.heap.size, 3, none⟩ = some (.int .i64 st) ∧ x.cell? ⟨w.heap.size, 4, none⟩ = some (.slice (some ⟨bp, op, none⟩) n pc)) ∧ x.cell? ⟨bp, op + k * 3 + 1, none⟩ = some (.slice (ra k) (R k).length (rc k))) (first | exact HKS.out _ HG0.out | exact HKS.out _ HG5.out | exact HST.out _ | go_keep)
        ((first
          | (go_at_call 99; refine Calls.mono (HUN.out k hlt _ (grown_trans HF.out.grown HG0.out)) ?_; rintro e w5 ⟨a5, c5, rfl, hO5, hg5⟩; have HG5 : Hid (wr.grownBy w5 none) := grown_trans HG0.out hg5; have HR5 : Hid (RowIn w5 a5 (unl (R k)) kb) := RowIn.of hO5 (Nat.le_trans HF.out.lo.2.2.2.2.2 HG0.out.size); have y0 := (HF.out.kept HG5.out).row.cell k hlt; have y1 := (HF.out.kept HG5.out).row.free k; rw [if_neg (Nat.lt_irrefl k)] at y0; have HST : Hid (∀ v, (fun x => (x.cell? ⟨w.heap.size, 0, none⟩ = some (.slice ta tn tc) ∧ x.cell? ⟨w.heap.size, 1, none⟩ = some (.slice na nn nc) ∧ x.cell? ⟨w.heap.size, 2, none⟩ = some (.slice la ln lc) ∧ x.cell? ⟨w.heap.size, 3, none⟩ = some (.int .i64 st) ∧ x.cell? ⟨w.heap.size, 4, none⟩ = some (.slice (some ⟨bp, op, none⟩) n pc)) ∧ x.cell? ⟨bp, op + k * 3 + 1, none⟩ = some (.slice (ra k) (R k).length (rc k))) (w5.setCell ⟨rb, k, none⟩ v)) := (fun v => by { have h1 := HKS.out _ HG5.out; have h2 := HF.out.lo; have h3 := HBP.out k hlt; have G := grown_setCell (w := w5) rb k v; exact ⟨⟨G.cell h1.1.1 (by simp; omega), G.cell h1.1.2.1 (by simp; omega), G.cell h1.1.2.2.1 (by simp; omega), G.cell h1.1.2.2.2.1 (by simp; omega), G.cell h1.1.2.2.2.2 (by simp; omega)⟩, G.cell h1.2 (by simp; omega)⟩ }); clear hO5 hg5)
          | fail))
      go_wp2_with fail
      go_roundg (n - (k + 1))
      case measure => have := HGK.out; omega
      case rel => exact ⟨k + 1, _, _, by omega, rfl, by go_num, (HF.out.kept HG5.out).push HR5.out⟩
    · have hkn : n = k := by omega
      subst hkn
      have hkd : decide (n < n) = false := decide_eq_false (by omega)
      clear HGK
      generalize wr = w3 at *
      go_wp2_with fail
      go_loopg [6] (2 * (1024 * (S + 1) - tot S 0 m0) + 1) (fun gk v6 wr => ∃ (z v : Nat) (m : Nat → Nat), v6 = .int .i64 (z : Int) ∧ z ≤ 1024 * (S + 1) ∧ gk = 2 * (1024 * (S + 1) - tot S v m) + (if z = 0 then 0 else 1) ∧ Sound tn n L R v m ∧ (z = 0 → ∀ j, j < n → ClosedAt L R v m j) ∧ FoAt w wr #[.slice ta tn tc, .slice na nn nc, .slice la ln lc, .int .i64 st, .slice (some ⟨bp, op, none⟩) n pc] tn S n kb vb fb rb lo kb f v m n R ua uc)
      case atStart => exact ⟨1, 0, m0, rfl, by omega, rfl, HSO.out, fun h => by omega, HF.out⟩
      case round =>
        obtain ⟨z, v, m, rfl, hzb, hgk, hso, hcl, hF⟩ := hrel
        have HGK : Hid (gk = 2 * (1024 * (S + 1) - tot S v m) + (if z = 0 then 0 else 1)) := hgk
        have HSV : Hid (Sound tn n L R v m) := hso
        have HCV : Hid (z = 0 → ∀ j, j < n → ClosedAt L R v m j) := hcl
        have HFV : Hid (FoAt w wr #[.slice ta tn tc, .slice na nn nc, .slice la ln lc, .int .i64 st, .slice (some ⟨bp, op, none⟩) n pc] tn S n kb vb fb rb lo kb f v m n R ua uc) := hF
        clear hgk hso hcl hF HF
        by_cases hz0 : z = 0
        · subst hz0
          obtain ⟨⟨b0, b1, b2⟩, f0, f1, f2⟩ := box3 HFV.out.box
          obtain ⟨⟨r0, r1, r2⟩, g0, g1, g2⟩ := box3 HFV.out.res
          go_wp2_with fail
          refine bodyPost_ret (v := .agg #[.int .i64 (tn : Int), .pointer (some ⟨vb, 0, none⟩), .slice (some ⟨fb, 0, none⟩) S S]) (results_cell_row (fr := (0, 0)) rfl _ _ (w.heap.size + 1) 126 #[.int .i64 (tn : Int), .pointer (some ⟨vb, 0, none⟩), .slice (some ⟨fb, 0, none⟩) S S] _ rfl (by rw [heap_setCell_same _ _ _ _ _ _ (heap_setCell_same _ _ _ _ _ _ (heap_setCell_same _ _ _ _ _ _ HFV.out.res))]; rfl) Tryz.underlying126 rfl infoFound) rfl ⟨vb, fb, f, v, m, rfl, (HFV.out.told _ _ _).1, found_of HSV.out (HCV.out (by trivial)), (HFV.out.told _ _ _).2⟩
        · have hd1 : decide ((0 : Int) < (z : Int)) = true := decide_eq_true (by omega)
          have hd2 : decide (0 < z) = true := decide_eq_true (by omega)
          have HZ0 : Hid (¬ z = 0) := hz0
          clear hz0
          obtain ⟨k0, k1, k2, k3, k4⟩ := HFV.out.ph.cells
          generalize wr = w4 at *
          go_wp2_with fail
          clear k0 k1 k2 k3 k4
          go_loopg [6, 37] n (fun gk v6 i wr => ∃ (k z' v' : Nat) (m' : Nat → Nat), k ≤ n ∧ gk = n - k ∧ v6 = .int .i64 (z' : Int) ∧ i = .int .i64 k ∧ tot S v' m' = tot S v m + z' ∧ Sound tn n L R v' m' ∧ (z' = 0 → v' = v ∧ m' = m ∧ ∀ j, j < k → ClosedAt L R v m j) ∧ FoAt w wr #[.slice ta tn tc, .slice na nn nc, .slice la ln lc, .int .i64 st, .slice (some ⟨bp, op, none⟩) n pc] tn S n kb vb fb rb lo kb f v' m' n R ua uc)
          case atStart => exact ⟨0, 0, v, m, Nat.zero_le _, rfl, rfl, rfl, (Nat.add_zero _).symm, HSV.out, fun _ => ⟨rfl, rfl, fun j hj => absurd hj (Nat.not_lt_zero _)⟩, HFV.out⟩
          case round =>
            obtain ⟨k, z', v', m', hk, hgk2, rfl, rfl, htot, hso, hcl, hF⟩ := hrel
            have HGI : Hid (gk = n - k) := hgk2
            have HTO : Hid (tot S v' m' = tot S v m + z') := htot
            have HSI : Hid (Sound tn n L R v' m') := hso
            have HCI : Hid (z' = 0 → v' = v ∧ m' = m ∧ ∀ j, j < k → ClosedAt L R v m j) := hcl
            have HFI : Hid (FoAt w wr #[.slice ta tn tc, .slice na nn nc, .slice la ln lc, .int .i64 st, .slice (some ⟨bp, op, none⟩) n pc] tn S n kb vb fb rb lo kb f v' m' n R ua uc) := hF
            have hzb' : z' ≤ 1049600 := by have := tot_le S v' m'; omega
            clear hgk2 htot hso hcl hF
            by_cases hlt : k < n
            · have hk0 : (0 : Int) ≤ (k : Int) := by omega
              have hk1 : (k : Int) < (n : Int) := by omega
              have hkd : decide (k < n) = true := decide_eq_true hlt
              have hLk := HL.out k hlt
              obtain ⟨x0, hx0⟩ : ∃ x : Nat, L k = (x : Int) := ⟨(L k).toNat, by omega⟩
              have HX0 : Hid (L k = (x0 : Int)) := hx0
              rw [hx0] at hLk
              have hxS : x0 < S := by omega
              obtain ⟨ul, hul⟩ : ∃ u, u = (unl (R k)).length := ⟨_, rfl⟩
              have HKS : Hid (∀ x, FoAt w x #[.slice ta tn tc, .slice na nn nc, .slice la ln lc, .int .i64 st, .slice (some ⟨bp, op, none⟩) n pc] tn S n kb vb fb rb lo kb f (stV v' x0 (R k)) (stB v' m' x0 (R k)) n R ua uc ∨ wr.grownBy x none → (x.cell? ⟨kb, 0, none⟩ = some (.int .i64 (tn : Int)) ∧ x.cell? ⟨kb, 1, none⟩ = some (.pointer (some ⟨vb, 0, none⟩)) ∧ x.cell? ⟨kb, 2, none⟩ = some (.slice (some ⟨fb, 0, none⟩) S S)) ∧ x.cell? ⟨w.heap.size, 4, none⟩ = some (.slice (some ⟨bp, op, none⟩) n pc) ∧ x.cell? ⟨bp, op + k * 3, none⟩ = some (.int .i64 (x0 : Int)) ∧ x.cell? ⟨rb, k, none⟩ = some (.slice (ua k) ul (uc k))) := fun x hx => by
                have key : ∀ v1 m1, FoAt w x #[.slice ta tn tc, .slice na nn nc, .slice la ln lc, .int .i64 st, .slice (some ⟨bp, op, none⟩) n pc] tn S n kb vb fb rb lo kb f v1 m1 n R ua uc → (x.cell? ⟨kb, 0, none⟩ = some (.int .i64 (tn : Int)) ∧ x.cell? ⟨kb, 1, none⟩ = some (.pointer (some ⟨vb, 0, none⟩)) ∧ x.cell? ⟨kb, 2, none⟩ = some (.slice (some ⟨fb, 0, none⟩) S S)) ∧ x.cell? ⟨w.heap.size, 4, none⟩ = some (.slice (some ⟨bp, op, none⟩) n pc) ∧ x.cell? ⟨bp, op + k * 3, none⟩ = some (.int .i64 (x0 : Int)) ∧ x.cell? ⟨rb, k, none⟩ = some (.slice (ua k) ul (uc k)) := fun v1 m1 h => by
                  have h2 := h.row.cell k hlt
                  rw [if_pos hlt, ← hul] at h2
                  exact ⟨(box3 h.box).1, h.ph.cells.2.2.2.2, by rw [← hx0]; exact (HP.out k hlt x h.grown).1, h2⟩
                rcases hx with h | h
                · exact key _ _ h
                · exact key _ _ (HFI.out.kept h)
              have HG0 : Hid (wr.grownBy wr.drew none) := grown_drewN _ 1
              have HAD : Hid (Calls Tryz.prog 100 #[.agg #[.int .i64 (tn : Int), .pointer (some ⟨vb, 0, none⟩), .slice (some ⟨fb, 0, none⟩) S S], .int .i64 (x0 : Int), .slice (ua k) ul (uc k)] wr.drew fun e y => ∃ zz : Nat, e = .returned (.int .i64 (zz : Int)) ∧ FoAt w y #[.slice ta tn tc, .slice na nn nc, .slice la ln lc, .int .i64 st, .slice (some ⟨bp, op, none⟩) n pc] tn S n kb vb fb rb lo kb f (stV v' x0 (R k)) (stB v' m' x0 (R k)) n R ua uc ∧ tot S (stV v' x0 (R k)) (stB v' m' x0 (R k)) = tot S v' m' + zz) := by
                have h1 := HFI.out.kept HG0.out
                rw [hul]
                refine (addF_any lo kb tn S fb vb x0 f v' m' (ua k) (uc k) (unl (R k)) wr.drew h1.fat (h1.rows k hlt).ints (Nat.le_trans (unl_len _) (HRL.out k hlt)) (fun y hy => HR.out k hlt y ((unl_mem _ y).1 hy)) hts hz h1.lo.2.2.2.2.2 hxS).mono ?_
                rintro e y ⟨zz, rfl, h3, h4, h5⟩
                rw [stV_unl, stB_unl] at h3 h4
                exact ⟨zz, rfl, h1.out h5 h3, h4⟩
              have HNX : Hid (Sound tn n L R (stV v' x0 (R k)) (stB v' m' x0 (R k)) ∧ (tot S (stV v' x0 (R k)) (stB v' m' x0 (R k)) = tot S v' m' → stV v' x0 (R k) = v' ∧ stB v' m' x0 (R k) = m' ∧ ClosedAt L R v' m' k)) := by
                have e1 : (L k).toNat = x0 := by rw [hx0]; simp
                refine ⟨?_, fun h => ?_⟩
                · have := sound_step HSI.out hlt (HL.out k hlt).1 (fun x hx => (HR.out k hlt x hx).1)
                  rw [e1] at this
                  exact this
                · have hm : rowM v' m' (R k) < 2 ^ tn := rowM_lt fun x hx => by
                    have h1 := HR.out k hlt x hx
                    exact (HFI.out.fat.sets x.toNat (by omega)).2.1
                  have h2 := step_none hxS hz hts hm h
                  refine ⟨h2.1, h2.2.1, ?_, ?_⟩
                  · rw [e1]; exact h2.2.2.1
                  · rw [e1]; exact h2.2.2.2
              clear hx0 hul hLk
              go_wp2_with fail
              go_region_held3 (fun x => (x.cell? ⟨kb, 0, none⟩ = some (.int .i64 (tn : Int)) ∧ x.cell? ⟨kb, 1, none⟩ = some (.pointer (some ⟨vb, 0, none⟩)) ∧ x.cell? ⟨kb, 2, none⟩ = some (.slice (some ⟨fb, 0, none⟩) S S)) ∧ x.cell? ⟨w.heap.size, 4, none⟩ = some (.slice (some ⟨bp, op, none⟩) n pc) ∧ x.cell? ⟨bp, op + k * 3, none⟩ = some (.int .i64 (x0 : Int)) ∧ x.cell? ⟨rb, k, none⟩ = some (.slice (ua k) ul (uc k))) (first | exact HKS.out _ (.inr HG0.out) | exact HKS.out _ (.inl HF5.out) | go_keep)
                ((first
                  | (go_at_call 100; refine Calls.mono HAD.out ?_; rintro e w5 ⟨zz, rfl, hF5, ht5⟩; have HF5 : Hid (FoAt w w5 #[.slice ta tn tc, .slice na nn nc, .slice la ln lc, .int .i64 st, .slice (some ⟨bp, op, none⟩) n pc] tn S n kb vb fb rb lo kb f (stV v' x0 (R k)) (stB v' m' x0 (R k)) n R ua uc) := hF5; have HT5 : Hid (tot S (stV v' x0 (R k)) (stB v' m' x0 (R k)) = tot S v' m' + zz) := ht5; have hzz : zz ≤ 1049600 := (by { have h1 := tot_le S (stV v' x0 (R k)) (stB v' m' x0 (R k)); omega }); clear hF5 ht5)
                  | fail))
              go_wp2_with fail
              go_roundg (n - (k + 1))
              case measure => have := HGI.out; omega
              case rel => exact ⟨k + 1, z' + zz, _, _, by omega, rfl, by rw [show IntKind.i64.wrap ((z' : Int) + (zz : Int)) = ((z' + zz : Nat) : Int) by rw [IntKind.wrap_i64]; omega], by go_num, by rw [HT5.out, HTO.out]; omega, HNX.out.1, fun h0 => by
                have e1 : z' = 0 := by omega
                have e2 : zz = 0 := by omega
                obtain ⟨rfl, rfl, h3⟩ := HCI.out e1
                obtain ⟨h4, h5, h6⟩ := HNX.out.2 (by rw [HT5.out, e2, Nat.add_zero])
                refine ⟨h4, h5, fun j hj => ?_⟩
                by_cases e : j = k
                · rw [e]; exact h6
                · exact h3 j (by omega), HF5.out⟩
            · have hkn : n = k := by omega
              subst hkn
              have hkd : decide (n < n) = false := decide_eq_false (by omega)
              go_wp2_with fail
              go_roundg (2 * (1024 * (S + 1) - tot S v' m') + (if z' = 0 then 0 else 1))
              case measure =>
                have h1 := HGK.out
                rw [if_neg HZ0.out] at h1
                have h2 := HTO.out
                have h3 := tot_le S v' m'
                split <;> omega
              case rel => exact ⟨z', v', m', rfl, by have := tot_le S v' m'; have := HTO.out; omega, rfl, HSI.out, fun h0 => by
                obtain ⟨rfl, rfl, h3⟩ := HCI.out h0
                exact h3, HFI.out⟩

end Go.Proofs.YtkbjbijoekmooaaGreat

/-
  first: a grammar that may be; foundOf of it; Nullable.
-/
namespace Go.Proofs.YtkbjbijoekmooaaGreat
open Go.RowKit Go.Maps Go.Shelf

attribute [local go_sem] Oper.semAt_some

/-- What the marks lean on of a grammar that may be. -/
structure MayOK (tn nn n : Nat) (st : Int) (L : Nat → Int) (R : Nat → List Int) (cl : Bool) : Prop where
  t0 : 0 < tn
  tmax : tn ≤ 65
  n0 : 0 < nn
  nmax : nn ≤ 65
  pmax : n ≤ 97
  p0 : 0 < n
  left : ∀ k, k < n → (tn : Int) ≤ L k ∧ L k < ((tn + nn : Nat) : Int)
  right : ∀ k, k < n → ∀ x ∈ R k, (0 : Int) < x ∧ x < ((tn + nn : Nat) : Int)
  start : (tn : Int) ≤ st ∧ st < ((tn + nn : Nat) : Int)
  added : cl = true → L 0 = tn ∧ R 0 = [st]

theorem mayOK_closed {ts : List (ByteArray × Int)} {ns : List ByteArray} {lv : List Int} {st : Int} {n : Nat} {L : Nat → Int} {R : Nat → List Int} {V : Nat → Int} (h : closedOK ts ns lv st n L R V) : MayOK ts.length ns.length n st L R true := by
  obtain ⟨ha, hf⟩ := h
  have hs := hf.start
  unfold isNonI at hs
  refine ⟨hf.terms.1.1, hf.tn, ha.nn, by have := hf.nn; omega, by have := hf.pn; omega, ha.pn, fun k hk => ?_, fun k hk x hx => ?_, by omega, fun _ => ⟨ha.left, ha.right⟩⟩
  · by_cases h0 : k = 0
    · subst h0
      have := ha.left
      have := ha.nn
      omega
    · have := (hf.prods k (by omega) hk).1
      unfold isNonI at this
      omega
  · by_cases h0 : k = 0
    · subst h0
      rw [ha.right] at hx
      simp at hx
      have := hf.terms.1.1
      omega
    · have := (hf.prods k (by omega) hk).2.2 x hx
      unfold isSymI isNonI at this
      have := hf.terms.1.1
      omega
set_option maxRecDepth 100000 in
theorem kmayBe_any (ta na la pa : Option Addr) (tc nc lc pc : Nat) (ts : List (ByteArray × Int)) (ns : List ByteArray) (lv : List Int) (n : Nat) (L : Nat → Int) (R : Nat → List Int) (ra : Nat → Option Addr) (rc : Nat → Nat) (V : Nat → Int) (st : Int) (w : World) (tn nn ln : Nat) (hlen : ts.length = tn ∧ ns.length = nn ∧ lv.length = ln) (hG : GAt w ta na la pa tc nc lc pc ts ns lv n L R ra rc V) (r : Bool) (hr : r = true ↔ validOK ts ns lv st n L R V ∨ closedOK ts ns lv st n L R V) :
    Calls Tryz.prog 66 #[.agg #[.slice ta tn tc, .slice na nn nc, .slice la ln lc, .int .i64 st, .slice pa n pc]] w fun e w' => e = .returned (.bool r) ∧ w.grownBy w' none := by
  obtain ⟨rV, hrV⟩ := boolOf (validOK ts ns lv st n L R V)
  obtain ⟨rC, hrC⟩ := boolOf (closedOK ts ns lv st n L R V)
  have HV : Hid (∀ Y, w.grownBy Y none → Calls Tryz.prog 97 #[.agg #[.slice ta tn tc, .slice na nn nc, .slice la ln lc, .int .i64 st, .slice pa n pc]] Y fun e w' => e = .returned (.bool rV) ∧ Y.grownBy w' none) := fun Y hY => by
    have := valid_any ta na la pa tc nc lc pc ts ns lv n L R ra rc V st Y (hG.kept hY) rV hrV
    rwa [hlen.1, hlen.2.1, hlen.2.2] at this
  have HC : Hid (∀ Y, w.grownBy Y none → Calls Tryz.prog 44 #[.agg #[.slice ta tn tc, .slice na nn nc, .slice la ln lc, .int .i64 st, .slice pa n pc]] Y fun e w' => e = .returned (.bool rC) ∧ Y.grownBy w' none) := fun Y hY => by
    have := closed_any ta na la pa tc nc lc pc ts ns lv n L R ra rc V st Y (hG.kept hY) rC hrC
    rwa [hlen.1, hlen.2.1, hlen.2.2] at this
  have hre : r = (rV || rC) := by
    rw [Bool.eq_iff_iff, hr, Bool.or_eq_true, hrV, hrC]
  have HX0 : Hid (PhAt w (w.alloc (.cells #[.slice ta tn tc, .slice na nn nc, .slice la ln lc, .int .i64 st, .slice pa n pc] 27)) w.heap.size #[.slice ta tn tc, .slice na nn nc, .slice la ln lc, .int .i64 st, .slice pa n pc]) := ⟨World.grownBy_alloc _ _ none, heap_alloc_last w _⟩
  clear hG hlen hr hrV hrC
  subst hre
  cases rV
  · go_enter Tryz.func66, Tryz.ntmps66
    go_wp2_with fail
    refine Calls.mono (HV.out _ HX0.out.grown) ?_
    rintro e w1 ⟨rfl, hg1⟩
    have HX1 : Hid (PhAt w w1 w.heap.size #[.slice ta tn tc, .slice na nn nc, .slice la ln lc, .int .i64 st, .slice pa n pc]) := HX0.out.kept hg1
    obtain ⟨k0, k1, k2, k3, k4⟩ := HX1.out.cells
    clear hg1 HX0
    go_wp2_with fail
    refine Calls.mono (HC.out w1 HX1.out.grown) ?_
    rintro e w2 ⟨rfl, hg2⟩
    have HG2 : Hid (w.grownBy w2 none) := grown_trans HX1.out.grown hg2
    clear hg2 HX1 HC HV
    go_wp2_with fail
    go_ret
    exact ⟨by simp, HG2.out⟩
  · go_enter Tryz.func66, Tryz.ntmps66
    go_wp2_with fail
    refine Calls.mono (HV.out _ HX0.out.grown) ?_
    rintro e w1 ⟨rfl, hg1⟩
    have HX1 : Hid (PhAt w w1 w.heap.size #[.slice ta tn tc, .slice na nn nc, .slice la ln lc, .int .i64 st, .slice pa n pc]) := HX0.out.kept hg1
    obtain ⟨k0, k1, k2, k3, k4⟩ := HX1.out.cells
    clear hg1 HX0
    go_wp2_with fail
    go_ret
    exact ⟨by simp, HX1.out.grown⟩

theorem infoBoolK : (Tryz.prog.info? 4).map (fun i => (i.zero, i.size, i.bytes)) = some (some (.bool false), 1, 1) := by kernel_rfl

section
variable (ta na la pa : Option Addr) (tc nc lc pc : Nat) (ts : List (ByteArray × Int)) (ns : List ByteArray) (lv : List Int) (n : Nat) (L : Nat → Int) (R : Nat → List Int) (ra : Nat → Option Addr) (rc : Nat → Nat) (V : Nat → Int) (st : Int) (w : World) (tn nn ln : Nat) (hlen : ts.length = tn ∧ ns.length = nn ∧ lv.length = ln) (hG : GAt w ta na la pa tc nc lc pc ts ns lv n L R ra rc V)
include hlen hG

theorem kmay_ok (h : validOK ts ns lv st n L R V ∨ closedOK ts ns lv st n L R V) : Calls Tryz.prog 66 #[.agg #[.slice ta tn tc, .slice na nn nc, .slice la ln lc, .int .i64 st, .slice pa n pc]] w fun e w' => e = .returned (.bool true) ∧ w.grownBy w' none :=
  kmayBe_any ta na la pa tc nc lc pc ts ns lv n L R ra rc V st w tn nn ln hlen hG true ⟨fun _ => h, fun _ => rfl⟩

theorem found_ok {cl : Bool} (hM : MayOK tn nn n st L R cl) : Calls Tryz.prog 67 #[.agg #[.slice ta tn tc, .slice na nn nc, .slice la ln lc, .int .i64 st, .slice pa n pc]] w fun e y => FoundTold tn (tn + nn) n L R w e y := by
  have h0 := hM.p0
  rcases hG.prods with h | ⟨bp, op, rfl, hp⟩
  · omega
  · exact foundOf_any ta na la tn nn ln n tc nc lc pc (tn + nn) bp op st L R ra rc w rfl (by have := hM.tmax; have := hM.nmax; omega) (by have := hM.pmax; omega) (fun k hk => ⟨(hp k hk).1, (hp k hk).2.1, (hp k hk).2.2.2.1, (hp k hk).2.2.2.2.2⟩) (fun k hk => ⟨by have := hM.left k hk; omega, (hM.left k hk).2⟩) (fun k hk x hx => ⟨by have := hM.right k hk x hx; omega, (hM.right k hk x hx).2⟩)

end

/-- While Nullable or Sets goes over the nonterminals: the boxes, what is found, and the row so far. -/
structure NlAt (w X : World) (cs : Array Value) (tn S nn kb vb fb rb : Nat) (f : Nat → Nat) (v : Nat) (m : Nat → Nat) (t : TypeId) (c : Nat → Value) : Prop where
  grown : w.grownBy X none
  gbox : X.heap[w.heap.size]? = some (.cells cs 27 (0, 0))
  box : X.heap[kb]? = some (.cells #[.int .i64 (tn : Int), .pointer (some ⟨vb, 0, none⟩), .slice (some ⟨fb, 0, none⟩) S S] 126 (0, 0))
  fat : FAt X w.heap.size kb tn S fb vb f v m
  row : ValAt X rb nn t c
  lo : w.heap.size < kb ∧ kb < rb
section
variable {w X Z : World} {cs : Array Value} {tn S nn kb vb fb rb : Nat} {f : Nat → Nat} {v : Nat} {m : Nat → Nat} {t : TypeId} {c : Nat → Value}
theorem NlAt.kept (h : NlAt w X cs tn S nn kb vb fb rb f v m t c) (hg : X.grownBy Z none) : NlAt w Z cs tn S nn kb vb fb rb f v m t c :=
  ⟨grown_trans h.grown hg, (boxKept h.gbox hg).out, (boxKept h.box hg).out, h.fat.kept hg, h.row.kept hg, h.lo⟩
theorem NlAt.set (h : NlAt w X cs tn S nn kb vb fb rb f v m t c) (i : Nat) (u : Value) : NlAt w (X.setCell ⟨rb, i, none⟩ u) cs tn S nn kb vb fb rb f v m t (put c i u) := by
  have G : X.grownBy (X.setCell ⟨rb, i, none⟩ u) (some rb) := grown_setCell _ _ _
  have hl := h.lo
  exact ⟨grown_at h.grown G (by omega), (G.block _ (Array.getElem?_eq_some_iff.1 h.gbox).1 (by simp; omega)).trans h.gbox, (G.block _ (Array.getElem?_eq_some_iff.1 h.box).1 (by simp; omega)).trans h.box, h.fat.other G (.inr (by omega)), h.row.set i u, h.lo⟩
theorem NlAt.ph (h : NlAt w X cs tn S nn kb vb fb rb f v m t c) : PhAt w X w.heap.size cs := ⟨h.grown, h.gbox⟩
end
theorem ValAt.ext {w : World} {k len : Nat} {t : TypeId} {c d : Nat → Value} (h : ValAt w k len t c) (e : ∀ i, i < len → c i = d i) : ValAt w k len t d := by
  unfold ValAt at *
  rw [h, List.map_congr_left fun i hi => e i (by simpa using hi)]

set_option maxRecDepth 100000 in
set_option maxHeartbeats 1000000 in
theorem nullable_ok (ta na la pa : Option Addr) (tc nc lc pc : Nat) (ts : List (ByteArray × Int)) (ns : List ByteArray) (lv : List Int) (n : Nat) (L : Nat → Int) (R : Nat → List Int) (ra : Nat → Option Addr) (rc : Nat → Nat) (V : Nat → Int) (st : Int) (w : World) (tn nn ln : Nat) (hlen : ts.length = tn ∧ ns.length = nn ∧ lv.length = ln) (hG : GAt w ta na la pa tc nc lc pc ts ns lv n L R ra rc V) (h : validOK ts ns lv st n L R V ∨ closedOK ts ns lv st n L R V) {cl : Bool} (hM : MayOK tn nn n st L R cl) (F : Nat → Bool) (hF : ∀ i : Nat, F i = true ↔ Nul n L R ((tn + i : Nat) : Int)) :
    Calls Tryz.prog 38 #[.agg #[.slice ta tn tc, .slice na nn nc, .slice la ln lc, .int .i64 st, .slice pa n pc]] w fun e y => ∃ k, e = .returned (.tuple #[.slice (some ⟨k, 0, none⟩) nn nn, .int .i64 0]) ∧ w.heap.size ≤ k ∧ ValAt y k nn 4 (fun i => .bool (F i)) ∧ w.grownBy y none := by
  have HMB : Hid (∀ X, w.grownBy X none → Calls Tryz.prog 66 #[.agg #[.slice ta tn tc, .slice na nn nc, .slice la ln lc, .int .i64 st, .slice pa n pc]] X fun e w' => e = .returned (.bool true) ∧ X.grownBy w' none) := fun X hX => kmay_ok ta na la pa tc nc lc pc ts ns lv n L R ra rc V st X tn nn ln hlen (hG.kept hX) h
  have HFO : Hid (∀ X, w.grownBy X none → Calls Tryz.prog 67 #[.agg #[.slice ta tn tc, .slice na nn nc, .slice la ln lc, .int .i64 st, .slice pa n pc]] X fun e y => FoundTold tn (tn + nn) n L R X e y) := fun X hX => found_ok ta na la pa tc nc lc pc ts ns lv n L R ra rc V st X tn nn ln hlen (hG.kept hX) hM
  obtain ⟨S, hS⟩ : ∃ S, S = tn + nn := ⟨_, rfl⟩
  rw [← hS] at HFO
  have hnn : nn ≤ 65 := hM.nmax
  have htn : tn ≤ 65 := hM.tmax
  have HX0 : Hid (PhAt w (w.alloc (.cells #[.slice ta tn tc, .slice na nn nc, .slice la ln lc, .int .i64 st, .slice pa n pc] 27)) w.heap.size #[.slice ta tn tc, .slice na nn nc, .slice la ln lc, .int .i64 st, .slice pa n pc]) := ⟨World.grownBy_alloc _ _ none, heap_alloc_last w _⟩
  have HFF : Hid (∀ i : Nat, F i = true ↔ Nul n L R ((tn + i : Nat) : Int)) := hF
  obtain ⟨i0, hi0, hz0, hz1, hz2⟩ := info_parts infoBoolK
  clear hG hlen h hM hF hS
  go_enter Tryz.func38, Tryz.ntmps38
  go_wp2_with fail
  refine Calls.mono (HMB.out _ HX0.out.grown) ?_
  rintro e w1 ⟨rfl, hg1⟩
  have HX1 : Hid (PhAt w w1 w.heap.size #[.slice ta tn tc, .slice na nn nc, .slice la ln lc, .int .i64 st, .slice pa n pc]) := HX0.out.kept hg1
  clear hg1 HX0
  obtain ⟨k0, k1, k2, k3, k4⟩ := HX1.out.cells
  go_wp2_with fail
  refine Calls.mono (HFO.out _ HX1.out.grown) ?_
  rintro e w2 ⟨vb, fb, f, v, m, rfl, hF2, hfd, hg2⟩
  clear k0 k1 k2 k3 k4
  have HFD : Hid (∀ i, v.testBit (tn + i) = F i) := fun i => by
    have h1 := hfd.nul (tn + i)
    have h2 := HFF.out i
    have h3 : v.testBit (tn + i) = true ↔ F i = true := h1.trans h2.symm
    cases ha : v.testBit (tn + i) <;> cases hb : F i <;> simp_all
  obtain ⟨kb, hkb⟩ : ∃ kb, kb = w2.heap.size := ⟨_, rfl⟩
  obtain ⟨X2, hX2⟩ : ∃ X2, X2 = w2.alloc (.cells #[.int .i64 (tn : Int), .pointer (some ⟨vb, 0, none⟩), .slice (some ⟨fb, 0, none⟩) S S] 126) := ⟨_, rfl⟩
  have hgb : w2.grownBy X2 none := by rw [hX2]; exact World.grownBy_alloc _ _ none
  have hf2 : FAt X2 w.heap.size kb tn S fb vb f v m := by
    have h3 := hF2.kept hgb
    have h4 := HX1.out.grown.size
    exact ⟨h3.row, h3.sets, h3.van, ⟨⟨by have := h3.rng.1; omega, by have := h3.rng.1; omega⟩, ⟨by have := h3.rng.2.1; omega, by have := h3.rng.2.1; omega⟩, fun i hi => ⟨by have := h3.rng.2.2 i hi; omega, by have := h3.rng.2.2 i hi; omega⟩⟩, h3.inj, h3.ne⟩
  have HP2 : Hid (PhAt w X2 w.heap.size #[.slice ta tn tc, .slice na nn nc, .slice la ln lc, .int .i64 st, .slice pa n pc]) := HX1.out.kept (grown_trans hg2 hgb)
  have HB2 : Hid (X2.heap[kb]? = some (.cells #[.int .i64 (tn : Int), .pointer (some ⟨vb, 0, none⟩), .slice (some ⟨fb, 0, none⟩) S S] 126 (0, 0))) := by show _ = _; rw [hX2, hkb]; exact heap_alloc_last w2 _
  have HF2 : Hid (FAt X2 w.heap.size kb tn S fb vb f v m) := hf2
  have HSZ : Hid (w.heap.size < kb ∧ X2.heap.size = kb + 1) := ⟨by have h5 := (Array.getElem?_eq_some_iff.1 HX1.out.box).1; have := hg2.size; omega, by rw [hX2, hkb]; simp⟩
  obtain ⟨k0, k1, k2, k3, k4⟩ := HP2.out.cells
  rw [hX2] at k0 k1 k2 k3 k4
  have HXE := show Hid _ from hX2
  have HKE := show Hid _ from hkb
  clear hF2 hfd hg2 hf2 hgb hX2 hkb HX1
  go_wp2_with (at_make; refine wpList_make_full _ rfl _ _ 47 rfl (w2.heap.size + 1) 4 i0 (.bool false) 1 Tryz.underlying47 hi0 hz0 hz1 .i64 .i64 _ _ nn rfl rfl (by simp) (by simp) (by rw [hz2]; omega) (by unfold maxLen; omega) (by simp) ?_)
  intro w3 hown hgrow
  rw [← HXE.out] at hgrow
  rw [← HKE.out] at hown
  rw [← HKE.out]
  have hval : ValAt w3 (kb + 1) nn 4 (fun _ => .bool false) := made_rowK (B := kb + 1) rfl (by simpa [Value.cells] using hown)
  have hnl : NlAt w w3 #[.slice ta tn tc, .slice na nn nc, .slice la ln lc, .int .i64 st, .slice pa n pc] tn S nn kb vb fb (kb + 1) f v m 4 (fun i => .bool (decide (i < 0) && F i)) := ⟨grown_trans HP2.out.grown hgrow, (HP2.out.kept hgrow).box, (boxKept HB2.out hgrow).out, HF2.out.kept hgrow, by simpa using hval, ⟨HSZ.out.1, by omega⟩⟩
  obtain ⟨rb, hrb⟩ : ∃ rb, rb = kb + 1 := ⟨_, rfl⟩
  rw [← hrb] at hnl
  rw [← hrb]
  have HNL := show Hid _ from hnl
  clear hown hgrow hval hnl hrb HXE HKE HP2 HB2 HF2 HSZ k0 k1 k2 k3 k4 hi0 hz0 hz1 hz2
  obtain ⟨k0, k1, k2, k3, k4⟩ := HNL.out.ph.cells
  go_wp2_with fail
  clear k0 k1 k2 k3 k4
  go_loopg [19] nn (fun gk i wr => ∃ (k : Nat), k ≤ nn ∧ gk = nn - k ∧ i = .int .i64 k ∧ NlAt w wr #[.slice ta tn tc, .slice na nn nc, .slice la ln lc, .int .i64 st, .slice pa n pc] tn S nn kb vb fb rb f v m 4 (fun i => .bool (decide (i < k) && F i)))
  case atStart => exact ⟨0, Nat.zero_le _, rfl, rfl, HNL.out⟩
  case round =>
    obtain ⟨k, hk, hgk, rfl, hN⟩ := hrel
    have HGK : Hid (gk = nn - k) := hgk
    have HN : Hid (NlAt w wr #[.slice ta tn tc, .slice na nn nc, .slice la ln lc, .int .i64 st, .slice pa n pc] tn S nn kb vb fb rb f v m 4 (fun i => .bool (decide (i < k) && F i))) := hN
    clear hgk hN HNL
    by_cases hlt : k < nn
    · have hk0 : (0 : Int) ≤ (k : Int) := by omega
      have hk1 : (k : Int) < (nn : Int) := by omega
      have hkd : decide (k < nn) = true := decide_eq_true hlt
      obtain ⟨k0, k1, k2, k3, k4⟩ := HN.out.ph.cells
      obtain ⟨⟨b0, b1, b2⟩, f0, f1, f2⟩ := box3 HN.out.box
      have HHS : Hid (∀ X, NlAt w X #[.slice ta tn tc, .slice na nn nc, .slice la ln lc, .int .i64 st, .slice pa n pc] tn S nn kb vb fb rb f v m 4 (fun i => .bool (decide (i < k) && F i)) → Calls Tryz.prog 68 #[.pointer (some ⟨vb, 0, none⟩), .int .i64 ((tn : Int) + (k : Int))] X fun e w' => e = .returned (.bool (F k)) ∧ X.grownBy w' none) := fun X hX => by
        have := has_in vb S v (tn + k) X hX.fat.van
        rw [HFD.out] at this
        exact this
      go_wp2_with fail
      refine Calls.mono (HHS.out _ HN.out) ?_
      rintro e w5 ⟨rfl, hg5⟩
      have HN5 : Hid (NlAt w w5 #[.slice ta tn tc, .slice na nn nc, .slice la ln lc, .int .i64 st, .slice pa n pc] tn S nn kb vb fb rb f v m 4 (fun i => .bool (decide (i < k) && F i))) := HN.out.kept hg5
      have y0 := HN5.out.row.cell k hlt
      have y1 := HN5.out.row.free k
      clear hg5 HN k0 k1 k2 k3 k4 b0 b1 b2 f0 f1 f2
      go_wp2_with fail
      go_roundg (nn - (k + 1))
      case measure => have := HGK.out; omega
      case rel =>
        refine ⟨k + 1, by omega, rfl, by go_num, ?_⟩
        have h2 := HN5.out.set k (.bool (F k))
        exact ⟨h2.grown, h2.gbox, h2.box, h2.fat, h2.row.ext fun i _ => by
          unfold put
          by_cases e : i = k
          · subst e; simp
          · by_cases e2 : i < k
            · have e3 : i < k + 1 := by omega
              simp [e, e2, e3]
            · have e3 : ¬ i < k + 1 := by omega
              simp [e, e2, e3], h2.lo⟩
    · have hkn : nn = k := by omega
      subst hkn
      have hkd : decide (nn < nn) = false := decide_eq_false (by omega)
      go_wp2_with fail
      go_ret2
      exact ⟨rb, rfl, by have := HN.out.lo; omega, HN.out.row.ext fun i hi => by simp [hi], HN.out.grown⟩

end Go.Proofs.YtkbjbijoekmooaaGreat
