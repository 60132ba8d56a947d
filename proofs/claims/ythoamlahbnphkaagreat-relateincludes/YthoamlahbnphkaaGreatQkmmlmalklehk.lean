import Derived.Test.YthoamlahbnphkaaGreatQmmjmiagfdmka
import Derived.Deep.RegionWith
import Derived.Deep.RegionHeld3
import Derived.Deep.DrawnRows

/-
  What Add and Drop do.
-/
namespace Go.Proofs.YthoamlahbnphkaaGreat.B
open Go.RowKit

/-- One member more: the set, and how many were new. -/
def addStep (n : Nat) (s : Nat × Nat) (x : Int) : Nat × Nat := if inB n x && !hasB s.1 x then (s.1 ||| 2 ^ x.toNat, s.2 + 1) else s
def addS (n m : Nat) (l : List Int) : Nat × Nat := l.foldl (addStep n) (m, 0)
/-- One member less: the set, and how many were there. -/
def dropStep (s : Nat × Nat) (x : Int) : Nat × Nat := if hasB s.1 x then (s.1 ^^^ 2 ^ x.toNat, s.2 + 1) else s
def dropS (m : Nat) (l : List Int) : Nat × Nat := l.foldl dropStep (m, 0)

theorem addS_snoc (n m : Nat) (l : List Int) (k : Nat) (hk : k < l.length) : addS n m (l.take (k + 1)) = addStep n (addS n m (l.take k)) (l.getD k 0) := by
  unfold addS
  rw [List.take_succ_eq_append_getElem hk, List.foldl_append]
  simp [List.getD, hk]
/-- What is stored when n is added. -/
theorem or_bit (m n : Nat) : bits BinOp.or IntKind.u64 (wd m (n / 64) : Int) (bt n : Int) = (wd (m ||| 2 ^ n) (n / 64) : Nat) := by
  rw [bits_or_u64_nat _ _ (wd_lt _ _) (bt_lt _), wd_or, wd_two_pow, if_pos rfl]; rfl
theorem or_other (m n i : Nat) (h : i ≠ n / 64) : wd (m ||| 2 ^ n) i = wd m i := by rw [wd_or, wd_two_pow, if_neg h]; simp
theorem RowAt.added {w : World} {b n m : Nat} (h : RowAt w b n (wd m)) (k : Nat) (hk : k < 1024) : RowAt (w.setCell ⟨b, 1 + k / 64, none⟩ (.int .u64 (wd (m ||| 2 ^ k) (k / 64) : Nat))) b n (wd (m ||| 2 ^ k)) :=
  (h.setWord (k / 64) _ (by omega)).congr fun i _ => by
    by_cases e : i = k / 64
    · subst e; simp
    · simp only [e, if_false]; exact (or_other m k i e).symm

/-- The numbers of a slice lie where it leads to. -/
def IntsAt (w : World) (a : Option Addr) (l : List Int) : Prop :=
  l = [] ∨ ∃ b off, a = some ⟨b, off, none⟩ ∧ ∀ i, i < l.length → w.cell? ⟨b, off + i, none⟩ = some (.int .i64 (l.getD i 0))

theorem But.drewN {b : Nat} {w w' : World} (h : But b w w') (k : Nat) : But b w (w'.drewN k) := ⟨h.os, h.tape, h.output, h.size, h.block⟩
theorem RowAt.drewN {w : World} {b n : Nat} {f : Nat → Nat} (h : RowAt w b n f) (k : Nat) : RowAt (w.drewN k) b n f := h

theorem has_is {p : Option Addr} {n m : Nat} {x : Int} {w : World} (h : SetM w p n m) (hx : hasB m x = true) :
    Calls Tryz.prog 68 #[.pointer p, .int .i64 x] w fun e w' => e = .returned (.bool true) ∧ ∃ k, w' = w.drewN k := by
  have := has_any p n m x w h
  rwa [hx] at this
theorem has_isnt {p : Option Addr} {n m : Nat} {x : Int} {w : World} (h : SetM w p n m) (hx : hasB m x = false) :
    Calls Tryz.prog 68 #[.pointer p, .int .i64 x] w fun e w' => e = .returned (.bool false) ∧ ∃ k, w' = w.drewN k := by
  have := has_any p n m x w h
  rwa [hx] at this

theorem add_none (a : Option Addr) (cap : Nat) (p : Option Addr) (w : World) :
    Calls Tryz.prog 125 #[.pointer p, .slice a 0 cap] w fun e w' => e = .returned (.int .i64 0) ∧ w' = w := by
  go_enter Tryz.func125, Tryz.ntmps125
  go_wp2
  go_loop [5, 10] (fun a i => a = .int .i64 0 ∧ i = .int .i64 0) (fun _ _ => 0)
  case atStart => exact ⟨rfl, rfl⟩
  case round =>
    obtain ⟨rfl, rfl⟩ := hrel
    go_wp2
    go_ret
    exact ⟨rfl, rfl⟩

attribute [local go_sem ↓] Go.wp_at_zero Go.wp_at_succ

set_option maxHeartbeats 1000000 in
theorem add_row (b n m bl off cap : Nat) (l : List Int) (w : World) (hn : n ≤ 1024) (hm : m < 2 ^ n) (hr : RowAt w b n (wd m)) (hne : bl ≠ b) (hlen : l.length < 1152921504606846976)
    (hc : ∀ i, i < l.length → w.cell? ⟨bl, off + i, none⟩ = some (.int .i64 (l.getD i 0))) :
    Calls Tryz.prog 125 #[.pointer (some ⟨b, 0, none⟩), .slice (some ⟨bl, off, none⟩) l.length cap] w fun e w' =>
      e = .returned (.int .i64 ((addS n m l).2 : Nat)) ∧ RowAt w' b n (wd (addS n m l).1) ∧ (addS n m l).1 < 2 ^ n ∧ But b w w' := by
  have HC : Hid (∀ i, i < l.length → w.cell? ⟨bl, off + i, none⟩ = some (.int .i64 (l.getD i 0))) := hc
  have HR : Hid (RowAt w b n (wd m)) := hr
  have HM : Hid (m < 2 ^ n) := hm
  clear hc hr hm
  go_enter Tryz.func125, Tryz.ntmps125
  go_wp2
  go_loopw [5, 10] (fun a i wr => ∃ k : Nat, k ≤ l.length ∧ i = .int .i64 k ∧ a = .int .i64 ((addS n m (l.take k)).2 : Nat) ∧ (addS n m (l.take k)).2 ≤ k ∧ (addS n m (l.take k)).1 < 2 ^ n ∧ RowAt wr b n (wd (addS n m (l.take k)).1) ∧ But b w wr)
    (fun _ i _ => l.length - (intOf i).toNat)
  case atStart => exact ⟨0, Nat.zero_le _, rfl, rfl, Nat.zero_le _, HM.out, HR.out, But.refl _ _⟩
  case round =>
    obtain ⟨k, hk, rfl, rfl, hle, hlt2, hrow, hbut⟩ := hrel
    by_cases hlt : k < l.length
    · have hsn := addS_snoc n m l k hlt
      have hcell : wr.cell? ⟨bl, off + k, none⟩ = some (.int .i64 (l.getD k 0)) := by
        have h1 := HC.out k hlt
        have h2 : bl < w.heap.size := World.block_lt_of_cell? w _ h1
        rw [World.cell?_of_block (w := w) (hbut.block bl h2 hne)]; exact h1
      generalize l.getD k 0 = x at hsn hcell
      generalize addS n m (l.take k) = s at *
      obtain ⟨sm, sk⟩ := s
      have HSN : Hid (addS n m (l.take (k + 1)) = addStep n (sm, sk) x) := hsn
      have HS : Hid (SetM wr (some ⟨b, 0, none⟩) n sm) := SetM.of hrow hn hlt2
      have HROW : Hid (RowAt wr b n (wd sm)) := hrow
      have HLT2 : Hid (sm < 2 ^ n) := hlt2
      have HBUT : Hid (But b w wr) := hbut
      clear hsn hrow hlt2 hbut
      cases hin : inB n x with
      | false =>
        have HIN : Hid (inB n x = false) := hin
        clear hin
        go_wp2_with (go_at_call 103; refine (holds_no HS.out HIN.out).mono ?_; rintro e w2 ⟨rfl, rfl⟩)
        go_roundw
        case rel =>
          have e : addS n m (l.take (k + 1)) = (sm, sk) := by rw [HSN.out]; simp [addStep, HIN.out]
          exact ⟨k + 1, by omega, by go_num, by rw [e], by rw [e]; simp; omega, by rw [e]; exact HLT2.out, by rw [e]; exact HROW.out, HBUT.out⟩
        case measure => simp [intOf]; omega
      | true =>
        have HIN : Hid (inB n x = true) := hin
        obtain ⟨h0, h1⟩ : 0 ≤ x ∧ x < n := by simpa [inB] using hin
        clear hin
        cases hh : hasB sm x with
        | true =>
          have HH : Hid (hasB sm x = true) := hh
          clear hh
          go_wp2_with (first | (go_at_call 103; refine (holds_yes HS.out HIN.out).mono ?_; rintro e w2 ⟨rfl, rfl⟩) | (go_at_call 68; refine (has_is HS.out HH.out).mono ?_; rintro e w2 ⟨rfl, j, rfl⟩))
          go_roundw
          case rel =>
            have e : addS n m (l.take (k + 1)) = (sm, sk) := by rw [HSN.out]; simp [addStep, HH.out]
            exact ⟨k + 1, by omega, by go_num, by rw [e], by rw [e]; simp; omega, by rw [e]; exact HLT2.out, by rw [e]; exact HROW.out, HBUT.out.drewN _⟩
          case measure => simp [intOf]; omega
        | false =>
          have HH : Hid (hasB sm x = false) := hh
          clear hh
          obtain ⟨y, rfl⟩ := Int.eq_ofNat_of_zero_le h0
          have hy : y < 1024 := by omega
          have hyi : (y : Int) / 64 < 16 := by omega
          have hyi0 : (0 : Int) ≤ (y : Int) / 64 := by omega
          have hq1 : (y : Int).tdiv 64 = (y : Int) / 64 := Int.tdiv_eq_ediv_of_nonneg (by omega)
          have hq2 : IntKind.i64.wrap ((y : Int) / 64) = (y : Int) / 64 := by rw [IntKind.wrap_i64]; omega
          have hq3 : ((y : Int) / 64).toNat = y / 64 := by omega
          have hw := HROW.out.word (y / 64) (by omega)
          have hfz := HROW.out.free (1 + y / 64)
          have ho := or_bit sm y
          go_wp2_with (first | (go_at_call 103; refine (holds_yes HS.out HIN.out).mono ?_; rintro e w2 ⟨rfl, rfl⟩) | (go_at_call 68; refine (has_isnt HS.out HH.out).mono ?_; rintro e w2 ⟨rfl, j, rfl⟩))
          go_region_with (go_at_call 104; refine (bit_any y hy _).mono ?_; rintro e w' ⟨rfl, rfl⟩)
          all_goals go_wp2
          all_goals go_roundw
          case' rel =>
            have e : addS n m (l.take (k + 1)) = (sm ||| 2 ^ y, sk + 1) := by rw [HSN.out]; simp [addStep, HH.out, HIN.out]
            exact ⟨k + 1, by omega, by go_num, by rw [e]; go_num, by rw [e]; simp; omega, by rw [e]; exact lt_or HLT2.out (two_pow_lt (by omega)), by rw [e]; exact RowAt.added (RowAt.drewN HROW.out _) y hy, (But.drewN HBUT.out _).setCell _ _⟩
          case' measure => simp [intOf]; omega
          case' rel =>
            have e : addS n m (l.take (k + 1)) = (sm ||| 2 ^ y, sk + 1) := by rw [HSN.out]; simp [addStep, HH.out, HIN.out]
            exact ⟨k + 1, by omega, by go_num, by rw [e]; go_num, by rw [e]; simp; omega, by rw [e]; exact lt_or HLT2.out (two_pow_lt (by omega)), by rw [e]; exact RowAt.added (RowAt.drewN HROW.out _) y hy, (But.drewN HBUT.out _).setCell _ _⟩
          case' measure => simp [intOf]; omega
    · have : k = l.length := by omega
      subst this
      rw [List.take_length] at *
      go_wp2
      go_ret
      exact ⟨rfl, hrow, hlt2, hbut⟩

end Go.Proofs.YthoamlahbnphkaaGreat.B

/-
  What Drop does; Add and Drop of sets without room.
-/
namespace Go.Proofs.YthoamlahbnphkaaGreat.B
open Go.RowKit

/-! ### A set without room (nil among them): nothing is taken, nothing is there. -/
theorem inB_zero (x : Int) : inB 0 x = false := by
  unfold inB
  by_cases h : 0 ≤ x
  · have : ¬ x < ((0 : Nat) : Int) := by omega
    rw [decide_eq_false this, Bool.and_false]
  · simp [h]
theorem add_zero (p : Option Addr) (bl off cap : Nat) (l : List Int) (w : World) (h : SetM w p 0 0) (hlen : l.length < 1152921504606846976)
    (hc : ∀ i, i < l.length → w.cell? ⟨bl, off + i, none⟩ = some (.int .i64 (l.getD i 0))) :
    Calls Tryz.prog 125 #[.pointer p, .slice (some ⟨bl, off, none⟩) l.length cap] w fun e w' => e = .returned (.int .i64 0) ∧ w' = w := by
  have H : Hid (SetM w p 0 0) := h
  have HC : Hid (∀ i, i < l.length → w.cell? ⟨bl, off + i, none⟩ = some (.int .i64 (l.getD i 0))) := hc
  clear hc h
  go_enter Tryz.func125, Tryz.ntmps125
  go_wp2
  go_loop [5, 10] (fun a i => ∃ k : Nat, k ≤ l.length ∧ i = .int .i64 k ∧ a = .int .i64 0) (fun _ i => l.length - (intOf i).toNat)
  case atStart => exact ⟨0, Nat.zero_le _, rfl, rfl⟩
  case round =>
    obtain ⟨k, hk, rfl, rfl⟩ := hrel
    by_cases hlt : k < l.length
    · have hcell := HC.out k hlt
      generalize l.getD k 0 = x at hcell
      go_wp2_with (go_at_call 103; refine (holds_no H.out (inB_zero _)).mono ?_; rintro e w2 ⟨rfl, rfl⟩)
      go_round
      case rel => exact ⟨k + 1, by omega, by go_num, rfl⟩
      case measure => simp [intOf]; omega
    · go_wp2
      go_ret
      exact ⟨rfl, rfl⟩

end Go.Proofs.YthoamlahbnphkaaGreat.B
