/-
  What Union does.
-/
import Derived.Test.YtdhojilmgnodeaaDoorQpkcgoeojlcgm
namespace Go.Proofs.YtdhojilmgnodeaaDoor.B
open Go.RowKit

/-- What a union comes to: each of the others' members that are below the size. -/
def uS (n m : Nat) (L : List (Option Addr × Nat)) : Nat := L.foldl (fun acc e => acc ||| (e.2 &&& (2 ^ n - 1))) m

theorem uS_snoc (n m : Nat) (L : List (Option Addr × Nat)) (k : Nat) (hk : k < L.length) : uS n m (L.take (k + 1)) = uS n m (L.take k) ||| ((L.getD k (none, 0)).2 &&& (2 ^ n - 1)) := by
  unfold uS
  rw [List.take_succ_eq_append_getElem hk, List.foldl_append]
  simp [List.getD, hk]
theorem uS_lt (n m : Nat) (L : List (Option Addr × Nat)) (hm : m < 2 ^ n) : uS n m L < 2 ^ n := by
  unfold uS
  induction L generalizing m with
  | nil => exact hm
  | cons e L ih => rw [List.foldl_cons]; exact ih _ (lt_or hm (lt_and_right (ones_lt n)))

/-- What Count does, with some function for the count. -/
def CountIs (c : Nat → Nat) : Prop := ∀ p n m w, SetM w p n m → Calls Tryd.prog 51 #[.pointer p] w fun e w' => e = .returned (.int .i64 (c m : Nat)) ∧ Below w.heap.size w w'
theorem countIs : CountIs cnt := count_any

/-- What is stored at word i of a union. -/
theorem or_word (a b on i : Nat) : bits BinOp.or IntKind.u64 (wd a i : Int) (bits BinOp.and IntKind.u64 (wd b i : Int) (wd on i : Nat)) = (wd (a ||| (b &&& on)) i : Nat) := by
  have h : wd b i &&& wd on i < 18446744073709551616 := Nat.lt_of_le_of_lt Nat.and_le_left (wd_lt b i)
  rw [bits_and_u64_nat _ _ (wd_lt _ _) (wd_lt _ _), bits_or_u64_nat _ _ (wd_lt _ _) h, wd_or, wd_and]

/-- The words up to k of x, the others of y. -/
def mix (k : Nat) (x y : Nat) (i : Nat) : Nat := if i < k then wd x i else wd y i

theorem RowAt.mixed {w : World} {b n x y k : Nat} (h : RowAt w b n (mix k x y)) (hk : k < 16) : RowAt (w.setCell ⟨b, 1 + k, none⟩ (.int .u64 (wd x k : Nat))) b n (mix (k + 1) x y) :=
  (h.setWord k _ hk).congr fun i _ => by
    unfold mix
    by_cases e : i = k
    · subst e; simp
    · simp only [e, if_false]
      by_cases e2 : i < k
      · rw [if_pos e2, if_pos (by omega)]
      · rw [if_neg e2, if_neg (by omega)]

/-- The pointers of a slice lie where it leads to. -/
def PtrsAt (w : World) (a : Option Addr) (L : List (Option Addr × Nat)) : Prop :=
  L = [] ∨ ∃ b off, a = some ⟨b, off, none⟩ ∧ ∀ i, i < L.length → w.cell? ⟨b, off + i, none⟩ = some (.pointer (L.getD i (none, 0)).1)

/-- What the others of a call on set b are: b itself (which adds nothing), or other sets. -/
def OtherOk (w : World) (b : Nat) (q : Option Addr) (m' : Nat) : Prop :=
  (q = some ⟨b, 0, none⟩ ∧ m' = 0) ∨ (q ≠ some ⟨b, 0, none⟩ ∧ ∃ n', SetM w q n' m')

theorem below_at (n i : Nat) (hn : n ≤ 1024) (hi : i < 16) (w : World) :
    Calls Tryd.prog 71 #[.int .i64 n, .int .i64 i] w fun e w' => e = .returned (.int .u64 ((wd (2 ^ n - 1) i : Nat) : Int)) ∧ w' = w := below_any n i hn hi w

theorem union_nil (a : Option Addr) (len cap : Nat) (w : World) :
    Calls Tryd.prog 57 #[.pointer none, .slice a len cap] w fun e w' => e = .returned (.int .i64 0) ∧ w' = w := by
  go_enter Tryd.func57, Tryd.ntmps57
  go_wp2
  go_ret
  exact ⟨rfl, rfl⟩

theorem union_none (b n m : Nat) (c : Nat → Nat) (a : Option Addr) (cap : Nat) (w : World) (hr : RowAt w b n (wd m)) (hn : n ≤ 1024) (hm : m < 2 ^ n) (hC : CountIs c) (hle : ∀ x, c x ≤ 1024) :
    Calls Tryd.prog 57 #[.pointer (some ⟨b, 0, none⟩), .slice a 0 cap] w fun e w' => e = .returned (.int .i64 0) ∧ Below w.heap.size w w' := by
  have HS : Hid (SetM w (some ⟨b, 0, none⟩) n m) := SetM.of hr hn hm
  have l0 := hle m
  clear hr hm hle
  go_enter Tryd.func57, Tryd.ntmps57
  go_wp2_with (go_at_call 51; refine (hC _ n m _ HS.out).mono ?_; rintro e w1 ⟨rfl, hb1⟩)
  have HB1 : Hid (Below w.heap.size w w1) := hb1
  clear hb1
  go_loop [16] (fun i => i = .int .i64 0) (fun _ => 0)
  case atStart => rfl
  case round =>
    subst hrel
    go_wp2_with (go_at_call 51; refine (hC _ n m _ (SetM.keep HS.out HB1.out)).mono ?_; rintro e w2 ⟨rfl, hb2⟩)
    go_ret
    exact ⟨by simp, HB1.out.trans (hb2.mono HB1.out.size)⟩

set_option maxHeartbeats 1000000 in
theorem union_core (b n m bl off cap : Nat) (c : Nat → Nat) (L : List (Option Addr × Nat)) (w : World) (hC : CountIs c) (hle : ∀ x, c x ≤ 1024) (hn : n ≤ 1024) (hm : m < 2 ^ n) (hr : RowAt w b n (wd m)) (hne : bl ≠ b)
    (hlen : L.length < 1152921504606846976) (hlt : bl < w.heap.size)
    (hc : ∀ i, i < L.length → w.cell? ⟨bl, off + i, none⟩ = some (.pointer (L.getD i (none, 0)).1)) (ho : ∀ i, i < L.length → OtherOk w b (L.getD i (none, 0)).1 (L.getD i (none, 0)).2) :
    Calls Tryd.prog 57 #[.pointer (some ⟨b, 0, none⟩), .slice (some ⟨bl, off, none⟩) L.length cap] w fun e w' =>
      e = .returned (.int .i64 ((c (uS n m L) : Int) - c m)) ∧ RowAt w' b n (wd (uS n m L)) ∧ But b w w' := by
  have HC : Hid (∀ i, i < L.length → w.cell? ⟨bl, off + i, none⟩ = some (.pointer (L.getD i (none, 0)).1)) := hc
  have HO : Hid (∀ i, i < L.length → OtherOk w b (L.getD i (none, 0)).1 (L.getD i (none, 0)).2) := ho
  have HR : Hid (RowAt w b n (wd m)) := hr
  have HM : Hid (m < 2 ^ n) := hm
  have HLE : Hid (∀ x, c x ≤ 1024) := hle
  have l0 := hle m
  clear hc ho hr hm hle
  go_enter Tryd.func57, Tryd.ntmps57
  go_wp2_with (go_at_call 51; refine (hC _ n m _ (SetM.of HR.out hn HM.out)).mono ?_; rintro e w1 ⟨rfl, hb1⟩)
  have HR1 : Hid (RowAt w1 b n (wd m)) := HR.out.below hb1 HR.out.lt
  have HB1 : Hid (But b w w1) := But.of_below hb1
  clear hb1
  go_loopw [16] (fun i wr => ∃ k : Nat, k ≤ L.length ∧ i = .int .i64 k ∧ RowAt wr b n (wd (uS n m (L.take k))) ∧ But b w wr) (fun i _ => L.length - (intOf i).toNat)
  case atStart => exact ⟨0, Nat.zero_le _, rfl, HR1.out, HB1.out⟩
  case round =>
    obtain ⟨k, hk, rfl, hrow, hbut⟩ := hrel
    by_cases hlt2 : k < L.length
    · have hcell : wr.cell? ⟨bl, off + k, none⟩ = some (.pointer (L.getD k (none, 0)).1) := by
        rw [World.cell?_of_block (w := w) (hbut.block bl hlt hne)]; exact HC.out k hlt2
      have hsn := uS_snoc n m L k hlt2
      have hok := HO.out k hlt2
      have hu3 := uS_lt n m (L.take k) HM.out
      generalize L.getD k (none, 0) = e at hcell hsn hok
      obtain ⟨q, m'⟩ := e
      simp only at hcell hsn hok
      generalize hu : uS n m (L.take k) = u at hsn hrow hu3
      obtain ⟨n2, m2, hS2, hx⟩ : ∃ n2 m2, SetM wr q n2 m2 ∧ u ||| (m2 &&& (2 ^ n - 1)) = u ||| (m' &&& (2 ^ n - 1)) := by
        rcases hok with ⟨rfl, rfl⟩ | ⟨hq, n', hS⟩
        · refine ⟨n, u, SetM.of hrow hn hu3, ?_⟩
          apply Nat.eq_of_testBit_eq
          intro j
          simp only [Nat.testBit_or, Nat.testBit_and, Nat.zero_testBit]
          cases u.testBit j <;> simp
        · exact ⟨n', m', hS.but hbut (fun b' hb' e => hq (by rw [hb', e])), rfl⟩
      have hV := value_any q n2 m2 wr hS2
      have HROW : Hid (RowAt wr b n (wd u)) := hrow
      have HBUT : Hid (But b w wr) := hbut
      have hbel : ∀ i : Nat, i < 16 → ∀ w, Calls Tryd.prog 71 #[.int .i64 n, .int .i64 i] w fun e w' => e = .returned (.int .u64 ((wd (2 ^ n - 1) i : Nat) : Int)) ∧ w' = w := fun i hi w => below_any n i hn hi w
      generalize 2 ^ n - 1 = on at hbel hsn hx
      have HBEL : Hid (∀ i : Nat, i < 16 → ∀ w, Calls Tryd.prog 71 #[.int .i64 n, .int .i64 i] w fun e w' => e = .returned (.int .u64 ((wd on i : Nat) : Int)) ∧ w' = w) := hbel
      obtain ⟨x, hxe⟩ : ∃ x, x = u ||| (m2 &&& on) := ⟨_, rfl⟩
      have HX : Hid (uS n m (L.take (k + 1)) = x) := by show _ = _; rw [hxe, hx]; exact hsn
      have HOW : Hid (∀ i, bits BinOp.or IntKind.u64 (wd u i : Int) (bits BinOp.and IntKind.u64 (wd m2 i : Int) (wd on i : Nat)) = (wd x i : Nat)) := fun i => by rw [hxe]; exact or_word u m2 on i
      have hf := fun w' => run_words n2 (wd m2) w'
      clear hrow hbut hbel hsn hx hok hS2 hu hu3 hxe
      go_wp2_with (go_at_call 67; refine hV.mono ?_; clear hV; rintro e w2 ⟨rfl, hb2⟩)
      have HROW2 : Hid (RowAt w2 b n (wd u)) := HROW.out.below hb2 HROW.out.lt
      have HBUT2 : Hid (But b w w2) := HBUT.out.trans (But.of_below hb2)
      clear hb2 hf hcell
      go_loopw [23] (fun j wr2 => ∃ k2 : Nat, k2 ≤ 16 ∧ j = .int .i64 k2 ∧ RowAt wr2 b n (mix k2 x u) ∧ But b w wr2) (fun j _ => 16 - (intOf j).toNat)
      case atStart => exact ⟨0, by omega, rfl, HROW2.out.congr (fun i _ => by simp [mix]), HBUT2.out⟩
      case round =>
        obtain ⟨k2, hk2, rfl, hrow3, hbut3⟩ := hrel
        by_cases hlt3 : k2 < 16
        · have hi := fun w' => run_word (wd m2) k2 hlt3 w'
          have how := HOW.out k2
          have hw := hrow3.word k2 hlt3
          rw [show mix k2 x u k2 = wd u k2 by simp [mix]] at hw
          have hsz := hrow3.size
          have hfz := hrow3.free (1 + k2)
          have hki : (k2 : Int) < 16 := by omega
          have HROW3 : Hid (RowAt wr b n (mix k2 x u)) := hrow3
          have HBUT3 : Hid (But b w wr) := hbut3
          clear hrow3 hbut3
          go_wp2_with fail
          go_region_with (go_at_call 71; refine (HBEL.out k2 hlt3 _).mono ?_; rintro e w' ⟨rfl, rfl⟩)
          all_goals go_wp2
          all_goals go_roundw
          all_goals first
            | exact ⟨k2 + 1, by omega, by go_num, RowAt.mixed HROW3.out hlt3, (But.drew HBUT3.out).setCell _ _⟩
            | (simp [intOf]; omega)
        · have e16 : k2 = 16 := by omega
          subst e16
          have hrow4 : RowAt wr b n (wd x) := hrow3.congr (fun i hi => by simp [mix, hi])
          have HROW3 : Hid (RowAt wr b n (wd x)) := hrow4
          have HBUT3 : Hid (But b w wr) := hbut3
          clear hrow3 hbut3 hrow4
          go_wp2_with fail
          go_roundw
          case rel => exact ⟨k + 1, by omega, by go_num, by rw [HX.out]; exact HROW3.out, HBUT3.out⟩
          case measure => simp [intOf]; omega
    · have : k = L.length := by omega
      subst this
      rw [List.take_length] at *
      have hlt3 := uS_lt n m L HM.out
      have l1 := HLE.out (uS n m L)
      generalize hu : uS n m L = u at hrow hlt3 l1
      have HU : Hid (uS n m L = u) := hu
      clear hu
      have HROW : Hid (RowAt wr b n (wd u)) := hrow
      have HBUT : Hid (But b w wr) := hbut
      have HLT3 : Hid (u < 2 ^ n) := hlt3
      clear hrow hbut hlt3
      go_wp2_with (go_at_call 51; refine (hC _ n u _ (SetM.of HROW.out hn HLT3.out)).mono ?_; rintro e w2 ⟨rfl, hb2⟩)
      go_ret
      rw [HU.out]
      exact ⟨rfl, HROW.out.below hb2 HROW.out.lt, HBUT.out.trans (But.of_below hb2)⟩

end Go.Proofs.YtdhojilmgnodeaaDoor.B
