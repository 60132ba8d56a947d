/-
  What Meets does.
-/
import Derived.Test.YtkmocjdjdlpphaaDoorUnion
namespace Go.Proofs.YtkmocjdjdlpphaaDoor
open Go.RowKit

/-- What is in common. -/
def iS (m : Nat) (L : List (Option Addr × Nat)) : Nat := L.foldl (fun acc e => acc &&& e.2) m

theorem iS_snoc (m : Nat) (L : List (Option Addr × Nat)) (k : Nat) (hk : k < L.length) : iS m (L.take (k + 1)) = iS m (L.take k) &&& (L.getD k (none, 0)).2 := by
  unfold iS
  rw [List.take_succ_eq_append_getElem hk, List.foldl_append]
  simp [List.getD, hk]
theorem iS_lt (n m : Nat) (L : List (Option Addr × Nat)) (hm : m < 2 ^ n) : iS m L < 2 ^ n := by
  unfold iS
  induction L generalizing m with
  | nil => exact hm
  | cons e L ih => rw [List.foldl_cons]; exact ih _ (lt_and_left hm)

theorem and_word (a b i : Nat) : bits BinOp.and IntKind.u64 (wd a i : Int) (wd b i : Int) = (wd (a &&& b) i : Nat) := by
  rw [bits_and_u64_nat _ _ (wd_lt _ _) (wd_lt _ _), wd_and]

set_option maxHeartbeats 1000000 in
theorem meets_core (p : Option Addr) (n m bl off cap : Nat) (c : Nat → Nat) (L : List (Option Addr × Nat)) (w : World) (hC : CountIs c) (hp : SetM w p n m)
    (hlen : L.length < 1152921504606846976) (hlt : bl < w.heap.size)
    (hc : ∀ i, i < L.length → w.cell? ⟨bl, off + i, none⟩ = some (.pointer (L.getD i (none, 0)).1)) (ho : ∀ i, i < L.length → ∃ n', SetM w (L.getD i (none, 0)).1 n' (L.getD i (none, 0)).2) :
    Calls Tryd.prog 26 #[.pointer p, .slice (some ⟨bl, off, none⟩) L.length cap] w fun e w' => e = .returned (.bool (decide (0 < c (iS m L)))) ∧ Below w.heap.size w w' := by
  have HC : Hid (∀ i, i < L.length → w.cell? ⟨bl, off + i, none⟩ = some (.pointer (L.getD i (none, 0)).1)) := hc
  have HO : Hid (∀ i, i < L.length → ∃ n', SetM w (L.getD i (none, 0)).1 n' (L.getD i (none, 0)).2) := ho
  have HP : Hid (SetM w p n m) := hp
  have hV := value_any p n m w hp
  clear hc ho hp
  go_enter Tryd.func26, Tryd.ntmps26
  go_wp2_with fail
  refine hV.mono ?_
  clear hV
  rintro e w1 ⟨rfl, hb1⟩
  have hsz1 := hb1.size
  have HB1 : Hid (Below w.heap.size w w1) := hb1
  clear hb1
  go_wp2_with (refine wpList_store_row rfl 58 _ _ rfl w1.heap.size (rowL n (wd m)).toArray rfl rfl 58 _ (heap_alloc_last w1 _) (info58' n (wd m)) (by simp [rowL]) (oneCell_rowL n (wd m)) ?_)
  rw [World.setRow_alloc_new]
  have hrowS : RowAt (w1.alloc (.cells (rowL n (wd m)).toArray 58)) w1.heap.size n (wd m) := heap_alloc_last w1 _
  have hbS : Below w.heap.size w (w1.alloc (.cells (rowL n (wd m)).toArray 58)) := HB1.out.alloc hsz1 _
  generalize w1.alloc (.cells (rowL n (wd m)).toArray 58) = W2 at *
  generalize w1.heap.size = Bc at *
  have HRS : Hid (RowAt W2 Bc n (wd m)) := hrowS
  have HBS : Hid (Below w.heap.size w W2) := hbS
  clear hrowS hbS
  go_loopw [14] (fun i wr => ∃ k : Nat, k ≤ L.length ∧ i = .int .i64 k ∧ RowAt wr Bc n (wd (iS m (L.take k))) ∧ Below w.heap.size w wr) (fun i _ => L.length - (intOf i).toNat)
  case atStart => exact ⟨0, Nat.zero_le _, rfl, HRS.out, HBS.out⟩
  case round =>
    obtain ⟨k, hk, rfl, hrow, hbel⟩ := hrel
    by_cases hlt2 : k < L.length
    · have hcell : wr.cell? ⟨bl, off + k, none⟩ = some (.pointer (L.getD k (none, 0)).1) := by
        rw [hbel.cell (by exact hlt)]; exact HC.out k hlt2
      have hsn := iS_snoc m L k hlt2
      obtain ⟨n2, hS2⟩ := HO.out k hlt2
      generalize L.getD k (none, 0) = e at hcell hsn hS2
      obtain ⟨q, m2⟩ := e
      simp only at hcell hsn hS2
      generalize hu : iS m (L.take k) = u at hsn hrow
      have hV := value_any q n2 m2 wr (hS2.keep hbel)
      have HROW : Hid (RowAt wr Bc n (wd u)) := hrow
      have HBEL : Hid (Below w.heap.size w wr) := hbel
      obtain ⟨x, hxe⟩ : ∃ x, x = u &&& m2 := ⟨_, rfl⟩
      have HX : Hid (iS m (L.take (k + 1)) = x) := by show _ = _; rw [hxe]; exact hsn
      have HOW : Hid (∀ i, bits BinOp.and IntKind.u64 (wd u i : Int) (wd m2 i : Int) = (wd x i : Nat)) := fun i => by rw [hxe]; exact and_word u m2 i
      have hf := fun w' => run_words n2 (wd m2) w'
      clear hrow hbel hsn hS2 hu hxe
      go_wp2_with (go_at_call 37; refine hV.mono ?_; clear hV; rintro e w2 ⟨rfl, hb2⟩)
      have HROW2 : Hid (RowAt w2 Bc n (wd u)) := HROW.out.below hb2 HROW.out.lt
      have HBEL2 : Hid (Below w.heap.size w w2) := HBEL.out.trans (hb2.mono HBEL.out.size)
      clear hb2 hf hcell
      go_loopw [21] (fun j wr2 => ∃ k2 : Nat, k2 ≤ 16 ∧ j = .int .i64 k2 ∧ RowAt wr2 Bc n (mix k2 x u) ∧ Below w.heap.size w wr2) (fun j _ => 16 - (intOf j).toNat)
      case atStart => exact ⟨0, by omega, rfl, HROW2.out.congr (fun i _ => by simp [mix]), HBEL2.out⟩
      case round =>
        obtain ⟨k2, hk2, rfl, hrow3, hbut3⟩ := hrel
        by_cases hlt3 : k2 < 16
        · have hi := fun w' => run_word (wd m2) k2 hlt3 w'
          have how := HOW.out k2
          have hw := hrow3.word k2 hlt3
          rw [show mix k2 x u k2 = wd u k2 by simp [mix]] at hw
          have hfz := hrow3.free (1 + k2)
          have hki : (k2 : Int) < 16 := by omega
          have HROW3 : Hid (RowAt wr Bc n (mix k2 x u)) := hrow3
          have HBUT3 : Hid (Below w.heap.size w wr) := hbut3
          clear hrow3 hbut3
          go_wp2_with fail
          go_roundw
          case rel => exact ⟨k2 + 1, by omega, by go_num, RowAt.mixed HROW3.out hlt3, HBUT3.out.setCell (p := ⟨Bc, 1 + k2, none⟩) hsz1 _⟩
          case measure => simp [intOf]; omega
        · have e16 : k2 = 16 := by omega
          subst e16
          have hrow4 : RowAt wr Bc n (wd x) := hrow3.congr (fun i hi => by simp [mix, hi])
          have HROW3 : Hid (RowAt wr Bc n (wd x)) := hrow4
          have HBUT3 : Hid (Below w.heap.size w wr) := hbut3
          clear hrow3 hbut3 hrow4
          go_wp2_with fail
          go_roundw
          case rel => exact ⟨k + 1, by omega, by go_num, by rw [HX.out]; exact HROW3.out, HBUT3.out⟩
          case measure => simp [intOf]; omega
    · have : k = L.length := by omega
      subst this
      rw [List.take_length] at *
      have hlt3 := iS_lt n m L HP.out.2.1
      generalize hu : iS m L = u at hrow hlt3
      have HU : Hid (iS m L = u) := hu
      clear hu
      have HS : Hid (SetM wr (some ⟨Bc, 0, none⟩) n u) := SetM.of hrow HP.out.1 hlt3
      have HBEL : Hid (Below w.heap.size w wr) := hbel
      clear hrow hbel hlt3
      go_wp2_with (go_at_call 24; refine (hC _ n u _ HS.out).mono ?_; rintro e w2 ⟨rfl, hb2⟩)
      go_ret
      rw [HU.out]
      exact ⟨by simp, HBEL.out.trans (hb2.mono HBEL.out.size)⟩

theorem meets_none (p : Option Addr) (n m : Nat) (c : Nat → Nat) (a : Option Addr) (cap : Nat) (w : World) (hC : CountIs c) (hp : SetM w p n m) :
    Calls Tryd.prog 26 #[.pointer p, .slice a 0 cap] w fun e w' => e = .returned (.bool (decide (0 < c m))) ∧ Below w.heap.size w w' := by
  have HP : Hid (SetM w p n m) := hp
  have hV := value_any p n m w hp
  clear hp
  go_enter Tryd.func26, Tryd.ntmps26
  go_wp2_with fail
  refine hV.mono ?_
  clear hV
  rintro e w1 ⟨rfl, hb1⟩
  have hsz1 := hb1.size
  have HB1 : Hid (Below w.heap.size w w1) := hb1
  clear hb1
  go_wp2_with (refine wpList_store_row rfl 58 _ _ rfl w1.heap.size (rowL n (wd m)).toArray rfl rfl 58 _ (heap_alloc_last w1 _) (info58' n (wd m)) (by simp [rowL]) (oneCell_rowL n (wd m)) ?_)
  rw [World.setRow_alloc_new]
  have hrowS : RowAt (w1.alloc (.cells (rowL n (wd m)).toArray 58)) w1.heap.size n (wd m) := heap_alloc_last w1 _
  have hbS : Below w.heap.size w (w1.alloc (.cells (rowL n (wd m)).toArray 58)) := HB1.out.alloc hsz1 _
  generalize w1.alloc (.cells (rowL n (wd m)).toArray 58) = W2 at *
  generalize w1.heap.size = Bc at *
  have HS : Hid (SetM W2 (some ⟨Bc, 0, none⟩) n m) := SetM.of hrowS HP.out.1 HP.out.2.1
  have HBS : Hid (Below w.heap.size w W2) := hbS
  clear hrowS hbS
  go_loop [14] (fun i => i = .int .i64 0) (fun _ => 0)
  case atStart => rfl
  case round =>
    subst hrel
    go_wp2_with (go_at_call 24; refine (hC _ n m _ HS.out).mono ?_; rintro e w2 ⟨rfl, hb2⟩)
    go_ret
    exact ⟨by simp, HBS.out.trans (hb2.mono HBS.out.size)⟩

end Go.Proofs.YtkmocjdjdlpphaaDoor
