import Derived.Test.YthoamlahbnphkaaGreatQhieofjpfnhec
import Derived.Test.YthoamlahbnphkaaGreatQioknacbifijh
import Derived.Deep.RegionHeld3
import Derived.Test.YthoamlahbnphkaaGreatQkgbahnalcpnk
import Derived.Test.YthoamlahbnphkaaGreatQlgnomllaihgp
import Derived.Lib.TrailingZeros
import Derived.RangeFuncNested
import Derived.RangeFuncBound
import Derived.RangeFuncCalls
import Derived.RangeFuncLeaves
import Derived.Shelf.Abstract
import Derived.Shelf.RegionOpen
import Derived.OwnWalkIn
import Derived.TacticsInMore
import Derived.LoopNIn
import Derived.LoopIn
import Derived.Maps.AppendAt

/-
  What Union does.
-/
namespace Go.Proofs.YthoamlahbnphkaaGreat.B
open Go.RowKit

/-- What a union comes to: each of the others' members that are below the size. -/
def uS (n m : Nat) (L : List (Option Addr × Nat)) : Nat := L.foldl (fun acc e => acc ||| (e.2 &&& (2 ^ n - 1))) m

theorem uS_snoc (n m : Nat) (L : List (Option Addr × Nat)) (k : Nat) (hk : k < L.length) : uS n m (L.take (k + 1)) = uS n m (L.take k) ||| ((L.getD k (none, 0)).2 &&& (2 ^ n - 1)) := by
  unfold uS
  rw [List.take_succ_eq_append_getElem hk, List.foldl_append]
  simp [List.getD, hk]
theorem uS_lt (n m : Nat) (L : List (Option Addr × Nat)) (hm : m < 2 ^ n) : uS n m L < 2 ^ n := by
  unfold uS
  induction L generalizing m with
  | nil => exact hm
  | cons e L ih => rw [List.foldl_cons]; exact ih _ (lt_or hm (lt_and_right (ones_lt n)))

/-- What Count does, with some function for the count. -/
def CountIs (c : Nat → Nat) : Prop := ∀ p n m w, SetM w p n m → Calls Tryz.prog 151 #[.pointer p] w fun e w' => e = .returned (.int .i64 (c m : Nat)) ∧ Below w.heap.size w w'
theorem countIs : CountIs cnt := count_any

/-- What is stored at word i of a union. -/
theorem or_word (a b on i : Nat) : bits BinOp.or IntKind.u64 (wd a i : Int) (bits BinOp.and IntKind.u64 (wd b i : Int) (wd on i : Nat)) = (wd (a ||| (b &&& on)) i : Nat) := by
  have h : wd b i &&& wd on i < 18446744073709551616 := Nat.lt_of_le_of_lt Nat.and_le_left (wd_lt b i)
  rw [bits_and_u64_nat _ _ (wd_lt _ _) (wd_lt _ _), bits_or_u64_nat _ _ (wd_lt _ _) h, wd_or, wd_and]

/-- The words up to k of x, the others of y. -/
def mix (k : Nat) (x y : Nat) (i : Nat) : Nat := if i < k then wd x i else wd y i

theorem RowAt.mixed {w : World} {b n x y k : Nat} (h : RowAt w b n (mix k x y)) (hk : k < 16) : RowAt (w.setCell ⟨b, 1 + k, none⟩ (.int .u64 (wd x k : Nat))) b n (mix (k + 1) x y) :=
  (h.setWord k _ hk).congr fun i _ => by
    unfold mix
    by_cases e : i = k
    · subst e; simp
    · simp only [e, if_false]
      by_cases e2 : i < k
      · rw [if_pos e2, if_pos (by omega)]
      · rw [if_neg e2, if_neg (by omega)]

/-- The pointers of a slice lie where it leads to. -/
def PtrsAt (w : World) (a : Option Addr) (L : List (Option Addr × Nat)) : Prop :=
  L = [] ∨ ∃ b off, a = some ⟨b, off, none⟩ ∧ ∀ i, i < L.length → w.cell? ⟨b, off + i, none⟩ = some (.pointer (L.getD i (none, 0)).1)

/-- What the others of a call on set b are: b itself (which adds nothing), or other sets. -/
def OtherOk (w : World) (b : Nat) (q : Option Addr) (m' : Nat) : Prop :=
  (q = some ⟨b, 0, none⟩ ∧ m' = 0) ∨ (q ≠ some ⟨b, 0, none⟩ ∧ ∃ n', SetM w q n' m')

set_option maxHeartbeats 1000000 in
theorem union_core (b n m bl off cap : Nat) (c : Nat → Nat) (L : List (Option Addr × Nat)) (w : World) (hC : CountIs c) (hle : ∀ x, c x ≤ 1024) (hn : n ≤ 1024) (hm : m < 2 ^ n) (hr : RowAt w b n (wd m)) (hne : bl ≠ b)
    (hlen : L.length < 1152921504606846976) (hlt : bl < w.heap.size)
    (hc : ∀ i, i < L.length → w.cell? ⟨bl, off + i, none⟩ = some (.pointer (L.getD i (none, 0)).1)) (ho : ∀ i, i < L.length → OtherOk w b (L.getD i (none, 0)).1 (L.getD i (none, 0)).2) :
    Calls Tryz.prog 127 #[.pointer (some ⟨b, 0, none⟩), .slice (some ⟨bl, off, none⟩) L.length cap] w fun e w' =>
      e = .returned (.int .i64 ((c (uS n m L) : Int) - c m)) ∧ RowAt w' b n (wd (uS n m L)) ∧ But b w w' := by
  have HC : Hid (∀ i, i < L.length → w.cell? ⟨bl, off + i, none⟩ = some (.pointer (L.getD i (none, 0)).1)) := hc
  have HO : Hid (∀ i, i < L.length → OtherOk w b (L.getD i (none, 0)).1 (L.getD i (none, 0)).2) := ho
  have HR : Hid (RowAt w b n (wd m)) := hr
  have HM : Hid (m < 2 ^ n) := hm
  have HLE : Hid (∀ x, c x ≤ 1024) := hle
  have l0 := hle m
  clear hc ho hr hm hle
  go_enter Tryz.func127, Tryz.ntmps127
  go_wp2_with (go_at_call 151; refine (hC _ n m _ (SetM.of HR.out hn HM.out)).mono ?_; rintro e w1 ⟨rfl, hb1⟩)
  have HR1 : Hid (RowAt w1 b n (wd m)) := HR.out.below hb1 HR.out.lt
  have HB1 : Hid (But b w w1) := But.of_below hb1
  clear hb1
  go_loopw [16] (fun i wr => ∃ k : Nat, k ≤ L.length ∧ i = .int .i64 k ∧ RowAt wr b n (wd (uS n m (L.take k))) ∧ But b w wr) (fun i _ => L.length - (intOf i).toNat)
  case atStart => exact ⟨0, Nat.zero_le _, rfl, HR1.out, HB1.out⟩
  case round =>
    obtain ⟨k, hk, rfl, hrow, hbut⟩ := hrel
    by_cases hlt2 : k < L.length
    · have hcell : wr.cell? ⟨bl, off + k, none⟩ = some (.pointer (L.getD k (none, 0)).1) := by
        rw [World.cell?_of_block (w := w) (hbut.block bl hlt hne)]; exact HC.out k hlt2
      have hsn := uS_snoc n m L k hlt2
      have hok := HO.out k hlt2
      have hu3 := uS_lt n m (L.take k) HM.out
      generalize L.getD k (none, 0) = e at hcell hsn hok
      obtain ⟨q, m'⟩ := e
      simp only at hcell hsn hok
      generalize hu : uS n m (L.take k) = u at hsn hrow hu3
      obtain ⟨n2, m2, hS2, hx⟩ : ∃ n2 m2, SetM wr q n2 m2 ∧ u ||| (m2 &&& (2 ^ n - 1)) = u ||| (m' &&& (2 ^ n - 1)) := by
        rcases hok with ⟨rfl, rfl⟩ | ⟨hq, n', hS⟩
        · refine ⟨n, u, SetM.of hrow hn hu3, ?_⟩
          apply Nat.eq_of_testBit_eq
          intro j
          simp only [Nat.testBit_or, Nat.testBit_and, Nat.zero_testBit]
          cases u.testBit j <;> simp
        · exact ⟨n', m', hS.but hbut (fun b' hb' e => hq (by rw [hb', e])), rfl⟩
      have hV := value_any q n2 m2 wr hS2
      have HROW : Hid (RowAt wr b n (wd u)) := hrow
      have HBUT : Hid (But b w wr) := hbut
      have hbel : ∀ i : Nat, i < 16 → ∀ w, Calls Tryz.prog 153 #[.int .i64 n, .int .i64 i] w fun e w' => e = .returned (.int .u64 ((wd (2 ^ n - 1) i : Nat) : Int)) ∧ w' = w := fun i hi w => below_any n i hn hi w
      generalize 2 ^ n - 1 = on at hbel hsn hx
      have HBEL : Hid (∀ i : Nat, i < 16 → ∀ w, Calls Tryz.prog 153 #[.int .i64 n, .int .i64 i] w fun e w' => e = .returned (.int .u64 ((wd on i : Nat) : Int)) ∧ w' = w) := hbel
      obtain ⟨x, hxe⟩ : ∃ x, x = u ||| (m2 &&& on) := ⟨_, rfl⟩
      have HX : Hid (uS n m (L.take (k + 1)) = x) := by show _ = _; rw [hxe, hx]; exact hsn
      have HOW : Hid (∀ i, bits BinOp.or IntKind.u64 (wd u i : Int) (bits BinOp.and IntKind.u64 (wd m2 i : Int) (wd on i : Nat)) = (wd x i : Nat)) := fun i => by rw [hxe]; exact or_word u m2 on i
      have hf := fun w' => run_words n2 (wd m2) w'
      clear hrow hbut hbel hsn hx hok hS2 hu hu3 hxe
      go_wp2_with (go_at_call 152; refine hV.mono ?_; clear hV; rintro e w2 ⟨rfl, hb2⟩)
      have HROW2 : Hid (RowAt w2 b n (wd u)) := HROW.out.below hb2 HROW.out.lt
      have HBUT2 : Hid (But b w w2) := HBUT.out.trans (But.of_below hb2)
      clear hb2 hf hcell
      go_loopw [23] (fun j wr2 => ∃ k2 : Nat, k2 ≤ 16 ∧ j = .int .i64 k2 ∧ RowAt wr2 b n (mix k2 x u) ∧ But b w wr2) (fun j _ => 16 - (intOf j).toNat)
      case atStart => exact ⟨0, by omega, rfl, HROW2.out.congr (fun i _ => by simp [mix]), HBUT2.out⟩
      case round =>
        obtain ⟨k2, hk2, rfl, hrow3, hbut3⟩ := hrel
        by_cases hlt3 : k2 < 16
        · have hi := fun w' => run_word (wd m2) k2 hlt3 w'
          have how := HOW.out k2
          have hw := hrow3.word k2 hlt3
          rw [show mix k2 x u k2 = wd u k2 by simp [mix]] at hw
          have hsz := hrow3.size
          have hfz := hrow3.free (1 + k2)
          have hki : (k2 : Int) < 16 := by omega
          have HROW3 : Hid (RowAt wr b n (mix k2 x u)) := hrow3
          have HBUT3 : Hid (But b w wr) := hbut3
          clear hrow3 hbut3
          go_wp2_with fail
          go_region_with (go_at_call 153; refine (HBEL.out k2 hlt3 _).mono ?_; rintro e w' ⟨rfl, rfl⟩)
          all_goals go_wp2
          all_goals go_roundw
          all_goals first
            | exact ⟨k2 + 1, by omega, by go_num, RowAt.mixed HROW3.out hlt3, (But.drew HBUT3.out).setCell _ _⟩
            | (simp [intOf]; omega)
        · have e16 : k2 = 16 := by omega
          subst e16
          have hrow4 : RowAt wr b n (wd x) := hrow3.congr (fun i hi => by simp [mix, hi])
          have HROW3 : Hid (RowAt wr b n (wd x)) := hrow4
          have HBUT3 : Hid (But b w wr) := hbut3
          clear hrow3 hbut3 hrow4
          go_wp2_with fail
          go_roundw
          case rel => exact ⟨k + 1, by omega, by go_num, by rw [HX.out]; exact HROW3.out, HBUT3.out⟩
          case measure => simp [intOf]; omega
    · have : k = L.length := by omega
      subst this
      rw [List.take_length] at *
      have hlt3 := uS_lt n m L HM.out
      have l1 := HLE.out (uS n m L)
      generalize hu : uS n m L = u at hrow hlt3 l1
      have HU : Hid (uS n m L = u) := hu
      clear hu
      have HROW : Hid (RowAt wr b n (wd u)) := hrow
      have HBUT : Hid (But b w wr) := hbut
      have HLT3 : Hid (u < 2 ^ n) := hlt3
      clear hrow hbut hlt3
      go_wp2_with (go_at_call 151; refine (hC _ n u _ (SetM.of HROW.out hn HLT3.out)).mono ?_; rintro e w2 ⟨rfl, hb2⟩)
      go_ret
      rw [HU.out]
      exact ⟨rfl, HROW.out.below hb2 HROW.out.lt, HBUT.out.trans (But.of_below hb2)⟩

end Go.Proofs.YthoamlahbnphkaaGreat.B

/-
  The document's Copy of any grammar: the same in new memory.
-/
namespace Go.Proofs.YthoamlahbnphkaaGreat
open Go.RowKit Go.Maps Go.Shelf

attribute [local go_sem] Oper.semAt_some

/-- While a grammar is copied: its box, the result's and the copy's. -/
structure CpAt (w X : World) (gb : Nat) (gv bv : Array Value) : Prop where
  grown : w.grownBy X none
  lo : w.heap.size ≤ gb
  gbox : X.heap[gb]? = some (.cells gv 27 (0, 0))
  rbox : X.heap[gb + 1]? = some (.cells #[.slice none 0 0, .slice none 0 0, .slice none 0 0, .int .i64 0, .slice none 0 0] 27 (0, 0))
  bbox : X.heap[gb + 1 + 1]? = some (.cells bv 27 (0, 0))

section
variable {w X Y : World} {gb : Nat} {gv bv : Array Value}
theorem CpAt.kept (h : CpAt w X gb gv bv) (hg : X.grownBy Y none) : CpAt w Y gb gv bv :=
  ⟨grown_trans h.grown hg, h.lo, (hg.block _ (Array.getElem?_eq_some_iff.1 h.gbox).1 (by simp)).trans h.gbox, (hg.block _ (Array.getElem?_eq_some_iff.1 h.rbox).1 (by simp)).trans h.rbox, (hg.block _ (Array.getElem?_eq_some_iff.1 h.bbox).1 (by simp)).trans h.bbox⟩
theorem CpAt.lt (h : CpAt w X gb gv bv) : gb + 1 + 1 < X.heap.size := (Array.getElem?_eq_some_iff.1 h.bbox).1
theorem CpAt.g (h : CpAt w X gb gv bv) (k : Nat) (v : Value) (hv : gv[k]? = some v) : X.cell? ⟨gb, k, none⟩ = some v := by rw [cell_of_row _ _ _ _ _ _ h.gbox]; exact hv
theorem CpAt.x (h : CpAt w X gb gv bv) (k : Nat) (v : Value) (hv : bv[k]? = some v) : X.cell? ⟨gb + 1 + 1, k, none⟩ = some v := by rw [cell_of_row _ _ _ _ _ _ h.bbox]; exact hv
theorem CpAt.row {e s n : Nat} {v : Value} {xs : List Value} (h : CpAt w X gb gv bv) (ho : X.ownsRow (gb + 1 + 1 + 1) e s v n xs) (hg : X.grownBy Y v.ownBlock) : CpAt w Y gb gv bv := by
  cases hv : v.ownBlock with
  | none => rw [hv] at hg; exact h.kept hg
  | some q =>
    rw [hv] at hg
    have hq := (ho.lt q hv).1
    have hlo := h.lo
    exact ⟨grown_new h.grown hg (by omega), h.lo, (hg.block _ (Array.getElem?_eq_some_iff.1 h.gbox).1 (by simp; omega)).trans h.gbox, (hg.block _ (Array.getElem?_eq_some_iff.1 h.rbox).1 (by simp; omega)).trans h.rbox, (hg.block _ (Array.getElem?_eq_some_iff.1 h.bbox).1 (by simp; omega)).trans h.bbox⟩
end

/-- The rows of a copy, k of its productions. -/
structure CpRows (X : World) (B : Nat) (ts : List (ByteArray × Int)) (ns : List ByteArray) (lv : List Int) (tn nn ln k : Nat) (L : Nat → Int) (R : Nat → List Int) (V : Nat → Int) (v1 v2 v3 v4 : Value) (rg : Nat → Value) : Prop where
  t : X.ownsRow B 88 2 v1 tn (tmsL ts)
  s : X.ownsRow B 9 1 v2 nn (ns.map Value.string)
  l : X.ownsRow B 3 1 v3 ln (lv.map (Value.int .i64))
  p : X.ownsRow B 71 3 v4 k (prodRow k L rg V)
  rr : ∀ i, i < k → X.ownsRow B 3 1 (rg i) (R i).length ((R i).map (Value.int .i64))

section
variable {X Y : World} {B tn nn ln k : Nat} {ts : List (ByteArray × Int)} {ns : List ByteArray} {lv : List Int} {L : Nat → Int} {R : Nat → List Int} {V : Nat → Int} {v1 v2 v3 v4 : Value} {rg : Nat → Value}
theorem CpRows.kept (h : CpRows X B ts ns lv tn nn ln k L R V v1 v2 v3 v4 rg) (hg : X.grownBy Y none) : CpRows Y B ts ns lv tn nn ln k L R V v1 v2 v3 v4 rg :=
  ⟨keep0 h.t hg, keep0 h.s hg, keep0 h.l hg, keep0 h.p hg, fun i hi => keep0 (h.rr i hi) hg⟩
theorem CpRows.box {kb j : Nat} {u : Value} (h : CpRows X (kb + 1) ts ns lv tn nn ln k L R V v1 v2 v3 v4 rg) : CpRows (X.setCell ⟨kb, j, none⟩ u) (kb + 1) ts ns lv tn nn ln k L R V v1 v2 v3 v4 rg :=
  ⟨owns_box h.t, owns_box h.s, owns_box h.l, owns_box h.p, fun i hi => owns_box (h.rr i hi)⟩
theorem CpRows.push {v5 v6 : Value} (h : CpRows X B ts ns lv tn nn ln k L R V v1 v2 v3 v4 rg) (h5 : X.ownsRow B 3 1 v5 (R k).length ((R k).map (Value.int .i64)))
    (h6 : Y.ownsRow B 71 3 v6 (k + 1) (prodRow k L rg V ++ [.int .i64 (L k), v5, .int .i64 (V k)])) (hg : X.grownBy Y v4.ownBlock) : CpRows Y B ts ns lv tn nn ln (k + 1) L R V v1 v2 v3 v6 (fun i => if i = k then v5 else rg i) := by
  refine ⟨owns_other h.t h.p (by decide) hg, owns_other h.s h.p (by decide) hg, owns_other h.l h.p (by decide) hg, ?_, fun i hi => ?_⟩
  · rw [prodRow_succ, if_pos rfl, ← prodRow_ext (n := k) (L := L) (L' := L) (r := rg) (V := V) (V' := V) (fun _ _ => rfl) (fun i hi => by rw [if_neg (by omega)]) (fun _ _ => rfl)]
    exact h6
  · by_cases e : i = k
    · subst e
      simp only [if_true]
      exact owns_other h5 h.p (by decide) hg
    · simp only [if_neg e]
      exact owns_other (h.rr i (by omega)) h.p (by decide) hg
end

end Go.Proofs.YthoamlahbnphkaaGreat

/-
  The document's Copy, told as a grammar that can be read.
-/
namespace Go.Proofs.YthoamlahbnphkaaGreat
open Go.RowKit Go.Maps Go.Shelf

theorem ProdsAt.ext {w : World} {pa : Option Addr} {n : Nat} {L L' V V' : Nat → Int} {R R' : Nat → List Int} {ra : Nat → Option Addr} {rc : Nat → Nat} (h : ProdsAt w pa n L R ra rc V) (h1 : ∀ i, i < n → L i = L' i) (h2 : ∀ i, i < n → R i = R' i) (h3 : ∀ i, i < n → V i = V' i) : ProdsAt w pa n L' R' ra rc V' := by
  rcases h with h | ⟨b, off, e, hc⟩
  · exact .inl h
  · refine .inr ⟨b, off, e, fun k hk => ?_⟩
    rw [← h1 k hk, ← h2 k hk, ← h3 k hk]
    exact hc k hk

end Go.Proofs.YthoamlahbnphkaaGreat

/-
  reach: sets of symbols in a grammar's memory: marksOf, covers, ofNons.
-/
namespace Go.Proofs.YthoamlahbnphkaaGreat
open Go.RowKit Go.Maps Go.Shelf

theorem grown_of_below {w w' : World} (h : Below w.heap.size w w') : w.grownBy w' none := ⟨h.os, h.tape, h.output, h.size, fun k hk _ => h.block k hk⟩
theorem below_of_grown {w w' : World} (h : w.grownBy w' none) : Below w.heap.size w w' := ⟨h.os, h.tape, h.output, h.size, fun k hk => h.block k hk (by simp)⟩
theorem SetM_kept {w w' : World} {b n m : Nat} (h : B.SetM w (some ⟨b, 0, none⟩) n m) (hg : w.grownBy w' none) : B.SetM w' (some ⟨b, 0, none⟩) n m := B.SetM.keep h (below_of_grown hg)
theorem SetM_row {w : World} {b n m : Nat} (h : B.SetM w (some ⟨b, 0, none⟩) n m) : B.RowAt w b n (B.wd m) := by
  rcases h.2.2 with ⟨h, _⟩ | ⟨b', e, hr⟩
  · simp at h
  · simp at e; rw [e]; exact hr
theorem SetM_lt {w : World} {b n m : Nat} (h : B.SetM w (some ⟨b, 0, none⟩) n m) : b < w.heap.size := (SetM_row h).lt

theorem grown_at {w w1 w2 : World} {b : Nat} (h : w.grownBy w1 none) (hg : w1.grownBy w2 (some b)) (hb : w.heap.size ≤ b) : w.grownBy w2 none :=
  ⟨hg.os.trans h.os, hg.tape.trans h.tape, hg.output.trans h.output, Nat.le_trans h.size hg.size, fun k hk _ => (hg.block k (Nat.lt_of_lt_of_le hk h.size) (by simp; omega)).trans (h.block k hk (by simp))⟩
theorem SetM_at {w w' : World} {b c n m : Nat} (h : B.SetM w (some ⟨b, 0, none⟩) n m) (hg : w.grownBy w' (some c)) (hne : b ≠ c) : B.SetM w' (some ⟨b, 0, none⟩) n m :=
  B.SetM.of ((hg.block b (SetM_lt h) (by simpa using hne)).trans (SetM_row h)) h.1 h.2.1
end Go.Proofs.YthoamlahbnphkaaGreat

/-
  reach: covers, ofNons.
-/
namespace Go.Proofs.YthoamlahbnphkaaGreat
open Go.RowKit Go.Maps Go.Shelf

theorem pc_or (k : Nat) : ∀ a b : Nat, B.pc k a ≤ B.pc k (a ||| b) ∧ (B.pc k (a ||| b) = B.pc k a ↔ ∀ i, i < k → b.testBit i = true → a.testBit i = true) := by
  unfold B.pc
  induction k with
  | zero => intro a b; simp [B.ds]
  | succ k ih =>
    intro a b
    have h1 := ih (a / 2) (b / 2)
    rw [← Nat.or_div_two] at h1
    have h0 : (a ||| b).testBit 0 = (a.testBit 0 || b.testBit 0) := Nat.testBit_or a b 0
    simp only [Nat.testBit_zero] at h0
    simp only [B.ds]
    generalize B.ds 2 k ((a ||| b) / 2) = x at *
    have ha := Nat.mod_two_eq_zero_or_one a
    have hb := Nat.mod_two_eq_zero_or_one b
    have hab := Nat.mod_two_eq_zero_or_one (a ||| b)
    have hle : a % 2 ≤ (a ||| b) % 2 := by
      rcases ha with ha | ha <;> rcases hb with hb | hb <;> rcases hab with hab | hab <;> simp [ha, hb, hab] at h0 ⊢
    refine ⟨by omega, ?_⟩
    constructor
    · intro h i hi
      have e1 : (a ||| b) % 2 = a % 2 := by omega
      cases i with
      | zero =>
        simp only [Nat.testBit_zero]
        rw [e1] at h0
        intro h2
        rw [h2, Bool.or_true] at h0
        exact h0
      | succ i => simp only [Nat.testBit_succ]; exact h1.2.1 (by omega) i (by omega)
    · intro h
      have e2 : x = _ := h1.2.2 fun i hi => by have := h (i + 1) (by omega); simpa only [Nat.testBit_succ] using this
      have e0 := h 0 (by omega)
      simp only [Nat.testBit_zero] at e0
      have e1 : (a ||| b) % 2 = a % 2 := by
        rcases ha with ha | ha <;> rcases hb with hb | hb <;> rcases hab with hab | hab <;> simp [ha, hb, hab] at h0 e0 ⊢
      omega

theorem cnt_le (x : Nat) : B.cnt x ≤ 1024 := B.pc_le _ _

theorem new_cell (w : World) (v : Value) (t : TypeId) : (w.alloc (.cells #[v] t)).cell? ⟨w.heap.size, 0, none⟩ = some v := by
  rw [cell_of_row _ _ _ _ _ _ (heap_alloc_last w _)]; rfl

theorem calls_at {P : Program} {f : FuncId} {args : Array Value} {w : World} {Q : Ending → World → Prop} (w0 : World) (e : w = w0) (h : Calls P f args w0 Q) : Calls P f args w Q := by rw [e]; exact h

/-- A union with one other. -/
theorem union_one (b c n m s bl : Nat) (w : World) (hm : B.SetM w (some ⟨b, 0, none⟩) n m) (hs : B.SetM w (some ⟨c, 0, none⟩) n s) (hne : c ≠ b) (hnl : bl ≠ b) (hl : w.cell? ⟨bl, 0, none⟩ = some (.pointer (some ⟨c, 0, none⟩))) (z : Int) (hz : z = ((B.cnt (m ||| (s &&& (2 ^ n - 1))) : Nat) : Int) - (B.cnt m : Nat)) (u : Nat) (hu : u = m ||| (s &&& (2 ^ n - 1))) :
    Calls Tryz.prog 127 #[.pointer (some ⟨b, 0, none⟩), .slice (some ⟨bl, 0, none⟩) 1 1] w fun e w' =>
      e = .returned (.int .i64 z) ∧ B.SetM w' (some ⟨b, 0, none⟩) n u ∧ w.grownBy w' (some b) := by
  have h := B.union_core b n m bl 0 1 B.cnt [(some ⟨c, 0, none⟩, s)] w B.countIs cnt_le hm.1 hm.2.1 (SetM_row hm) hnl (by simp) (World.block_lt_of_cell? w _ hl)
    (fun i hi => by have : i = 0 := by simpa using hi
                    subst this; exact hl)
    (fun i hi => by have : i = 0 := by simpa using hi
                    subst this; exact .inr ⟨fun h => hne (by injection h with h1; injection h1), n, hs⟩)
  refine Calls.mono h ?_
  rintro e w' ⟨he, hr, hb⟩
  rw [hz, hu]
  refine ⟨he, B.SetM.of hr hm.1 (B.lt_or hm.2.1 (B.lt_and_right (B.ones_lt n))), hb.os, hb.tape, hb.output, hb.size, fun k hk hne => hb.block k hk (by simpa using hne)⟩

end Go.Proofs.YthoamlahbnphkaaGreat

/-
  first, pure: which symbols derive the empty row, and which terminals rows begin with.
-/
namespace Go.Proofs.YthoamlahbnphkaaGreat

section
variable (tn n : Nat) (L : Nat → Int) (R : Nat → List Int)

/-- The symbols that derive the empty row. -/
inductive Nul : Int → Prop
  | prod (k : Nat) (hk : k < n) (h : ∀ x ∈ R k, Nul x) : Nul (L k)

/-- The terminals that rows derived from a symbol begin with. -/
inductive Beg : Int → Int → Prop
  | term (t : Int) (h0 : 0 ≤ t) (h1 : t < (tn : Int)) : Beg t t
  | prod (k : Nat) (hk : k < n) (p : List Int) (x : Int) (s : List Int) (t : Int) (hr : R k = p ++ x :: s) (hp : ∀ y ∈ p, Nul n L R y) (hx : Beg x t) : Beg (L k) t

def RowN (l : List Int) : Prop := ∀ x ∈ l, Nul n L R x
def RowB (l : List Int) (t : Int) : Prop := ∃ p x s, l = p ++ x :: s ∧ (∀ y ∈ p, Nul n L R y) ∧ Beg tn n L R x t
end

/-- Do all symbols of a row vanish, as far as is found? -/
def rowV (v : Nat) (l : List Int) : Bool := l.all fun x => v.testBit x.toNat
/-- What a row begins with, as far as is found. -/
def rowM (v : Nat) (m : Nat → Nat) : List Int → Nat
  | [] => 0
  | x :: l => m x.toNat ||| (if v.testBit x.toNat = true then rowM v m l else 0)

theorem rowV_append (v : Nat) (p q : List Int) : rowV v (p ++ q) = (rowV v p && rowV v q) := by simp [rowV]
theorem rowM_append (v : Nat) (m : Nat → Nat) (q : List Int) : ∀ p : List Int, rowM v m (p ++ q) = rowM v m p ||| (if rowV v p = true then rowM v m q else 0)
  | [] => by simp [rowM, rowV]
  | x :: p => by
    have ih := rowM_append v m q p
    simp only [List.cons_append, rowM]
    cases h : v.testBit x.toNat with
    | true =>
      have e : rowV v (x :: p) = rowV v p := by simp [rowV, h]
      rw [ih, e]
      simp [Nat.or_assoc]
    | false =>
      have e : rowV v (x :: p) = false := by simp [rowV, h]
      rw [e]
      simp

theorem rowM_bit (v : Nat) (m : Nat → Nat) (t : Nat) : ∀ l : List Int, (rowM v m l).testBit t = true ↔ ∃ p x s, l = p ++ x :: s ∧ rowV v p = true ∧ (m x.toNat).testBit t = true
  | [] => by simp [rowM]
  | a :: l => by
    have ih := rowM_bit v m t l
    simp only [rowM, Nat.testBit_or, Bool.or_eq_true]
    constructor
    · rintro (h | h)
      · exact ⟨[], a, l, rfl, rfl, h⟩
      · cases hv : v.testBit a.toNat with
        | false => simp [hv] at h
        | true =>
          rw [hv, if_pos rfl] at h
          obtain ⟨p, x, s, e, h1, h2⟩ := ih.1 h
          exact ⟨a :: p, x, s, by rw [e]; rfl, by simp only [rowV, List.all_cons, hv, Bool.true_and]; exact h1, h2⟩
    · rintro ⟨p, x, s, e, h1, h2⟩
      cases p with
      | nil =>
        simp at e
        left; rw [e.1]; exact h2
      | cons b p =>
        simp at e
        obtain ⟨rfl, e⟩ := e
        simp only [rowV, List.all_cons, Bool.and_eq_true] at h1
        right
        rw [h1.1, if_pos rfl]
        exact ih.2 ⟨p, x, s, e, h1.2, h2⟩

/-- The symbols of a row, each where it stands first. -/
def unl (l : List Int) : List Int := l.foldl (fun u x => if u.contains x = true then u else u ++ [x]) []
theorem unl_snoc (l : List Int) (x : Int) : unl (l ++ [x]) = if (unl l).contains x = true then unl l else unl l ++ [x] := by
  unfold unl
  rw [List.foldl_append]
  rfl
theorem snoc_ind {P : List Int → Prop} (h0 : P []) (h1 : ∀ l x, P l → P (l ++ [x])) : ∀ l, P l := fun l => by
  have : ∀ k (l : List Int), l.length = k → P l := by
    intro k
    induction k with
    | zero => intro l hl; rw [List.length_eq_zero_iff.1 hl]; exact h0
    | succ k ih =>
      intro l hl
      rcases List.eq_nil_or_concat l with rfl | ⟨l', x, rfl⟩
      · exact h0
      · rw [List.concat_eq_append] at hl ⊢
        refine h1 l' x (ih l' ?_)
        simp at hl; exact hl
  exact this _ l rfl
theorem unl_mem (l : List Int) : ∀ x, x ∈ unl l ↔ x ∈ l := by
  induction l using snoc_ind with
  | h0 => intro x; simp [unl]
  | h1 l a ih =>
    intro x
    rw [unl_snoc]
    by_cases h : (unl l).contains a = true
    · rw [if_pos h, ih, List.mem_append]
      have ha : a ∈ l := (ih a).1 (by simpa using h)
      constructor
      · exact fun h => .inl h
      · rintro (h | h)
        · exact h
        · simp at h; rw [h]; exact ha
    · rw [if_neg h, List.mem_append, List.mem_append, ih]
theorem unl_len (l : List Int) : (unl l).length ≤ l.length := by
  induction l using snoc_ind with
  | h0 => simp [unl]
  | h1 l a ih =>
    rw [unl_snoc]
    split
    · simp; omega
    · simp; omega
theorem unl_rowV (v : Nat) (l : List Int) : rowV v (unl l) = rowV v l := by
  have : (rowV v (unl l) = true) ↔ (rowV v l = true) := by
    unfold rowV
    rw [List.all_eq_true, List.all_eq_true]
    exact ⟨fun h x hx => h x ((unl_mem l x).2 hx), fun h x hx => h x ((unl_mem l x).1 hx)⟩
  cases h1 : rowV v (unl l) <;> cases h2 : rowV v l <;> simp_all
theorem unl_rowM (v : Nat) (m : Nat → Nat) (l : List Int) : rowM v m (unl l) = rowM v m l := by
  induction l using snoc_ind with
  | h0 => rfl
  | h1 l a ih =>
    rw [unl_snoc, rowM_append]
    by_cases h : (unl l).contains a = true
    · rw [if_pos h, ih]
      cases hv : rowV v l with
      | false => simp
      | true =>
        rw [if_pos rfl]
        have ha : a ∈ l := (unl_mem l a).1 (by simpa using h)
        apply Nat.eq_of_testBit_eq
        intro t
        rw [Nat.testBit_or]
        cases ht : (rowM v m l).testBit t with
        | true => simp
        | false =>
          rw [Bool.false_or]
          have : ¬ (rowM v m [a]).testBit t = true := by
            intro h2
            rw [rowM_bit] at h2
            obtain ⟨p, x, s, e, _, h3⟩ := h2
            have hx : x = a := by
              have : x ∈ [a] := by rw [e]; simp
              simpa using this
            subst hx
            obtain ⟨p', s', rfl⟩ := List.append_of_mem ha
            have : (rowM v m (p' ++ x :: s')).testBit t = true := (rowM_bit v m t _).2 ⟨p', x, s', rfl, by rw [rowV_append, Bool.and_eq_true] at hv; exact hv.1, h3⟩
            rw [ht] at this
            cases this
          cases h5 : (rowM v m [a]).testBit t with
          | false => rfl
          | true => exact absurd h5 this
    · rw [if_neg h, rowM_append, ih, unl_rowV]

/-- One value turned. -/
def upd (m : Nat → Nat) (i y : Nat) : Nat → Nat := fun j => if j = i then y else m j
theorem upd_same (m : Nat → Nat) (i y : Nat) : upd m i y i = y := by simp [upd]
theorem upd_other (m : Nat → Nat) {i j : Nat} (y : Nat) (h : j ≠ i) : upd m i y j = m j := by simp [upd, h]

/-- How much is found. -/
def sumC (m : Nat → Nat) : Nat → Nat
  | 0 => 0
  | k + 1 => sumC m k + B.cnt (m k)
theorem sumC_out (m : Nat → Nat) (i y : Nat) : ∀ k, k ≤ i → sumC (upd m i y) k = sumC m k
  | 0, _ => rfl
  | k + 1, h => by simp only [sumC]; rw [sumC_out m i y k (by omega), upd_other m y (by omega)]
theorem sumC_upd (m : Nat → Nat) (i y : Nat) : ∀ k, i < k → sumC (upd m i y) k + B.cnt (m i) = sumC m k + B.cnt y
  | 0, h => by omega
  | k + 1, h => by
    simp only [sumC]
    by_cases e : i = k
    · subst e
      rw [sumC_out m i y i (Nat.le_refl _), upd_same]
      omega
    · have := sumC_upd m i y k (by omega)
      rw [upd_other m y (fun h => e h.symm)]
      omega
theorem sumC_le (m : Nat → Nat) : ∀ k, sumC m k ≤ 1024 * k
  | 0 => by simp [sumC]
  | k + 1 => by have := sumC_le m k; have := cnt_le (m k); simp only [sumC]; omega
def tot (S v : Nat) (m : Nat → Nat) : Nat := B.cnt v + sumC m S
theorem tot_le (S v : Nat) (m : Nat → Nat) : tot S v m ≤ 1024 * (S + 1) := by
  have := sumC_le m S
  have := cnt_le v
  unfold tot; omega
theorem cnt_or (a b : Nat) : B.cnt a ≤ B.cnt (a ||| b) := (pc_or 1024 a b).1
theorem cnt_or_same {a b k : Nat} (hk : k ≤ 1024) (hb : b < 2 ^ k) (h : B.cnt (a ||| b) = B.cnt a) : a ||| b = a := by
  have h2 := (pc_or 1024 a b).2.1 h
  apply Nat.eq_of_testBit_eq
  intro i
  rw [Nat.testBit_or]
  by_cases hi : i < 1024
  · have := h2 i hi
    cases hbi : b.testBit i with
    | false => simp
    | true => simp [this hbi]
  · have : b.testBit i = false := Nat.testBit_lt_two_pow (Nat.lt_of_lt_of_le hb (Nat.pow_le_pow_right (Nat.succ_pos 1) (Nat.le_trans hk (by omega))))
    simp [this]

section
variable {tn S n : Nat} {L : Nat → Int} {R : Nat → List Int} {v : Nat} {m : Nat → Nat}
/-- What is found is so. -/
def Sound (tn n : Nat) (L : Nat → Int) (R : Nat → List Int) (v : Nat) (m : Nat → Nat) : Prop :=
  (∀ i : Nat, v.testBit i = true → Nul n L R (i : Int)) ∧ (∀ i t : Nat, (m i).testBit t = true → Beg tn n L R (i : Int) (t : Int)) ∧ ∀ t, t < tn → (m t).testBit t = true
/-- A production adds nothing more. -/
def ClosedAt (L : Nat → Int) (R : Nat → List Int) (v : Nat) (m : Nat → Nat) (k : Nat) : Prop :=
  (rowV v (R k) = true → v.testBit (L k).toNat = true) ∧ ∀ t : Nat, (rowM v m (R k)).testBit t = true → (m (L k).toNat).testBit t = true
/-- All is found. -/
structure Found (tn n : Nat) (L : Nat → Int) (R : Nat → List Int) (v : Nat) (m : Nat → Nat) : Prop where
  nul : ∀ i : Nat, v.testBit i = true ↔ Nul n L R (i : Int)
  beg : ∀ i t : Nat, (m i).testBit t = true ↔ Beg tn n L R (i : Int) (t : Int)

theorem sound_row (h : Sound tn n L R v m) {l : List Int} (hl : ∀ x ∈ l, (0 : Int) ≤ x) : (rowV v l = true → ∀ x ∈ l, Nul n L R x) ∧ ∀ t : Nat, (rowM v m l).testBit t = true → RowB tn n L R l (t : Int) := by
  have key : ∀ l : List Int, (∀ x ∈ l, (0 : Int) ≤ x) → rowV v l = true → ∀ x ∈ l, Nul n L R x := fun l hl hv x hx => by
    have := List.all_eq_true.1 hv x hx
    have h2 := h.1 _ this
    rwa [Int.toNat_of_nonneg (hl x hx)] at h2
  refine ⟨key l hl, fun t ht => ?_⟩
  obtain ⟨p, x, s, rfl, h1, h2⟩ := (rowM_bit v m t l).1 ht
  refine ⟨p, x, s, rfl, key p (fun y hy => hl y (by simp [hy])) h1, ?_⟩
  have := h.2.1 _ _ h2
  rwa [Int.toNat_of_nonneg (hl x (by simp))] at this

theorem sound_step (h : Sound tn n L R v m) {k : Nat} (hk : k < n) (hL : (0 : Int) ≤ L k) (hR : ∀ x ∈ R k, (0 : Int) ≤ x) :
    Sound tn n L R (if rowV v (R k) = true then v ||| 2 ^ (L k).toNat else v) (upd m (L k).toNat (m (L k).toNat ||| rowM v m (R k))) := by
  have hr := sound_row h hR
  refine ⟨fun i hi => ?_, fun i t hi => ?_, fun t ht => ?_⟩
  · by_cases hv : rowV v (R k) = true
    · rw [if_pos hv, Nat.testBit_or, Bool.or_eq_true, Nat.testBit_two_pow] at hi
      rcases hi with hi | hi
      · exact h.1 i hi
      · have e : (L k).toNat = i := by simpa using hi
        rw [← e, Int.toNat_of_nonneg hL]
        exact .prod k hk (hr.1 hv)
    · rw [if_neg hv] at hi
      exact h.1 i hi
  · by_cases e : i = (L k).toNat
    · subst e
      rw [upd_same, Nat.testBit_or, Bool.or_eq_true] at hi
      rcases hi with hi | hi
      · exact h.2.1 _ _ hi
      · obtain ⟨p, x, s, e, h1, h2⟩ := hr.2 t hi
        rw [Int.toNat_of_nonneg hL]
        exact .prod k hk p x s t e h1 h2
    · rw [upd_other _ _ e] at hi
      exact h.2.1 _ _ hi
  · by_cases e : t = (L k).toNat
    · subst e
      rw [upd_same, Nat.testBit_or, h.2.2 _ ht]
      rfl
    · rw [upd_other _ _ e]
      exact h.2.2 t ht

theorem found_of (h : Sound tn n L R v m) (hc : ∀ k, k < n → ClosedAt L R v m k) : Found tn n L R v m := by
  have hN : ∀ x, Nul n L R x → v.testBit x.toNat = true := by
    intro x hx
    induction hx with
    | prod k hk _ ih => exact (hc k hk).1 (List.all_eq_true.2 ih)
  have hB : ∀ x t, Beg tn n L R x t → (m x.toNat).testBit t.toNat = true := by
    intro x t hx
    induction hx with
    | term t h0 h1 => exact h.2.2 _ (by omega)
    | prod k hk p x s t hr hp _ ih =>
      exact (hc k hk).2 _ ((rowM_bit v m _ _).2 ⟨p, x, s, hr, List.all_eq_true.2 fun y hy => hN y (hp y hy), ih⟩)
  refine ⟨fun i => ⟨h.1 i, fun hi => ?_⟩, fun i t => ⟨h.2.1 i t, fun hi => ?_⟩⟩
  · have := hN _ hi; simpa using this
  · have := hB _ _ hi; simpa using this

theorem sound_start (tn n : Nat) (L : Nat → Int) (R : Nat → List Int) : Sound tn n L R 0 (fun i => if i < tn then 2 ^ i else 0) := by
  refine ⟨fun i hi => by simp at hi, fun i t hi => ?_, fun t ht => ?_⟩
  · by_cases h : i < tn
    · simp only [h, if_true, Nat.testBit_two_pow] at hi
      have : i = t := by simpa using hi
      subst this
      exact .term _ (by omega) (by omega)
    · simp [h] at hi
  · simp only [ht, if_true, Nat.testBit_two_pow]
    simp

theorem Found.row (h : Found tn n L R v m) {l : List Int} (hl : ∀ x ∈ l, (0 : Int) ≤ x) : (rowV v l = true ↔ RowN n L R l) ∧ ∀ t : Nat, (rowM v m l).testBit t = true ↔ RowB tn n L R l (t : Int) := by
  have key : ∀ l : List Int, (∀ x ∈ l, (0 : Int) ≤ x) → (rowV v l = true ↔ ∀ x ∈ l, Nul n L R x) := fun l hl => by
    unfold rowV
    rw [List.all_eq_true]
    refine forall_congr' fun x => forall_congr' fun hx => ?_
    rw [h.nul, Int.toNat_of_nonneg (hl x hx)]
  refine ⟨key l hl, fun t => ?_⟩
  rw [rowM_bit]
  unfold RowB
  refine exists_congr fun p => exists_congr fun x => exists_congr fun s => ?_
  constructor
  · rintro ⟨e, h1, h2⟩
    subst e
    rw [key p fun y hy => hl y (by simp [hy])] at h1
    rw [h.beg, Int.toNat_of_nonneg (hl x (by simp))] at h2
    exact ⟨rfl, h1, h2⟩
  · rintro ⟨e, h1, h2⟩
    subst e
    refine ⟨rfl, (key p fun y hy => hl y (by simp [hy])).2 h1, ?_⟩
    rw [h.beg, Int.toNat_of_nonneg (hl x (by simp))]
    exact h2
end

end Go.Proofs.YthoamlahbnphkaaGreat

/-
  TrailingZeros64; the members of a set in rising order; what going over them does with a word's rest. 
-/
namespace Go.Proofs.YthoamlahbnphkaaGreat.B
open Go.RowKit

/-- The library's table lies in its variable. -/
def Tab (w : World) : Prop := ∀ j, j < 64 → w.cell? ⟨0, j, none⟩ = some (.int .u8 (Lib.deBruijn64tab.getD j 0 : Nat))

theorem Tab.below {w w' : World} {B : Nat} (h : Tab w) (hb : Below B w w') (hB : 0 < B) : Tab w' := fun j hj => (hb.cell (p := ⟨0, j, none⟩) hB).trans (h j hj)

/-- The members below k, rising. -/
def mems (k m : Nat) : List Int := ((List.range k).filter (fun i => m.testBit i)).map (fun i : Nat => (i : Int))

theorem mems_succ (k m : Nat) : mems (k + 1) m = mems k m ++ (if m.testBit k then [(k : Int)] else []) := by
  unfold mems
  rw [List.range_succ, List.filter_append, List.map_append]
  cases h : m.testBit k <;> simp [h]

theorem mems_length (k m : Nat) : (mems k m).length = pc k m := by
  have h : ∀ k m : Nat, pc (k + 1) m = pc k m + (if m.testBit k then 1 else 0) := by
    intro k m
    rw [pc_add k 1 m]
    have e : pc 1 (m / 2 ^ k) = m / 2 ^ k % 2 := by simp [pc, ds]
    rw [e]
    congr 1
    rw [Nat.testBit_eq_decide_div_mod_eq]
    have : m / 2 ^ k % 2 < 2 := Nat.mod_lt _ (by decide)
    by_cases h : m / 2 ^ k % 2 = 1
    · simp [h]
    · simp [h]; omega
  induction k with
  | zero => rfl
  | succ k ih => rw [mems_succ, List.length_append, ih, h]; cases m.testBit k <;> simp

/-- The rest of a word from bit j on. -/
def RestOf (x j r : Nat) : Prop := ∀ s, r.testBit s = (decide (j ≤ s) && x.testBit s)

theorem RestOf.start (x : Nat) : RestOf x 0 x := fun s => by simp

theorem RestOf.zero {x j : Nat} (h : RestOf x j 0) : ∀ s, j ≤ s → x.testBit s = false := fun s hs => by
  have := h s
  simp [hs] at this
  exact this

end Go.Proofs.YthoamlahbnphkaaGreat.B

/-
  What All does, and what it hands back: going over the members, rising.
-/
namespace Go.Proofs.YthoamlahbnphkaaGreat.B
open Go.RowKit Go.Shelf

attribute [local go_sem] Oper.semAt_some

end Go.Proofs.YthoamlahbnphkaaGreat.B

/-
  What Members does.
-/
namespace Go.Proofs.YthoamlahbnphkaaGreat.B
open Go.RowKit Go.Shelf

attribute [local go_sem] Oper.semAt_some

end Go.Proofs.YthoamlahbnphkaaGreat.B

/-
  first: sets and what is found, in memory.
-/
namespace Go.Proofs.YthoamlahbnphkaaGreat
open Go.RowKit Go.Maps Go.Shelf

/-- One member more. -/
theorem add_one (b n m bl : Nat) (x : Int) (w : World) (hS : B.SetM w (some ⟨b, 0, none⟩) n m) (hne : bl ≠ b) (hl : w.cell? ⟨bl, 0, none⟩ = some (.int .i64 x)) :
    Calls Tryz.prog 125 #[.pointer (some ⟨b, 0, none⟩), .slice (some ⟨bl, 0, none⟩) 1 1] w fun e w' => e = .returned (.int .i64 ((B.addS n m [x]).2 : Nat)) ∧ B.SetM w' (some ⟨b, 0, none⟩) n (B.addS n m [x]).1 ∧ w.grownBy w' (some b) := by
  have h1 : ∀ i, i < [x].length → w.cell? ⟨bl, 0 + i, none⟩ = some (.int .i64 ([x].getD i 0)) := fun i hi => by
    have : i = 0 := by simpa using hi
    subst this
    exact hl
  refine Calls.mono (B.add_row b n m bl 0 1 [x] w hS.1 hS.2.1 (SetM_row hS) hne (by simp) h1) ?_
  rintro e w' ⟨he, hr, hlt, hb⟩
  exact ⟨he, B.SetM.of hr hS.1 hlt, hb.os, hb.tape, hb.output, hb.size, fun k hk hne => hb.block k hk (by simpa using hne)⟩

/-- Of what was there, blocks from lo on below hi alone may have turned. -/
structure Outside (lo hi : Nat) (X Y : World) : Prop where
  os : Y.os = X.os
  tape : Y.tape = X.tape
  output : Y.output = X.output
  size : X.heap.size ≤ Y.heap.size
  block : ∀ j, j < X.heap.size → (j < lo ∨ hi ≤ j) → Y.heap[j]? = X.heap[j]?
theorem Outside.kept {lo hi : Nat} {X Y Z : World} (h : Outside lo hi X Y) (hg : Y.grownBy Z none) : Outside lo hi X Z :=
  ⟨hg.os.trans h.os, hg.tape.trans h.tape, hg.output.trans h.output, Nat.le_trans h.size hg.size, fun j hj ho => (hg.block j (Nat.lt_of_lt_of_le hj h.size) (by simp)).trans (h.block j hj ho)⟩
theorem Outside.at {lo hi b : Nat} {X Y Z : World} (h : Outside lo hi X Y) (hg : Y.grownBy Z (some b)) (h1 : lo ≤ b) (h2 : b < hi) : Outside lo hi X Z :=
  ⟨hg.os.trans h.os, hg.tape.trans h.tape, hg.output.trans h.output, Nat.le_trans h.size hg.size, fun j hj ho => (hg.block j (Nat.lt_of_lt_of_le hj h.size) (by simp; omega)).trans (h.block j hj ho)⟩
theorem Outside.grown {lo hi : Nat} {w X Y : World} (h : Outside lo hi X Y) (hw : w.grownBy X none) (hl : w.heap.size ≤ lo) : w.grownBy Y none :=
  ⟨h.os.trans hw.os, h.tape.trans hw.tape, h.output.trans hw.output, Nat.le_trans hw.size h.size, fun j hj _ => (h.block j (Nat.lt_of_lt_of_le hj hw.size) (.inl (by omega))).trans (hw.block j hj (by simp))⟩

/-- A union with one other of the same size. -/
theorem union_in (b c n m s bl : Nat) (w : World) (hm : B.SetM w (some ⟨b, 0, none⟩) n m) (hs : B.SetM w (some ⟨c, 0, none⟩) n s) (hne : c ≠ b) (hnl : bl ≠ b) (hl : w.cell? ⟨bl, 0, none⟩ = some (.pointer (some ⟨c, 0, none⟩))) :
    Calls Tryz.prog 127 #[.pointer (some ⟨b, 0, none⟩), .slice (some ⟨bl, 0, none⟩) 1 1] w fun e w' =>
      e = .returned (.int .i64 (((B.cnt (m ||| s) : Nat) : Int) - (B.cnt m : Nat))) ∧ B.SetM w' (some ⟨b, 0, none⟩) n (m ||| s) ∧ w.grownBy w' (some b) := by
  have e : s &&& (2 ^ n - 1) = s := by rw [Nat.and_two_pow_sub_one_eq_mod]; exact Nat.mod_eq_of_lt hs.2.1
  exact union_one b c n m s bl w hm hs hne hnl hl _ (by rw [e]) _ (by rw [e])

theorem addS_one {n m i : Nat} (hi : i < n) : B.addS n m [(i : Int)] = if m.testBit i = true then (m, 0) else (m ||| 2 ^ i, 1) := by
  have h1 : B.inB n (i : Int) = true := by simp [B.inB, hi]
  have h2 : B.hasB m (i : Int) = m.testBit i := by simp [B.hasB]
  show B.addStep n (m, 0) (i : Int) = _
  unfold B.addStep
  rw [h1]
  simp only [h2, Bool.true_and, Int.toNat_natCast]
  cases m.testBit i <;> rfl
theorem or_bit_same {m i : Nat} (h : m.testBit i = true) : m ||| 2 ^ i = m := by
  apply Nat.eq_of_testBit_eq
  intro j
  rw [Nat.testBit_or, Nat.testBit_two_pow]
  by_cases e : i = j
  · subst e; simp [h]
  · simp [e]
/-- One member below the size more. -/
theorem add_in (b n m bl i : Nat) (hi : i < n) (w : World) (hS : B.SetM w (some ⟨b, 0, none⟩) n m) (hne : bl ≠ b) (hl : w.cell? ⟨bl, 0, none⟩ = some (.int .i64 (i : Int))) :
    Calls Tryz.prog 125 #[.pointer (some ⟨b, 0, none⟩), .slice (some ⟨bl, 0, none⟩) 1 1] w fun e w' => e = .returned (.int .i64 ((if m.testBit i = true then 0 else 1 : Nat) : Int)) ∧ B.SetM w' (some ⟨b, 0, none⟩) n (m ||| 2 ^ i) ∧ w.grownBy w' (some b) := by
  refine (add_one b n m bl (i : Int) w hS hne hl).mono ?_
  rintro e w' ⟨rfl, h2, h3⟩
  rw [addS_one hi] at h2 ⊢
  cases h : m.testBit i with
  | true => rw [h] at h2; exact ⟨rfl, by rw [or_bit_same h]; exact h2, h3⟩
  | false => rw [h] at h2; exact ⟨rfl, h2, h3⟩
theorem cnt_add {m i : Nat} (hi : i < 1024) (h : m.testBit i = false) : B.cnt (m ||| 2 ^ i) = B.cnt m + 1 := by
  have key : ∀ k m, B.pc (k + 1) m = B.pc k m + (if m.testBit k = true then 1 else 0) := by
    intro k m
    rw [← B.mems_length, ← B.mems_length, B.mems_succ, List.length_append]
    cases m.testBit k <;> simp
  have hb : ∀ j, (m ||| 2 ^ i).testBit j = (m.testBit j || decide (i = j)) := fun j => by rw [Nat.testBit_or, Nat.testBit_two_pow]
  have below : ∀ k, k ≤ i → B.pc k (m ||| 2 ^ i) = B.pc k m := by
    intro k
    induction k with
    | zero => intro _; simp [B.pc, B.ds]
    | succ k ih =>
      intro hk
      rw [key, key, ih (by omega), hb]
      have : ¬ i = k := by omega
      simp [this]
  have above : ∀ d, B.pc (i + 1 + d) (m ||| 2 ^ i) = B.pc (i + 1 + d) m + 1 := by
    intro d
    induction d with
    | zero =>
      rw [Nat.add_zero, key, key, below i (Nat.le_refl _), hb, h]
      simp
    | succ d ih =>
      rw [← Nat.add_assoc, key, key, ih, hb]
      have : ¬ i = i + 1 + d := by omega
      simp [this]
      omega
  have := above (1024 - (i + 1))
  rw [show i + 1 + (1024 - (i + 1)) = 1024 by omega] at this
  exact this

/-- What is found, in memory: a row of sets, by symbol, and the set of what vanishes. -/
structure FAt (w : World) (lo hi tn S fb vb : Nat) (f : Nat → Nat) (v : Nat) (m : Nat → Nat) : Prop where
  row : ∀ i, i < S → w.cell? ⟨fb, i, none⟩ = some (.pointer (some ⟨f i, 0, none⟩))
  sets : ∀ i, i < S → B.SetM w (some ⟨f i, 0, none⟩) tn (m i)
  van : B.SetM w (some ⟨vb, 0, none⟩) S v
  rng : (lo ≤ vb ∧ vb < hi) ∧ (lo ≤ fb ∧ fb < hi) ∧ ∀ i, i < S → lo ≤ f i ∧ f i < hi
  inj : ∀ i j, i < S → j < S → f i = f j → i = j
  ne : vb ≠ fb ∧ ∀ i, i < S → f i ≠ vb ∧ f i ≠ fb
section
variable {w w' : World} {lo hi tn S fb vb : Nat} {f : Nat → Nat} {v : Nat} {m : Nat → Nat}
theorem FAt.kept (h : FAt w lo hi tn S fb vb f v m) (hg : w.grownBy w' none) : FAt w' lo hi tn S fb vb f v m :=
  ⟨fun i hi => hg.cell (h.row i hi) (by simp), fun i hi => SetM_kept (h.sets i hi) hg, SetM_kept h.van hg, h.rng, h.inj, h.ne⟩
theorem FAt.other {c : Nat} (h : FAt w lo hi tn S fb vb f v m) (hg : w.grownBy w' (some c)) (hc : c < lo ∨ hi ≤ c) : FAt w' lo hi tn S fb vb f v m :=
  ⟨fun i hi => hg.cell (h.row i hi) (by have := h.rng.2.1; simp; omega), fun i hi => SetM_at (h.sets i hi) hg (by have := h.rng.2.2 i hi; omega), SetM_at h.van hg (by have := h.rng.1; omega), h.rng, h.inj, h.ne⟩
theorem FAt.setB {i y : Nat} (h : FAt w lo hi tn S fb vb f v m) (hiS : i < S) (hg : w.grownBy w' (some (f i))) (hS : B.SetM w' (some ⟨f i, 0, none⟩) tn y) : FAt w' lo hi tn S fb vb f v (upd m i y) :=
  ⟨fun j hj => hg.cell (h.row j hj) (by have := (h.ne.2 i hiS).2; simp; omega), fun j hj => by
    by_cases e : j = i
    · subst e; rw [upd_same]; exact hS
    · rw [upd_other _ _ e]; exact SetM_at (h.sets j hj) hg (fun e2 => e (h.inj j i hj hiS e2)), SetM_at h.van hg (by have := (h.ne.2 i hiS).1; omega), h.rng, h.inj, h.ne⟩
theorem FAt.setV {y : Nat} (h : FAt w lo hi tn S fb vb f v m) (hg : w.grownBy w' (some vb)) (hS : B.SetM w' (some ⟨vb, 0, none⟩) S y) : FAt w' lo hi tn S fb vb f y m :=
  ⟨fun j hj => hg.cell (h.row j hj) (by have := h.ne.1; simp; omega), fun j hj => SetM_at (h.sets j hj) hg (h.ne.2 j hj).1, hS, h.rng, h.inj, h.ne⟩
end

theorem has_in (b n m i : Nat) (w : World) (h : B.SetM w (some ⟨b, 0, none⟩) n m) : Calls Tryz.prog 68 #[.pointer (some ⟨b, 0, none⟩), .int .i64 (i : Int)] w fun e w' => e = .returned (.bool (m.testBit i)) ∧ w.grownBy w' none := by
  refine (B.has_any _ n m (i : Int) w h).mono ?_
  rintro e w' ⟨rfl, k, rfl⟩
  exact ⟨by simp [B.hasB], grown_drewN _ _⟩

end Go.Proofs.YthoamlahbnphkaaGreat
