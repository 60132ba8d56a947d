import Derived.Test.YtjijagnpcmonbaaDoorQiaindmhbojla
import Derived.Test.YtjijagnpcmonbaaDoorQfiikppghldig
import Derived.RangeFuncNested
import Derived.RangeFuncBound
import Derived.RangeFuncCalls
import Derived.RangeFuncLeaves
import Derived.Shelf.Abstract
import Derived.Shelf.RegionOpen
import Derived.OwnWalkIn
import Derived.TacticsInMore
import Derived.LoopNIn
import Derived.LoopIn
import Derived.Maps.AppendAt
import Derived.BigRegion

/-
  What All does, and what it hands back: going over the members, rising.
-/
namespace Go.Proofs.YtjijagnpcmonbaaDoor.B
open Go.RowKit Go.Shelf

attribute [local go_sem] Oper.semAt_some

theorem wpListIn_load_mid {F : Fence} {k : Nat} {P : Program} {ops : Array Oper} {rest : List Oper} {op : Oper} {a : Act} {w : World} {Q : Exit → Act → World → Prop} (hgd : op.guard = none) (ty : TypeId) (x : Operand) (ho : op.op = .load ty x)
    (b o : Nat) (hx : a.eval x = .pointer (some ⟨b, o, none⟩)) (cs : List Value) (d : TypeDesc) (hc : w.rangeAt b o cs)
    (hu : P.underlying ty = some d) (hd : d.isRow = true) (hi : (P.info? ty).map (·.size) = some cs.length)
    (h : wpListIn F k P ops Q rest (a.put op.dst (.agg cs.toArray)) w) : wpListIn F k P ops Q (op :: rest) a w := by
  refine wpListIn_plain hgd fun K hK => ?_
  unfold Oper.wpIn
  refine ⟨by simp [Oper.about, ho], ?_⟩
  rw [Oper.semAt_plain F _ _ (by rw [ho]; intro c hc'; cases hc')]
  simp only [execOp, ho, hx, Instr.loadAt, Instr.sureAddr, Sem.run_bind, Sem.run_pure, Result.andThen_ok, run_loadVar_mid w b o ty cs d hc hu hd hi]
  exact hK _ _ h

theorem RowAt.words {w : World} {b n : Nat} {f : Nat → Nat} (h : RowAt w b n f) : w.rangeAt b 1 (wordsL f) := fun j v hv => by
  have hj : j < 16 := by have := (List.getElem?_eq_some_iff.1 hv).1; simpa [wordsL_length] using this
  rw [wordsL_at f j hj] at hv
  rw [h.word j hj, hv]

theorem all_any (p : Option Addr) (n m : Nat) (w : World) (h : SetM w p n m) :
    Calls Tryd.prog 40 #[.pointer p] w fun e w' => ∃ b, e = .returned (.func (.func 44) #[] #[.pointer (some ⟨b, 0, none⟩)]) ∧ w.heap.size ≤ b ∧ RowAt w' b n (wd m) ∧ Below w.heap.size w w' := by
  have hV := value_any p n m w h
  clear h
  generalize wd m = f at *
  have hmf : ∀ (fn : Fn) (first cap : Array Value) (w : World), (Instr.makeFunc fn first cap).run Tryd.prog w = .ok (.func fn first cap) w := fun _ _ _ _ => rfl
  go_enter Tryd.func40, Tryd.ntmps40
  go_wp2_with fail
  refine hV.mono ?_
  clear hV
  rintro e w1 ⟨rfl, hb⟩
  have hsz := hb.size
  have HB : Hid (Below w.heap.size w w1) := hb
  clear hb
  go_wp2_with (refine wpList_store_row rfl 67 _ _ rfl w1.heap.size (rowL n f).toArray rfl rfl 67 _ (heap_alloc_last w1 _) (info58' n f) (by simp [rowL]) (oneCell_rowL n f) ?_)
  go_ret
  refine ⟨w1.heap.size, rfl, hsz, ?_, ?_⟩
  · rw [World.setRow_alloc_new]; exact heap_alloc_last w1 _
  · rw [World.setRow_alloc_new]; exact HB.out.alloc hsz _

theorem mems_mono {k k' m : Nat} (h : k ≤ k') : mems k m <+: mems k' m := by
  obtain ⟨d, rfl⟩ : ∃ d, k' = k + d := ⟨k' - k, by omega⟩
  clear h
  induction d with
  | zero => exact List.prefix_refl _
  | succ d ih => rw [← Nat.add_assoc, mems_succ]; exact ih.trans (List.prefix_append _ _)

set_option maxRecDepth 100000 in
set_option maxHeartbeats 2000000 in
theorem all1_in (n l Bn n₀ sz m : Nat) (J Jx : List Int → World → Prop)
    (hY : ∀ pre x W, J pre W → pre.length < 1024 → YieldAt Fence.wide (n - 1) Tryd.prog l #[.int .i64 x] W fun e W' =>
      (e = .returned (.bool true) ∧ J (pre ++ [x]) W' ∧ Below n₀ W W') ∨ (e = .returned (.bool false) ∧ Jx (pre ++ [x]) W'))
    (W : World) (hr : RowAt W Bn sz (wd m)) (hT : Tab W) (hn₀ : 0 < n₀) (h0 : J [] W) :
    CallsIn Fence.wide n Tryd.prog 44 #[.func (.yield l) #[] #[], .pointer (some ⟨Bn, 0, none⟩)] W fun e W' => (∃ v, e = .returned v) ∧
      ((∃ ys, ys = mems 1024 m ∧ J ys W') ∨ (∃ pre, pre <+: mems 1024 m ∧ Jx pre W')) := by
  have hrange := hr.words
  have HY : Hid (∀ pre x W, J pre W → pre.length < 1024 → YieldAt Fence.wide (n - 1) Tryd.prog l #[.int .i64 x] W fun e W' =>
      (e = .returned (.bool true) ∧ J (pre ++ [x]) W' ∧ Below n₀ W W') ∨ (e = .returned (.bool false) ∧ Jx (pre ++ [x]) W')) := hY
  have HT : Hid (Tab W) := hT
  clear hr hY hT
  refine callsIn_of_wp Tryd.func44 rfl trivial ?_ rfl
  simp only [Tryd.ntmps44, List.size_toArray, List.length_cons, List.length_nil, Nat.reduceAdd, Nat.reduceSub, Array.replicate_succ, Array.replicate_zero, List.push_toArray, List.append_toArray, List.nil_append, List.cons_append]
  gi_wp2_with (refine wpListIn_load_mid rfl 65 _ rfl Bn 1 rfl (wordsL (wd m)) _ hrange Tryd.underlying65 rfl (by rw [info56, wordsL_length]) ?_)
  obtain ⟨M, hM⟩ : ∃ M : Nat → List Int, ∀ k, M k = mems k m := ⟨fun k => mems k m, fun _ => rfl⟩
  have HM : Hid (∀ k, M k = mems k m) := hM
  have h0' : J (M 0) W := by rw [hM]; exact h0
  have H0 : Hid (J (M 0) W) := h0'
  have hlen : ∀ k, (M k).length ≤ k := fun k => by rw [hM, mems_length]; exact pc_le _ _
  have HL : Hid (∀ k, (M k).length ≤ k) := hlen
  clear hM h0 h0' hrange hlen
  gi_loopw [8] (fun i wr => ∃ k : Nat, k ≤ 16 ∧ i = .int .i64 k ∧ J (M (64 * k)) wr ∧ Below n₀ W wr) (fun i _ => 16 - (intOf i).toNat)
  case atStart => exact ⟨0, by omega, rfl, H0.out, Below.refl _ _⟩
  case round =>
    obtain ⟨k, hk, rfl, hJ, hbel⟩ := hrel
    by_cases hlt : k < 16
    · have hi := fun w' => run_word (wd m) k hlt w'
      have hwlt := wd_lt m k
      have HJ : Hid (J (M (64 * k)) wr) := hJ
      have HB : Hid (Below n₀ W wr) := hbel
      have HW : Hid (∀ s, (wd m k).testBit s = (decide (s < 64) && m.testBit (64 * k + s))) := testBit_wd m k
      clear hJ hbel
      have hdk : decide ((k : Int) < 16) = true := decide_eq_true (by omega)
      gi_wp2
      generalize wd m k = x at *
      gi_loopw [5] (fun r wr => ∃ rn j : Nat, r = .int .u64 rn ∧ j ≤ 64 ∧ rn < 18446744073709551616 ∧ RestOf x j rn ∧ J (M (64 * k + j)) wr ∧ Below n₀ W wr) (fun r _ => (intOf r).toNat)
      case atStart => exact ⟨x, 0, rfl, by omega, hwlt, RestOf.start x, HJ.out, HB.out⟩
      case round =>
        obtain ⟨rn, j, rfl, hj, hrn, hrest, hJ, hbel⟩ := hrel
        by_cases hz : rn = 0
        · subst hz
          have HJ2 : Hid (J (M (64 * (k + 1))) wr) := by
            have e : M (64 * (k + 1)) = M (64 * k + j) := by
              rw [HM.out, HM.out, show 64 * (k + 1) = (64 * k + j) + (64 - j) by omega]
              refine mems_skip m _ _ (fun s h1 h2 => ?_)
              have h3 := hrest.zero (s - 64 * k) (by omega)
              rw [HW.out, decide_eq_true (by omega : s - 64 * k < 64), Bool.true_and, show 64 * k + (s - 64 * k) = s by omega] at h3
              exact h3
            show J _ _
            rw [e]; exact hJ
          have HB2 : Hid (Below n₀ W wr) := hbel
          clear hrest hJ hbel
          gi_wp2
          go_roundw
          case rel => exact ⟨k + 1, by omega, by go_num, HJ2.out, HB2.out⟩
          case measure => simp [intOf]; omega
        · obtain ⟨t, ht64, htb, htl, hTZ⟩ := tz_any rn hrn hz wr (HT.out.below hbel hn₀)
          have hzb : ((rn : Int) != 0) = true := by simp [hz]
          have hjt : j ≤ t := by
            apply Classical.byContradiction
            intro hc
            have := hrest t
            rw [htb] at this
            simp [show ¬ j ≤ t by omega] at this
          have hmt : m.testBit (64 * k + t) = true := by
            have h1 := hrest t
            rw [htb, HW.out] at h1
            simp only [decide_eq_true hjt, decide_eq_true ht64, Bool.true_and] at h1
            exact h1.symm
          have hml : ∀ s, 64 * k + j ≤ s → s < 64 * k + t → m.testBit s = false := fun s h1 h2 => by
            have h3 := hrest (s - 64 * k)
            rw [htl _ (by omega), HW.out, decide_eq_true (by omega : j ≤ s - 64 * k), decide_eq_true (by omega : s - 64 * k < 64), show 64 * k + (s - 64 * k) = s by omega] at h3
            simpa using h3.symm
          have hlen := HL.out (64 * k + j)
          have HE : Hid (M (64 * k + (t + 1)) = M (64 * k + j) ++ [(k : Int) * 64 + (t : Int)]) := by
            show _ = _
            rw [HM.out, HM.out]
            have := mems_hit m (64 * k + j) (t - j) (fun s h1 h2 => hml s h1 (by omega)) (by rw [show 64 * k + j + (t - j) = 64 * k + t by omega]; exact hmt)
            rw [show 64 * k + j + (t - j) + 1 = 64 * k + (t + 1) by omega, show 64 * k + j + (t - j) = 64 * k + t by omega] at this
            rw [this]
            congr 2
            omega
          have HR : Hid (RestOf x (t + 1) (rn &&& (rn - 1))) := rest_next hrest htb htl
          have HRL : Hid (rn &&& (rn - 1) < rn) := rest_lt hz
          have hand : bits BinOp.and IntKind.u64 (rn : Int) ((rn : Int) - 1) = ((rn &&& (rn - 1) : Nat) : Int) := by
            have e : ((rn : Int) - 1) = ((rn - 1 : Nat) : Int) := by omega
            rw [e]; exact bits_and_u64_nat _ _ hrn (by omega)
          obtain ⟨r2, hr2⟩ : ∃ r2, r2 = rn &&& (rn - 1) := ⟨_, rfl⟩
          rw [← hr2] at HR HRL hand
          obtain ⟨fn, tmps, assign, body, hy, hR⟩ := HY.out (M (64 * k + j)) ((k : Int) * 64 + (t : Int)) wr hJ (by omega)
          have HB2 : Hid (Below n₀ W wr) := hbel
          clear hrest hJ hbel hmt hml htb htl hr2
          gi_wp2
          refine ⟨trivial, fun h => (by cases h), ?_⟩
          refine (callsIn_wide.2 hTZ).mono ?_
          clear hTZ
          rintro e w' ⟨rfl, rfl⟩
          gi_wp2
          refine ⟨fun h => (by cases h), hR.mono ?_⟩
          clear hR hy
          rintro e W3 (⟨rfl, hJ3, hk3⟩ | ⟨rfl, hJx3⟩)
          · have HJ3 : Hid (J (M (64 * k + (t + 1))) W3) := by
              show J _ _
              rw [HE.out]; exact hJ3
            have HB3 : Hid (Below n₀ W W3) := HB2.out.trans hk3
            clear hJ3 hk3
            gi_wp2
            go_roundw
            case rel => exact ⟨r2, t + 1, rfl, by omega, by have := HRL.out; omega, HR.out, HJ3.out, HB3.out⟩
            case measure => have := HRL.out; simp [intOf]; omega
          · gi_wp2
            refine bodyPost_ret (results_none rfl _ _ _) rfl ?_
            refine ⟨⟨_, rfl⟩, .inr ⟨_, ?_, hJx3⟩⟩
            rw [← HE.out, HM.out]
            exact mems_mono (by omega)
    · obtain rfl : k = 16 := by omega
      have HJ : Hid (J (M (64 * 16)) wr) := hJ
      clear hJ hbel
      gi_wp2
      go_end0
      exact ⟨⟨_, rfl⟩, .inl ⟨_, HM.out _, HJ.out⟩⟩

/-- What All hands back goes over all members, rising, or over the first of them. -/
theorem all_stops (n Bn n₀ sz m : Nat) (w : World) (hr : RowAt w Bn sz (wd m)) (hT : Tab w) (hn₀ : 0 < n₀) (hw : 0 < w.heap.size) :
    SeqStopsK Fence.wide n Tryd.prog 44 #[.pointer (some ⟨Bn, 0, none⟩)] (fun x : Int => #[Value.int .i64 x]) (Below n₀) (fun ys => ys = mems 1024 m) (fun pre => pre <+: mems 1024 m) 1024 w := fun l J Jx W hW _ _ hY h0 =>
  all1_in n l Bn n₀ sz m J Jx hY W (hr.below hW hr.lt) (hT.below hW hw) hn₀ h0

end Go.Proofs.YtjijagnpcmonbaaDoor.B

/-
  What Members does.
-/
namespace Go.Proofs.YtjijagnpcmonbaaDoor.B
open Go.RowKit Go.Shelf

attribute [local go_sem] Oper.semAt_some

theorem info3 : (Tryd.prog.info? 3).map (fun i => (i.zero, i.size, i.bytes)) = some (some (.int .i64 0), 1, 8) := by kernel_rfl

set_option maxRecDepth 100000 in
set_option maxHeartbeats 2000000 in
theorem members_in (n : Nat) (hn : 3 ≤ n) (c : Nat → Nat) (hC : CountIs c) (hle : ∀ x, c x ≤ 1024) (p : Option Addr) (sz m : Nat) (w : World) (h : SetM w p sz m) (hT : Tab w) (hw0 : 0 < w.heap.size) :
    CallsIn Fence.wide n Tryd.prog 25 #[.pointer p] w fun e w' => ∃ v, e = .returned v ∧ w'.ownsRow w.heap.size 3 1 v (mems 1024 m).length ((mems 1024 m).map (Value.int .i64)) ∧ Below w.heap.size w w' := by
  have h1 : 1 ≤ n := by omega
  have hcm := hle m
  obtain ⟨i0, hi, hz0, hz1, hz2⟩ := info_parts info3
  have HP : Hid (SetM w p sz m) := h
  have HT : Hid (Tab w) := hT
  clear h hT hle
  refine callsIn_of_wp_marks Tryd.func25 rfl trivial ?_ rfl
  simp only [Tryd.ntmps25, List.size_toArray, List.length_cons, List.length_nil, Nat.reduceAdd, Nat.reduceSub, Array.replicate_succ, Array.replicate_zero, List.push_toArray, List.append_toArray, List.nil_append, List.cons_append]
  gi_wp2
  refine ⟨trivial, ?_⟩
  refine (callsIn_wide.2 (hC p sz m _ HP.out)).mono ?_
  rintro e w1 ⟨rfl, hb1⟩
  have hs1 := hb1.size
  gi_wp2_with (gi_at_make; refine wpListIn_make_own _ rfl _ _ 28 rfl w.heap.size 3 i0 (.int .i64 0) 1 Tryd.underlying28 hi hz0 hz1 .i64 .i64 _ (c m) rfl rfl rfl (by rw [hz2]; omega) (by unfold maxLen; omega) hs1 ?_; intro w2 hown hgrow)
  have hb2 : Below w.heap.size w w2 := hb1.grown hgrow hs1 (fun k e => by cases e)
  have hs2 := hb2.size
  have hbW : Below w.heap.size w (w2.alloc (.cells #[.slice (some ⟨w1.heap.size, 0, none⟩) 0 (c m)] 28)) := hb2.alloc hs2 _
  have bO := Boxed.new w2 28 (.slice (some ⟨w1.heap.size, 0, none⟩) 0 (c m))
  have hownW := hown.alloc (.cells #[.slice (some ⟨w1.heap.size, 0, none⟩) 0 (c m)] 28)
  generalize hV : Value.slice (some ⟨w1.heap.size, 0, none⟩) 0 (c m) = v0 at *
  generalize w2.alloc (.cells #[v0] 28) = W at *
  generalize w2.heap.size = Bx at *
  have HV : Hid (Value.slice (some ⟨w1.heap.size, 0, none⟩) 0 (c m) = v0) := hV
  clear hV hown hgrow hb1 hs1 hb2
  refine ⟨trivial, ?_⟩
  refine (callsIn_wide.2 (all_any p sz m _ (HP.out.keep hbW))).mono ?_
  rintro e w3 ⟨b, rfl, hbge, hrow3, hb3⟩
  have hg3 : W.grownBy w3 none := ⟨hb3.os, hb3.tape, hb3.output, hb3.size, fun k hk _ => hb3.block k hk⟩
  have bO3 : Boxed w3 Bx 28 v0 := bO.kept hg3 (by simp)
  have hown3 : w3.ownsRow w.heap.size 3 1 v0 0 [] := hownW.kept hg3 (.inr (by rw [← HV.out]; simp [Value.ownBlock]))
  have hbW3 : Below w.heap.size w w3 := hbW.trans (hb3.mono hbW.size)
  have hsz3 := hbW3.size
  have hT3 : Tab w3 := HT.out.below hbW3 hw0
  have hBx3 := bO3.lt
  have hstop := all_stops (n - 1) b w.heap.size sz m w3 hrow3 hT3 hw0 (by omega)
  clear hbW bO hownW hb3 hg3 hrow3 hT3 hbge
  gi_wp2
  refine wpIn_rangeFunc_ownG rfl h1 (gf := 44) (lb := #[.pointer (some ⟨b, 0, none⟩)]) rfl trivial (enters_of Tryd.func44 (by kernel_rfl) rfl)
    hstop belowK_t (belowK_b hsz3) (Below.refl _ _) (fun _ => rfl)
    (fun pre W => (∃ v, Boxed W Bx 28 v ∧ W.ownsRow w.heap.size 3 1 v pre.length (pre.map (Value.int .i64)) ∧ True) ∧ Below w.heap.size w W)
    (fun _ _ _ => False)
    (OwnFrom.and (Own.from (holdsRow_own w.heap.size Bx 28 3 1 (fun pre : List Int => pre.length) (fun pre : List Int => pre.map (Value.int .i64)) (fun _ _ => True)) _) (ownFrom_below (Nat.le_refl _) hsz3))
    (fun _ _ _ _ _ hs _ _ => hs)
    ⟨⟨_, bO3, hown3, trivial⟩, hbW3⟩
    (fun x => { tmps := #[.pointer p, undef, .slice none 0 0, .pointer (some ⟨Bx, 0, none⟩), .int .i64 x, .pointer p, .int .i64 (c m), v0, .pointer p, .func (.func 44) #[] #[.pointer (some ⟨b, 0, none⟩)], .int .i64 x, undef, undef, undef, undef, undef], defers := [] }) ?assign ?body ?done ?stop
  case assign =>
    intro l x W K hK
    gi_wp2
    exact hK
  case body =>
    rintro l pre x W ⟨⟨v, hv, hrow, _⟩, hB⟩ hlt
    have hc := hv.cell
    have hBs := hB.size
    gi_wp2_with (gi_at_builtin; refine wpListIn_append_own _ rfl _ _ 28 rfl w.heap.size 3 i0 (.int .i64 0) 1 8 Tryd.underlying28 hi hz0 hz1 hz2 rfl (by decide) _ _ _ rfl (hrow.alloc _) ⟨W.heap.size, 0, none⟩ 1 1 [.int .i64 x] rfl rfl (cell_one_new _ _ _) (by simp [Value.oneCell']) (by unfold maxLen; omega) (by omega) (by simp; omega) ?_; intro v' w1 hown' hgrow _; obtain ⟨g', cap', rfl⟩ := ownsRow_succ hown'; obtain ⟨hv1, hv2, hr2, hk2, hb2⟩ := hv.appended (by decide) hrow hB.size (by omega) hown' hgrow; have hc1 := hv1.cell; have hf1 := hv1.frozen)
    exact ⟨hk2.from _, hb2, ⟨_, hv2, by simpa using hr2, trivial⟩, hB.trans hb2⟩
  case done =>
    rintro D ys W hD rfl ⟨⟨v, hv, hrow, _⟩, hB⟩ hK
    have hc := hv.cell
    gi_wp2
    refine ⟨by simp, .inl ⟨_, _, rfl, run_takeDeferred hK, ?_⟩⟩
    exact ⟨_, results_tmp rfl _ _ _, v, rfl, ownsRow_putObj hrow _ hK rfl, hB.trans (belowK_b (w := w) (Nat.le_refl _) W D _ _ (by omega) hK rfl rfl)⟩
  case stop =>
    rintro D c pre W _ _ h _
    exact h.elim

end Go.Proofs.YtjijagnpcmonbaaDoor.B

/-
  The document's own sets (package presageref01) in memory: Of, Add, Members.
-/
namespace Go.Proofs.YtjijagnpcmonbaaDoor.B
open Go.RowKit Go.Shelf

attribute [local go_sem] Oper.semAt_some

/-- Of each number below n whether it is a member. -/
def boolL (n m : Nat) : List Value := (List.range n).map (fun i => Value.bool (m.testBit i))

/-- The document's set in block br, its list in block bi. -/
structure RefAt (w : World) (br bi n m : Nat) : Prop where
  head : w.heap[br]? = some (.cells #[.slice (some ⟨bi, 0, none⟩) n n] 76 (0, 0))
  row : w.heap[bi]? = some (.cells (boolL n m).toArray 4 (0, 0))
  ne : br ≠ bi
  le : n ≤ 1024
  lt : m < 2 ^ n

theorem boolL_length (n m : Nat) : (boolL n m).length = n := by simp [boolL]
theorem boolL_at (n m i : Nat) (hi : i < n) : (boolL n m)[i]? = some (.bool (m.testBit i)) := by simp [boolL, hi]
theorem boolL_set (n m m' i : Nat) (hi : i < n) (h : ∀ j, j ≠ i → m'.testBit j = m.testBit j) : (boolL n m).set i (.bool (m'.testBit i)) = boolL n m' := by
  apply List.ext_getElem?
  intro k
  rw [List.getElem?_set]
  by_cases hk : k < n
  · rw [boolL_at n m' k hk]
    by_cases e : i = k
    · subst e; simp [boolL_length, hi]
    · rw [if_neg e, boolL_at n m k hk, h k (fun h => e h.symm)]
  · rw [List.getElem?_eq_none (by rw [boolL_length]; omega)]
    rw [if_neg (by omega), List.getElem?_eq_none (by rw [boolL_length]; omega)]

theorem RefAt.hcell {w : World} {br bi n m : Nat} (h : RefAt w br bi n m) : w.cell? ⟨br, 0, none⟩ = some (.slice (some ⟨bi, 0, none⟩) n n) := cell_of_row w br 0 _ _ _ h.head
theorem RefAt.cell {w : World} {br bi n m : Nat} (h : RefAt w br bi n m) (i : Nat) (hi : i < n) : w.cell? ⟨bi, i, none⟩ = some (.bool (m.testBit i)) := by
  rw [cell_of_row w bi i _ _ _ h.row]; simpa using boolL_at n m i hi
theorem RefAt.free {w : World} {br bi n m : Nat} (h : RefAt w br bi n m) (i : Nat) : w.frozen? ⟨bi, i, none⟩ = false := frozen_of_row w bi i _ _ h.row
theorem RefAt.ltr {w : World} {br bi n m : Nat} (h : RefAt w br bi n m) : br < w.heap.size := (Array.getElem?_eq_some_iff.1 h.head).1
theorem RefAt.lti {w : World} {br bi n m : Nat} (h : RefAt w br bi n m) : bi < w.heap.size := (Array.getElem?_eq_some_iff.1 h.row).1
theorem RefAt.keep {w w' : World} {br bi n m : Nat} (h : RefAt w br bi n m) (hb : Below w.heap.size w w') : RefAt w' br bi n m :=
  ⟨(hb.block br h.ltr).trans h.head, (hb.block bi h.lti).trans h.row, h.ne, h.le, h.lt⟩
theorem RefAt.but {w w' : World} {br bi n m b : Nat} (h : RefAt w br bi n m) (hb : But b w w') (h1 : br ≠ b) (h2 : bi ≠ b) : RefAt w' br bi n m :=
  ⟨(hb.block br h.ltr h1).trans h.head, (hb.block bi h.lti h2).trans h.row, h.ne, h.le, h.lt⟩
theorem RefAt.drewN {w : World} {br bi n m : Nat} (h : RefAt w br bi n m) (k : Nat) : RefAt (w.drewN k) br bi n m := ⟨h.head, h.row, h.ne, h.le, h.lt⟩

theorem RefAt.store {w : World} {br bi n m m' : Nat} (h : RefAt w br bi n m) (i : Nat) (hi : i < n) (hj : ∀ j, j ≠ i → m'.testBit j = m.testBit j) (hlt : m' < 2 ^ n) :
    RefAt (w.setCell ⟨bi, i, none⟩ (.bool (m'.testBit i))) br bi n m' := by
  refine ⟨(Below.heap_setCell _ _ _ _ h.ne).trans h.head, ?_, h.ne, h.le, hlt⟩
  rw [heap_setCell_same w bi i _ _ _ h.row, ← boolL_set n m m' i hi hj]
  simp

theorem mems_full {n m : Nat} (hn : n ≤ 1024) (hm : m < 2 ^ n) : mems n m = mems 1024 m := by
  obtain ⟨d, hd⟩ : ∃ d, 1024 = n + d := ⟨1024 - n, by omega⟩
  rw [hd, mems_skip m n d (fun s h1 _ => Nat.testBit_lt_two_pow (Nat.lt_of_lt_of_le hm (Nat.pow_le_pow_right (by decide) h1)))]

theorem add_bits (m i : Nat) : ∀ j, j ≠ i → (m ||| 2 ^ i).testBit j = m.testBit j := fun j hj => by
  rw [Nat.testBit_or, Nat.testBit_two_pow, decide_eq_false (fun h => hj h.symm), Bool.or_false]
theorem add_bit (m i : Nat) : (m ||| 2 ^ i).testBit i = true := by
  rw [Nat.testBit_or, Nat.testBit_two_pow, decide_eq_true rfl, Bool.or_true]

theorem radd_none (br : Nat) (a : Option Addr) (cap : Nat) (w : World) :
    Calls Tryd.prog 27 #[.pointer (some ⟨br, 0, none⟩), .slice a 0 cap] w fun e w' => e = .returned (.int .i64 0) ∧ w' = w := by
  go_enter Tryd.func27, Tryd.ntmps27
  go_wp2
  go_loop [5, 6] (fun a i => a = .int .i64 0 ∧ i = .int .i64 0) (fun _ _ => 0)
  case atStart => exact ⟨rfl, rfl⟩
  case round =>
    obtain ⟨rfl, rfl⟩ := hrel
    go_wp2
    go_ret
    exact ⟨rfl, rfl⟩

set_option maxHeartbeats 1000000 in
theorem radd_row (br bi n m bl off cap : Nat) (l : List Int) (w : World) (hr : RefAt w br bi n m) (hne : bl ≠ bi) (hlen : l.length < 1152921504606846976)
    (hc : ∀ i, i < l.length → w.cell? ⟨bl, off + i, none⟩ = some (.int .i64 (l.getD i 0))) :
    Calls Tryd.prog 27 #[.pointer (some ⟨br, 0, none⟩), .slice (some ⟨bl, off, none⟩) l.length cap] w fun e w' =>
      e = .returned (.int .i64 ((addS n m l).2 : Nat)) ∧ RefAt w' br bi n (addS n m l).1 ∧ But bi w w' := by
  have HC : Hid (∀ i, i < l.length → w.cell? ⟨bl, off + i, none⟩ = some (.int .i64 (l.getD i 0))) := hc
  have HR : Hid (RefAt w br bi n m) := hr
  have hn := hr.le
  clear hc hr
  go_enter Tryd.func27, Tryd.ntmps27
  go_wp2
  go_loopw [5, 6] (fun a i wr => ∃ k : Nat, k ≤ l.length ∧ i = .int .i64 k ∧ a = .int .i64 ((addS n m (l.take k)).2 : Nat) ∧ (addS n m (l.take k)).2 ≤ k ∧ RefAt wr br bi n (addS n m (l.take k)).1 ∧ But bi w wr)
    (fun _ i _ => l.length - (intOf i).toNat)
  case atStart => exact ⟨0, Nat.zero_le _, rfl, rfl, Nat.zero_le _, HR.out, But.refl _ _⟩
  case round =>
    obtain ⟨k, hk, rfl, rfl, hle, hrow, hbut⟩ := hrel
    by_cases hlt : k < l.length
    · have hsn := addS_snoc n m l k hlt
      have hcell : wr.cell? ⟨bl, off + k, none⟩ = some (.int .i64 (l.getD k 0)) := by
        have h1 := HC.out k hlt
        have h2 : bl < w.heap.size := World.block_lt_of_cell? w _ h1
        rw [World.cell?_of_block (w := w) (hbut.block bl h2 hne)]; exact h1
      generalize l.getD k 0 = x at hsn hcell
      generalize addS n m (l.take k) = s at *
      obtain ⟨sm, sk⟩ := s
      have HSN : Hid (addS n m (l.take (k + 1)) = addStep n (sm, sk) x) := hsn
      have HROW : Hid (RefAt wr br bi n sm) := hrow
      have HBUT : Hid (But bi w wr) := hbut
      have hh := hrow.hcell
      clear hsn hrow hbut
      by_cases h0 : 0 ≤ x
      · have hd : decide (0 ≤ x) = true := decide_eq_true h0
        by_cases h1 : x < n
        · obtain ⟨y, rfl⟩ := Int.eq_ofNat_of_zero_le h0
          have hyn : y < n := by omega
          have hcy := HROW.out.cell y hyn
          have hfz := HROW.out.free y
          have hdy : decide ((y : Int) < (n : Int)) = true := decide_eq_true h1
          cases hb : sm.testBit y with
          | true =>
            rw [hb] at hcy
            have HB : Hid (sm.testBit y = true) := hb
            clear hb
            go_wp2
            go_roundw
            case rel =>
              have e : addS n m (l.take (k + 1)) = (sm, sk) := by rw [HSN.out]; simp [addStep, hasB, HB.out]
              exact ⟨k + 1, by omega, by go_num, by rw [e], by rw [e]; simp; omega, by rw [e]; exact HROW.out, HBUT.out⟩
            case measure => simp [intOf]; omega
          | false =>
            rw [hb] at hcy
            have HB : Hid (sm.testBit y = false) := hb
            clear hb
            go_wp2
            go_roundw
            case rel =>
              have e : addS n m (l.take (k + 1)) = (sm ||| 2 ^ y, sk + 1) := by rw [HSN.out]; simp [addStep, hasB, inB, HB.out, hyn]
              have hst := HROW.out.store y hyn (add_bits sm y) (lt_or HROW.out.lt (two_pow_lt hyn))
              rw [add_bit] at hst
              exact ⟨k + 1, by omega, by go_num, by rw [e]; go_num, by rw [e]; simp; omega, by rw [e]; exact hst, HBUT.out.setCell _ _⟩
            case measure => simp [intOf]; omega
        · have hdy : decide (x < (n : Int)) = false := decide_eq_false h1
          have HIN : Hid (inB n x = false) := by show _ = _; unfold inB; rw [hdy, Bool.and_false]
          go_wp2
          go_roundw
          case rel =>
            have e : addS n m (l.take (k + 1)) = (sm, sk) := by rw [HSN.out]; simp [addStep, HIN.out]
            exact ⟨k + 1, by omega, by go_num, by rw [e], by rw [e]; simp; omega, by rw [e]; exact HROW.out, HBUT.out⟩
          case measure => simp [intOf]; omega
      · have hd : decide (0 ≤ x) = false := decide_eq_false h0
        have HIN : Hid (inB n x = false) := by show _ = _; unfold inB; rw [hd, Bool.false_and]
        go_wp2
        go_roundw
        case rel =>
          have e : addS n m (l.take (k + 1)) = (sm, sk) := by rw [HSN.out]; simp [addStep, HIN.out]
          exact ⟨k + 1, by omega, by go_num, by rw [e], by rw [e]; simp; omega, by rw [e]; exact HROW.out, HBUT.out⟩
        case measure => simp [intOf]; omega
    · have : k = l.length := by omega
      subst this
      rw [List.take_length] at *
      go_wp2
      go_ret
      exact ⟨rfl, hrow, hbut⟩

/-- Behind an append to a list of the call's own. -/
theorem below_append {B : Nat} {w wr w1 : World} {e size n : Nat} {v : Value} {xs : List Value} {o : Obj} (hb : Below B w wr) (hown : wr.ownsRow B e size v n xs) (hgrow : (wr.alloc o).grownBy w1 v.ownBlock) (hB : B ≤ wr.heap.size := by omega) : Below B w w1 :=
  (hb.alloc hB _).grown hgrow (by simp; omega) (fun j ej => by
    rcases hown.2 with ⟨rfl, _⟩ | ⟨g, cap, cur, rfl, hg, _⟩
    · simp [Value.ownBlock] at ej
    · have : g = j := by simpa [Value.ownBlock] using ej
      omega)

set_option maxHeartbeats 1000000 in
theorem rmembers_core (br bi n m : Nat) (M : Nat → List Int) (w : World) (h : RefAt w br bi n m) (hM0 : M 0 = []) (hMs : Hid (∀ k, M (k + 1) = M k ++ (if m.testBit k then [(k : Int)] else []))) (hMl : Hid (∀ k, (M k).length ≤ k)) :
    Calls Tryd.prog 28 #[.pointer (some ⟨br, 0, none⟩)] w fun e w' => ∃ v, e = .returned v ∧ w'.ownsRow w.heap.size 3 1 v (M n).length ((M n).map (Value.int .i64)) ∧ Below w.heap.size w w' := by
  obtain ⟨i0, hi, hz0, hz1, hz2⟩ := info_parts info3
  have HR : Hid (RefAt w br bi n m) := h
  have hn := h.le
  clear h
  go_enter Tryd.func28, Tryd.ntmps28
  go_wp2
  go_loopw [3, 4] (fun v i wr => ∃ k : Nat, k ≤ n ∧ i = .int .i64 k ∧ wr.ownsRow w.heap.size 3 1 v (M k).length ((M k).map (Value.int .i64)) ∧ Below w.heap.size w wr) (fun _ i _ => n - (intOf i).toNat)
  case atStart => exact ⟨0, Nat.zero_le _, rfl, by rw [hM0]; exact World.ownsRow_nil _ _ _ _, Below.refl _ _⟩
  case round =>
    obtain ⟨k, hk, rfl, hown, hbel⟩ := hrel
    have hRw := HR.out.keep hbel
    have hh := hRw.hcell
    have hml := hMl.out k
    have hbs := hbel.size
    clear hM0
    by_cases hlt : k < n
    · have hc := hRw.cell k hlt
      have HS : Hid (M (k + 1) = M k ++ (if m.testBit k then [(k : Int)] else [])) := hMs.out k
      have HBEL : Hid (Below w.heap.size w wr) := hbel
      clear hRw hbel
      cases hb : m.testBit k with
      | true =>
        rw [hb] at hc HS
        clear hb
        generalize M k = Mk at *
        go_wp2_with (at_builtin; refine wpList_append_own _ rfl _ _ 28 rfl w.heap.size 3 i0 (.int .i64 0) 1 8 Tryd.underlying28 hi hz0 hz1 hz2 rfl (by decide) _ _ _ rfl (hown.alloc _) ⟨wr.heap.size, 0, none⟩ 1 1 [.int .i64 (k : Int)] rfl rfl (cell_one_new _ _ _) (by simp [Value.oneCell']) (by unfold maxLen; omega) (by omega) (by simp; omega) ?_; intro v' w1 hown' hgrow _)
        go_roundw
        case rel =>
          refine ⟨k + 1, by omega, by go_num, ?_, ?_⟩
          · rw [HS.out]; simpa using hown'
          · exact below_append HBEL.out hown hgrow
        case measure => simp [intOf]; omega
      | false =>
        rw [hb] at hc HS
        clear hb
        go_wp2
        go_roundw
        case rel => exact ⟨k + 1, by omega, by go_num, by rw [HS.out]; simpa using hown, HBEL.out⟩
        case measure => simp [intOf]; omega
    · have : k = n := by omega
      subst this
      go_wp2
      go_ret
      exact ⟨_, rfl, hown, hbel⟩

theorem rmembers_any (br bi n m : Nat) (w : World) (h : RefAt w br bi n m) :
    Calls Tryd.prog 28 #[.pointer (some ⟨br, 0, none⟩)] w fun e w' => ∃ v, e = .returned v ∧ w'.ownsRow w.heap.size 3 1 v (mems 1024 m).length ((mems 1024 m).map (Value.int .i64)) ∧ Below w.heap.size w w' := by
  have := rmembers_core br bi n m (fun k => mems k m) w h rfl (fun k => mems_succ k m) (fun k => by rw [mems_length]; exact pc_le k m)
  rw [← mems_full h.le h.lt]
  exact this


theorem info4 : (Tryd.prog.info? 4).map (fun i => (i.zero, i.size, i.bytes)) = some (some (.bool false), 1, 1) := by kernel_rfl

/-- A new list of n bools, each false. -/
theorem made_row {w w1 : World} {B n : Nat} (h : w1.ownsRow B 4 1 (.slice (some ⟨w.heap.size, 0, none⟩) n n) n (madeCells (Value.bool false).cells (n * 1)).toList) :
    w1.heap[w.heap.size]? = some (.cells (boolL n 0).toArray 4 (0, 0)) := by
  rcases h.2 with ⟨h', _⟩ | ⟨g, cap, cur, hv, _, hh, _, _, hs, ht⟩
  · cases h'
  · simp only [Value.slice.injEq, Option.some.injEq, Addr.mk.injEq, and_true, true_and] at hv
    obtain ⟨rfl, rfl⟩ := hv
    have e : cur = (boolL n 0).toArray := by
      apply Array.ext'
      rw [show cur.toList = cur.toList.take (n * 1) by rw [List.take_of_length_le (by simp; omega)], ht]
      rw [show (Value.bool false).cells = #[.bool false] from rfl, toList_madeCells_one, Nat.mul_one]
      unfold boolL
      simp only [Nat.zero_testBit]
      rw [List.map_const', List.length_range]
    rw [hh, e]

theorem refOf_core (z : Int) (n k m' : Nat) (v : Value) (w : World) (hn : clampN z = n)
    (hA : Hid (∀ W br, RefAt W br w.heap.size n 0 → Below w.heap.size w W → Calls Tryd.prog 27 #[.pointer (some ⟨br, 0, none⟩), v] W fun e w' =>
      e = .returned (.int .i64 k) ∧ RefAt w' br w.heap.size n m' ∧ But w.heap.size W w')) :
    Calls Tryd.prog 26 #[.int .i64 z, v] w fun e w' => ∃ br, e = .returned (.pointer (some ⟨br, 0, none⟩)) ∧ w.heap.size < br ∧ RefAt w' br w.heap.size n m' ∧ Below w.heap.size w w' := by
  obtain ⟨i0, hi, hz0, hz1, hz2⟩ := info_parts info4
  have hnl : n ≤ 1024 := by rw [← hn]; exact clampN_le z
  have FIN : Hid (∀ w1 : World, w1.ownsRow w.heap.size 4 1 (.slice (some ⟨w.heap.size, 0, none⟩) n n) n (madeCells (Value.bool false).cells (n * 1)).toList → w.grownBy w1 none →
      RefAt (w1.alloc (.cells #[.slice (some ⟨w.heap.size, 0, none⟩) n n] 76)) w1.heap.size w.heap.size n 0 ∧ Below w.heap.size w (w1.alloc (.cells #[.slice (some ⟨w.heap.size, 0, none⟩) n n] 76)) ∧ w.heap.size < w1.heap.size) := by
    intro w1 h1 h2
    have hr := made_row h1
    have hlt : w.heap.size < w1.heap.size := (Array.getElem?_eq_some_iff.1 hr).1
    refine ⟨⟨heap_alloc_last w1 _, (Below.heap_alloc _ _ _ hlt).trans hr, by omega, hnl, Nat.two_pow_pos _⟩, ?_, hlt⟩
    exact ((Below.refl _ w).grown h2 (Nat.le_refl _) (fun k e => by cases e)).alloc (by omega) _
  have FIN2 : Hid (∀ w1 w' : World, w1.ownsRow w.heap.size 4 1 (.slice (some ⟨w.heap.size, 0, none⟩) n n) n (madeCells (Value.bool false).cells (n * 1)).toList → w.grownBy w1 none →
      But w.heap.size (w1.alloc (.cells #[.slice (some ⟨w.heap.size, 0, none⟩) n n] 76)) w' → Below w.heap.size w w') := by
    intro w1 w' h1 h2 hb
    obtain ⟨_, f2, _⟩ := FIN.out w1 h1 h2
    exact f2.trans (hb.below f2.size (Nat.le_refl _))
  have HN : Hid (clampN z = n) := hn
  clear hn
  by_cases h1 : z ≤ 0
  · obtain rfl : n = 0 := by rw [← HN.out]; unfold clampN; omega
    by_cases h2 : z = 0
    · subst h2
      go_enter Tryd.func26, Tryd.ntmps26
      go_wp2_with (at_make; refine wpList_make_full _ rfl _ _ 60 rfl w.heap.size 4 i0 (.bool false) 1 Tryd.underlying60 hi hz0 hz1 .i64 .i64 _ _ 0 rfl rfl rfl rfl (by rw [hz2]; omega) (by unfold maxLen; omega) (Nat.le_refl _) ?_; intro w1 hown hgrow)
      obtain ⟨f1, f2, f3⟩ := FIN.out w1 hown hgrow
      refine (hA.out _ _ f1 f2).mono ?_
      clear f1 f2
      rintro e w' ⟨rfl, hr, hb⟩
      go_wp2
      go_ret
      exact ⟨_, rfl, f3, hr, FIN2.out _ _ hown hgrow hb⟩
    · have h3 : z < 0 := by omega
      clear h1
      go_enter Tryd.func26, Tryd.ntmps26
      go_wp2_with (at_make; refine wpList_make_full _ rfl _ _ 60 rfl w.heap.size 4 i0 (.bool false) 1 Tryd.underlying60 hi hz0 hz1 .i64 .i64 _ _ 0 rfl rfl rfl rfl (by rw [hz2]; omega) (by unfold maxLen; omega) (Nat.le_refl _) ?_; intro w1 hown hgrow)
      obtain ⟨f1, f2, f3⟩ := FIN.out w1 hown hgrow
      refine (hA.out _ _ f1 f2).mono ?_
      clear f1 f2
      rintro e w' ⟨rfl, hr, hb⟩
      go_wp2
      go_ret
      exact ⟨_, rfl, f3, hr, FIN2.out _ _ hown hgrow hb⟩
  · by_cases h2 : z ≤ 1024
    · obtain ⟨y, rfl⟩ := Int.eq_ofNat_of_zero_le (by omega : 0 ≤ z)
      obtain rfl : n = y := by rw [← HN.out]; unfold clampN; omega
      go_enter Tryd.func26, Tryd.ntmps26
      go_wp2_with (at_make; refine wpList_make_full _ rfl _ _ 60 rfl w.heap.size 4 i0 (.bool false) 1 Tryd.underlying60 hi hz0 hz1 .i64 .i64 _ _ n rfl rfl rfl rfl (by rw [hz2]; omega) (by unfold maxLen; omega) (Nat.le_refl _) ?_; intro w1 hown hgrow)
      obtain ⟨f1, f2, f3⟩ := FIN.out w1 hown hgrow
      refine (hA.out _ _ f1 f2).mono ?_
      clear f1 f2
      rintro e w' ⟨rfl, hr, hb⟩
      go_wp2
      go_ret
      exact ⟨_, rfl, f3, hr, FIN2.out _ _ hown hgrow hb⟩
    · obtain rfl : n = 1024 := by rw [← HN.out]; unfold clampN; omega
      go_enter Tryd.func26, Tryd.ntmps26
      go_wp2_with (at_make; refine wpList_make_full _ rfl _ _ 60 rfl w.heap.size 4 i0 (.bool false) 1 Tryd.underlying60 hi hz0 hz1 .i64 .i64 _ _ 1024 rfl rfl rfl rfl (by rw [hz2]; omega) (by unfold maxLen; omega) (Nat.le_refl _) ?_; intro w1 hown hgrow)
      obtain ⟨f1, f2, f3⟩ := FIN.out w1 hown hgrow
      refine (hA.out _ _ f1 f2).mono ?_
      clear f1 f2
      rintro e w' ⟨rfl, hr, hb⟩
      go_wp2
      go_ret
      exact ⟨_, rfl, f3, hr, FIN2.out _ _ hown hgrow hb⟩

theorem refOf_any (z : Int) (a : Option Addr) (cap : Nat) (l : List Int) (w : World) (hl : IntsAt w a l) (hlen : l.length < 1152921504606846976) :
    Calls Tryd.prog 26 #[.int .i64 z, .slice a l.length cap] w fun e w' => ∃ br, e = .returned (.pointer (some ⟨br, 0, none⟩)) ∧ w.heap.size < br ∧ RefAt w' br w.heap.size (clampN z) (addS (clampN z) 0 l).1 ∧ Below w.heap.size w w' := by
  rcases hl with rfl | ⟨bl, off, rfl, hc⟩
  · refine refOf_core z _ 0 0 _ w rfl (fun W br hr hb => (radd_none br a cap W).mono ?_)
    rintro e w' ⟨rfl, rfl⟩
    exact ⟨rfl, hr, But.refl _ _⟩
  · by_cases hne : l = []
    · subst hne
      refine refOf_core z _ 0 0 _ w rfl (fun W br hr hb => (radd_none br _ cap W).mono ?_)
      rintro e w' ⟨rfl, rfl⟩
      exact ⟨rfl, hr, But.refl _ _⟩
    · have hlt : bl < w.heap.size := World.block_lt_of_cell? w _ (hc 0 (List.length_pos_iff.2 hne))
      refine refOf_core z _ (addS (clampN z) 0 l).2 _ _ w rfl (fun W br hr hb => radd_row br w.heap.size _ 0 bl off cap l W hr (by omega) hlen (fun i hi => ?_))
      rw [hb.cell (by exact hlt)]; exact hc i hi


end Go.Proofs.YtjijagnpcmonbaaDoor.B
