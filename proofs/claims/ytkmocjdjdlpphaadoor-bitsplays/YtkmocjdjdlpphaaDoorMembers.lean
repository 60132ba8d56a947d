/-
  What Members does.
-/
import Derived.Test.YtkmocjdjdlpphaaDoorAll
import Derived.Test.YtkmocjdjdlpphaaDoorUnion
import Derived.Maps.AppendAt
namespace Go.Proofs.YtkmocjdjdlpphaaDoor
open Go.RowKit Go.Shelf

attribute [local go_sem] Oper.semAt_some

theorem info3 : (Tryd.prog.info? 3).map (fun i => (i.zero, i.size, i.bytes)) = some (some (.int .i64 0), 1, 8) := by kernel_rfl

set_option maxRecDepth 100000 in
set_option maxHeartbeats 2000000 in
theorem members_in (n : Nat) (hn : 3 ≤ n) (c : Nat → Nat) (hC : CountIs c) (hle : ∀ x, c x ≤ 1024) (p : Option Addr) (sz m : Nat) (w : World) (h : SetM w p sz m) (hT : Tab w) (hw0 : 0 < w.heap.size) :
    CallsIn Fence.wide n Tryd.prog 14 #[.pointer p] w fun e w' => ∃ v, e = .returned v ∧ w'.ownsRow w.heap.size 3 1 v (mems 1024 m).length ((mems 1024 m).map (Value.int .i64)) ∧ Below w.heap.size w w' := by
  have h1 : 1 ≤ n := by omega
  have hcm := hle m
  obtain ⟨i0, hi, hz0, hz1, hz2⟩ := info_parts info3
  have HP : Hid (SetM w p sz m) := h
  have HT : Hid (Tab w) := hT
  clear h hT hle
  refine callsIn_of_wp_marks Tryd.func14 rfl trivial ?_ rfl
  simp only [Tryd.ntmps14, List.size_toArray, List.length_cons, List.length_nil, Nat.reduceAdd, Nat.reduceSub, Array.replicate_succ, Array.replicate_zero, List.push_toArray, List.append_toArray, List.nil_append, List.cons_append]
  gi_wp2
  refine ⟨trivial, ?_⟩
  refine (callsIn_wide.2 (hC p sz m _ HP.out)).mono ?_
  rintro e w1 ⟨rfl, hb1⟩
  have hs1 := hb1.size
  gi_wp2_with (gi_at_make; refine wpListIn_make_own _ rfl _ _ 29 rfl w.heap.size 3 i0 (.int .i64 0) 1 Tryd.underlying29 hi hz0 hz1 .i64 .i64 _ (c m) rfl rfl rfl (by rw [hz2]; omega) (by unfold maxLen; omega) hs1 ?_; intro w2 hown hgrow)
  have hb2 : Below w.heap.size w w2 := hb1.grown hgrow hs1 (fun k e => by cases e)
  have hs2 := hb2.size
  have hbW : Below w.heap.size w (w2.alloc (.cells #[.slice (some ⟨w1.heap.size, 0, none⟩) 0 (c m)] 29)) := hb2.alloc hs2 _
  have bO := Boxed.new w2 29 (.slice (some ⟨w1.heap.size, 0, none⟩) 0 (c m))
  have hownW := hown.alloc (.cells #[.slice (some ⟨w1.heap.size, 0, none⟩) 0 (c m)] 29)
  generalize hV : Value.slice (some ⟨w1.heap.size, 0, none⟩) 0 (c m) = v0 at *
  generalize w2.alloc (.cells #[v0] 29) = W at *
  generalize w2.heap.size = Bx at *
  have HV : Hid (Value.slice (some ⟨w1.heap.size, 0, none⟩) 0 (c m) = v0) := hV
  clear hV hown hgrow hb1 hs1 hb2
  refine ⟨trivial, ?_⟩
  refine (callsIn_wide.2 (all_any p sz m _ (HP.out.keep hbW))).mono ?_
  rintro e w3 ⟨b, rfl, hbge, hrow3, hb3⟩
  have hg3 : W.grownBy w3 none := ⟨hb3.os, hb3.tape, hb3.output, hb3.size, fun k hk _ => hb3.block k hk⟩
  have bO3 : Boxed w3 Bx 29 v0 := bO.kept hg3 (by simp)
  have hown3 : w3.ownsRow w.heap.size 3 1 v0 0 [] := hownW.kept hg3 (.inr (by rw [← HV.out]; simp [Value.ownBlock]))
  have hbW3 : Below w.heap.size w w3 := hbW.trans (hb3.mono hbW.size)
  have hsz3 := hbW3.size
  have hT3 : Tab w3 := HT.out.below hbW3 hw0
  have hBx3 := bO3.lt
  have hstop := all_stops (n - 1) b w.heap.size sz m w3 hrow3 hT3 hw0 (by omega)
  clear hbW bO hownW hb3 hg3 hrow3 hT3 hbge
  gi_wp2
  refine wpIn_rangeFunc_ownG rfl h1 (gf := 38) (lb := #[.pointer (some ⟨b, 0, none⟩)]) rfl trivial (enters_of Tryd.func38 (by kernel_rfl) rfl)
    hstop belowK_t (belowK_b hsz3) (Below.refl _ _) (fun _ => rfl)
    (fun pre W => (∃ v, Boxed W Bx 29 v ∧ W.ownsRow w.heap.size 3 1 v pre.length (pre.map (Value.int .i64)) ∧ True) ∧ Below w.heap.size w W)
    (fun _ _ _ => False)
    (OwnFrom.and (Own.from (holdsRow_own w.heap.size Bx 29 3 1 (fun pre : List Int => pre.length) (fun pre : List Int => pre.map (Value.int .i64)) (fun _ _ => True)) _) (ownFrom_below (Nat.le_refl _) hsz3))
    (fun _ _ _ _ _ hs _ _ => hs)
    ⟨⟨_, bO3, hown3, trivial⟩, hbW3⟩
    (fun x => { tmps := #[.pointer p, undef, .slice none 0 0, .pointer (some ⟨Bx, 0, none⟩), .int .i64 x, .pointer p, .int .i64 (c m), v0, .pointer p, .func (.func 38) #[] #[.pointer (some ⟨b, 0, none⟩)], .int .i64 x, undef, undef, undef, undef, undef], defers := [] }) ?assign ?body ?done ?stop
  case assign =>
    intro l x W K hK
    gi_wp2
    exact hK
  case body =>
    rintro l pre x W ⟨⟨v, hv, hrow, _⟩, hB⟩ hlt
    have hc := hv.cell
    have hBs := hB.size
    gi_wp2_with (gi_at_builtin; refine wpListIn_append_own _ rfl _ _ 29 rfl w.heap.size 3 i0 (.int .i64 0) 1 8 Tryd.underlying29 hi hz0 hz1 hz2 rfl (by decide) _ _ _ rfl (hrow.alloc _) ⟨W.heap.size, 0, none⟩ 1 1 [.int .i64 x] rfl rfl (cell_one_new _ _ _) (by simp [Value.oneCell']) (by unfold maxLen; omega) (by omega) (by simp; omega) ?_; intro v' w1 hown' hgrow _; obtain ⟨g', cap', rfl⟩ := ownsRow_succ hown'; obtain ⟨hv1, hv2, hr2, hk2, hb2⟩ := hv.appended (by decide) hrow hB.size (by omega) hown' hgrow; have hc1 := hv1.cell; have hf1 := hv1.frozen)
    exact ⟨hk2.from _, hb2, ⟨_, hv2, by simpa using hr2, trivial⟩, hB.trans hb2⟩
  case done =>
    rintro D ys W hD rfl ⟨⟨v, hv, hrow, _⟩, hB⟩ hK
    have hc := hv.cell
    gi_wp2
    refine ⟨by simp, .inl ⟨_, _, rfl, run_takeDeferred hK, ?_⟩⟩
    exact ⟨_, results_tmp rfl _ _ _, v, rfl, ownsRow_putObj hrow _ hK rfl, hB.trans (belowK_b (w := w) (Nat.le_refl _) W D _ _ (by omega) hK rfl rfl)⟩
  case stop =>
    rintro D c pre W _ _ h _
    exact h.elim

end Go.Proofs.YtkmocjdjdlpphaaDoor
