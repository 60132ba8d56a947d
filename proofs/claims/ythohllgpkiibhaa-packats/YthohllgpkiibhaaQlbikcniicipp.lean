import Derived.Test.YthohllgpkiibhaaQdifnhipcnpap
import Derived.ProofKit
import Derived.OpenShut
import Derived.Deep.Slices
import Derived.SizedLaws
import Derived.Laws.StructEq
import Derived.Deep.RegionWith

/-
  pack: numbers, laid rows and packed tables among the arguments.
-/
namespace Go.Proofs.Ythohllgpkiibhaa.J
open Go.ChangeShapes Go.WideShapes Go.ChangeAt Go.RowKit Go.Deep

theorem own : ownKnob Try.prog.godebug = none := by kernel_rfl
theorem laidOut : laidOutB Try.prog = true := by kernel_rfl
theorem cellsIntP : Try.prog.cellsOf 3 = 1 := by kernel_rfl
theorem cellsIntsP : Try.prog.cellsOf 24 = 1 := by kernel_rfl
theorem cellsRows : Try.prog.cellsOf 26 = 3 := by kernel_rfl
theorem bytesIntP : Try.prog.bytesOf 3 = 8 := by kernel_rfl
/-- A number of a word. -/
def I64P (x : Int) : Prop := -9223372036854775808 ≤ x ∧ x ≤ 9223372036854775807
theorem int_boundsP {n : Int} (h : (Lit.int .i64 n).wf = true) : I64P n := by
  show -9223372036854775808 ≤ n ∧ n ≤ 9223372036854775807
  simp only [Lit.wf, Bool.and_eq_true, decide_eq_true_eq] at h
  exact h
theorem ints_of_openP {W : World} {x : Addr} {len cap : Nat} {zs : List Int} (hl : len ≤ cap) (hz : zs.length = cap) (hc : ∀ i, i < zs.length → W.cell? (x.add i) = some (.int .i64 (zs.getD i 0))) :
    IntsAt W (some x) (zs.take len) := by
  by_cases h0 : len = 0
  · subst h0; exact .inl (by simp)
  · obtain ⟨b, off, spot⟩ := x
    have h1 := hc 0 (by omega)
    have hs : spot = none := by simpa [Addr.add] using World.cell?_spot h1
    subst hs
    refine .inr ⟨b, off, rfl, fun i hi => ?_⟩
    have hi' : i < len := by simp at hi; omega
    have h2 := hc i (by omega)
    rw [Addr.add_mid] at h2
    rw [h2]
    congr 2
    simp [List.getD, hi']
section
variable {H : Type} {enc : TypeId × Value → H} {W : World} {fuel : Nat} {cs : List Value} {x : DataW H × List MemPlace}
/-- A row of numbers that came in. -/
def OpInts (W : World) (a : Option Addr) (l : List Int) (c : Nat) : Prop := IntsAt W a l ∧ l.length ≤ 17592186044416 ∧ l.length ≤ c ∧ (a = none → l.length = 0 ∧ c = 0) ∧ ∀ z ∈ l, I64P z
theorem open_intsP (h : DataW.trod enc Try.prog W 0 (fun _ => true) true fuel 24 cs = some x) (hw : ∀ n ∈ x.1.weights Try.prog 24, n ≤ reachBytes) :
    ∃ (a : Option Addr) (l : List Int) (c : Nat), cs = [.slice a l.length c] ∧ OpInts W a l c := by
  rcases open_ints Try.underlying24 Try.underlying3 cellsIntP h with ⟨hcs, _⟩ | ⟨y, l, c, zs, hcs, _, hl, hm, hz, hx, hcell, hwz⟩
  · exact ⟨none, [], 0, hcs, .inl rfl, by decide, Nat.le_refl _, fun _ => ⟨rfl, rfl⟩, by simp⟩
  · have hz' : zs.length = c := by simpa using hz
    have hlen : (zs.take l).length = l := by rw [List.length_take]; omega
    refine ⟨some y, zs.take l, c, by rw [hlen]; exact hcs, ints_of_openP hl hz' hcell, ?_, by rw [hlen]; exact hl, (fun h => by cases h), fun z hz => int_boundsP (hwz z (List.mem_of_mem_take hz))⟩
    have := hw ((lits (H := H) .i64 (zs.take l)).length * 8 + (lits (H := H) .i64 (zs.drop l)).length * 8) (by rw [hx]; simp [DataW.weights, Try.underlying24, bytesIntP, Nat.add_mul])
    simp only [lits, List.length_map, List.length_take, List.length_drop, reachBytes] at this
    rw [hlen]
    omega

set_option maxRecDepth 100000 in
theorem open_rowsIn {y : DataW H × List MemPlace} {l : List Value} (hf : DataW.trod enc Try.prog W 0 (fun _ => true) true fuel 26 l = some y) (hw : ∀ n ∈ y.1.weights Try.prog 26, n ≤ reachBytes) (hl : l.length = 3) :
    ∃ ba va oa bc vc oc bs vs os, l = [.slice ba (List.length bs) bc, .slice va (List.length vs) vc, .slice oa (List.length os) oc] ∧ OpInts W ba bs bc ∧ OpInts W va vs vc ∧ OpInts W oa os oc := by
  obtain ⟨xs, k, hk, hxy, hcl, hxl, hfs⟩ := DataW.trod_struct Try.underlying26 hf
  match xs, hxl, l, hl with
  | [y0, y1, y2], _, [v0, v1, v2], _ =>
    have g0 := hfs 0 _ rfl
    have g1 := hfs 1 _ rfl
    have g2 := hfs 2 _ rfl
    simp [cellsIntsP] at g0 g1 g2
    rw [hxy] at hw
    have hwj : ∀ (j : Nat) (t : TypeId) (y : DataW H × List MemPlace), ((Try.prog.fieldsOf 26).toList.map (·.type))[j]? = some t → ([y0, y1, y2].map (·.1))[j]? = some y.1 → ∀ n ∈ y.1.weights Try.prog t, n ≤ reachBytes := fun j t y h1 h2 q hq => hw q (by
      simp only [DataW.weights, Try.underlying26]
      simp only [Program.fieldsOf, Try.underlying26] at h1
      exact DataW.weights_mem_each (j := j) (t := t) (d := y.1) h1 h2 q hq)
    have hw0 := hwj 0 24 y0 (by kernel_rfl) rfl
    have hw1 := hwj 1 24 y1 (by kernel_rfl) rfl
    have hw2 := hwj 2 24 y2 (by kernel_rfl) rfl
    obtain ⟨ba, bs, bc, e0, h0⟩ := open_intsP g0 hw0
    obtain ⟨va, vs, vc, e1, h1⟩ := open_intsP g1 hw1
    obtain ⟨oa, os, oc, e2, h2⟩ := open_intsP g2 hw2
    simp only [List.cons.injEq, and_true] at e0 e1 e2
    subst e0 e1 e2
    exact ⟨ba, va, oa, bc, vc, oc, bs, vs, os, rfl, h0, h1, h2⟩
theorem open_rowsP {base : Nat} {v : Value} {d : DataW H} {p : List MemPlace} (hv : Value.okWide Try.prog W .any base 26 v) (h : DataW.Trod enc Try.prog W 0 (fun _ => true) true 26 v d p) (hw : ∀ n ∈ d.weights Try.prog 26, n ≤ reachBytes) :
    ∃ ba va oa bc vc oc bs vs os, v = .agg #[.slice ba (List.length bs) bc, .slice va (List.length vs) vc, .slice oa (List.length os) oc] ∧ OpInts W ba bs bc ∧ OpInts W va vs vc ∧ OpInts W oa os oc := by
  obtain ⟨cs, rfl, hsz⟩ := okWide_struct Try.underlying26 hv
  obtain ⟨fuel, hf⟩ := h
  rw [cellsRows] at hsz
  obtain ⟨l, rfl⟩ : ∃ l : List Value, cs = l.toArray := ⟨cs.toList, by simp⟩
  simp only [Value.cells] at hf
  have hl : l.length = 3 := by simpa using hsz
  obtain ⟨ba, va, oa, bc, vc, oc, bs, vs, os, rfl, h0, h1, h2⟩ := open_rowsIn hf hw hl
  exact ⟨ba, va, oa, bc, vc, oc, bs, vs, os, rfl, h0, h1, h2⟩

end
theorem open_intP {H : Type} {enc : TypeId × Value → H} {W : World} {base : Nat} {v : Value} {d : DataW H} {p : List MemPlace} (hv : Value.okWide Try.prog W .any base 3 v) (h : DataW.Trod enc Try.prog W 0 (fun _ => true) true 3 v d p) : ∃ z, v = .int .i64 z ∧ I64P z := by
  obtain ⟨z, rfl⟩ := okWide_int Try.underlying3 hv
  obtain ⟨fuel, hf⟩ := h
  have hf' : DataW.trod enc Try.prog W 0 (fun _ => true) true fuel 3 [.int .i64 z] = some (d, p) := hf
  obtain ⟨z', e, h2⟩ := DataW.trod_int Try.underlying3 hf'
  simp only [List.cons.injEq, Value.int.injEq, and_true, true_and] at e
  subst e
  exact ⟨z, rfl, int_boundsP h2.2⟩

end Go.Proofs.Ythohllgpkiibhaa.J

/-
  pack: the laws on At and on Action and Goto, given what awake tells.
-/
namespace Go.Proofs.Ythohllgpkiibhaa.J
open Go.RowKit Go.Maps Go.Shelf Pk

attribute [local go_sem] Oper.semAt_some

/-- What awake tells. -/
def AwOk : Prop := ∀ W, Calls Try.prog 15 #[] W fun e y => e = .returned (.bool true) ∧ W.grownBy y none

set_option maxRecDepth 100000 in
set_option maxHeartbeats 2000000 in
theorem ats_core (HAW : AwOk) (ba va oa : Option Addr) (bc vc oc : Nat) (bs vs os : List Int) (row place : Int) (w : World) (hb : OpInts w ba bs bc) (hv : OpInts w va vs vc) (ho : OpInts w oa os oc) :
    Calls Try.prog 4 #[.agg #[.slice ba bs.length bc, .slice va vs.length vc, .slice oa os.length oc], .int .i64 row, .int .i64 place] w fun e y => e = .returned (.bool true) ∧ w.grownBy y none := by
  have HA1 : Hid (∀ X, w.grownBy X none → Calls Try.prog 16 #[.agg #[.slice ba bs.length bc, .slice va vs.length vc, .slice oa os.length oc], .int .i64 row, .int .i64 place] X fun e y => e = .returned (.tuple #[.int .i64 (atF bs vs os row place).1, .bool (atF bs vs os row place).2]) ∧ X.grownBy y none) := fun X hX => pkAt_any ba va oa bc vc oc bs vs os row place X (hb.1.kept hX) (hv.1.kept hX) (ho.1.kept hX) hb.2.2.2.2 hv.2.1 ho.2.1
  have HA2 : Hid (∀ X, w.grownBy X none → Calls Try.prog 17 #[.agg #[.slice ba bs.length bc, .slice va vs.length vc, .slice oa os.length oc], .int .i64 row, .int .i64 place] X fun e y => e = .returned (.tuple #[.int .i64 (atF bs vs os row place).1, .bool (atF bs vs os row place).2]) ∧ X.grownBy y none) := fun X hX => rpAt_any ba va oa bc vc oc bs vs os row place X (hb.1.kept hX) (hv.1.kept hX) (ho.1.kept hX) hv.2.1 ho.2.1
  have HAW := show Hid _ from HAW
  obtain ⟨s0, hs0⟩ : ∃ v, v = Value.slice ba bs.length bc := ⟨_, rfl⟩
  obtain ⟨s1, hs1⟩ : ∃ v, v = Value.slice va vs.length vc := ⟨_, rfl⟩
  obtain ⟨s2, hs2⟩ : ∃ v, v = Value.slice oa os.length oc := ⟨_, rfl⟩
  obtain ⟨r1, hr1⟩ : ∃ v, v = (atF bs vs os row place).1 := ⟨_, rfl⟩
  obtain ⟨r2, hr2⟩ : ∃ v, v = (atF bs vs os row place).2 := ⟨_, rfl⟩
  rw [← hs0, ← hs1, ← hs2, ← hr1, ← hr2] at HA1 HA2
  rw [← hs0, ← hs1, ← hs2]
  clear hb hv ho hs0 hs1 hs2 hr1 hr2
  have HG0 : Hid (w.grownBy (w.alloc (.cells #[s0, s1, s2] 26)) none) := World.grownBy_alloc _ _ none
  have HB0 : Hid ((w.alloc (.cells #[s0, s1, s2] 26)).heap[w.heap.size]? = some (.cells #[s0, s1, s2] 26 (0, 0))) := heap_alloc_last w _
  go_enter Try.func4, Try.ntmps4
  go_wp2_with fail
  refine Calls.mono (HA1.out _ HG0.out) ?_
  rintro e y ⟨rfl, hy⟩
  have HY : Hid (w.grownBy y none) := grown_trans HG0.out hy
  have b := box_kept HB0.out hy
  have q0 : y.cell? ⟨w.heap.size, 0, none⟩ = some s0 := by rw [cell_of_row _ _ _ _ _ _ b]; rfl
  have q1 : y.cell? ⟨w.heap.size, 1, none⟩ = some s1 := by rw [cell_of_row _ _ _ _ _ _ b]; rfl
  have q2 : y.cell? ⟨w.heap.size, 2, none⟩ = some s2 := by rw [cell_of_row _ _ _ _ _ _ b]; rfl
  clear b hy HA1 HG0 HB0
  go_wp2_with fail
  refine Calls.mono (HA2.out _ HY.out) ?_
  rintro e z ⟨rfl, hz⟩
  have HZ : Hid (w.grownBy z none) := grown_trans HY.out hz
  clear hz q0 q1 q2 HA2
  have e1 : (r1 == r1) = true := beq_self_eq_true _
  have e2 : (r2 == r2) = true := beq_self_eq_true _
  go_wp2_with fail
  refine Calls.mono (HAW.out _) ?_
  rintro e u ⟨rfl, hu⟩
  have HU : Hid (w.grownBy u none) := grown_trans HZ.out hu
  clear hu
  go_wp2_with fail
  go_ret
  exact ⟨rfl, HU.out⟩

end Go.Proofs.Ythohllgpkiibhaa.J

/-
  pack: the law on Action and Goto, given what awake tells.
-/
namespace Go.Proofs.Ythohllgpkiibhaa.J
open Go.RowKit Go.Maps Go.Shelf Pk

attribute [local go_sem] Oper.semAt_some

end Go.Proofs.Ythohllgpkiibhaa.J
