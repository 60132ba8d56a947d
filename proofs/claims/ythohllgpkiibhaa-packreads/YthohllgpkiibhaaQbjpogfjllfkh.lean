import Derived.Test.YthohllgpkiibhaaQfgdaaebkjjdl
import Derived.ProofKit
import Derived.OpenShut
import Derived.Deep.Slices
import Derived.SizedLaws
import Derived.Test.YthohllgpkiibhaaQlgaffddfiibh
import Derived.Laws.StructEq
import Derived.Deep.RegionWith

/-
  pack: numbers, laid rows and packed tables among the arguments.
-/
namespace Go.Proofs.Ythohllgpkiibhaa.J
open Go.ChangeShapes Go.WideShapes Go.ChangeAt Go.RowKit Go.Deep

theorem own : ownKnob Try.prog.godebug = none := by kernel_rfl
theorem laidOut : laidOutB Try.prog = true := by kernel_rfl
theorem cellsIntP : Try.prog.cellsOf 3 = 1 := by kernel_rfl
theorem cellsIntsP : Try.prog.cellsOf 24 = 1 := by kernel_rfl
theorem cellsRows : Try.prog.cellsOf 26 = 3 := by kernel_rfl
theorem cellsPacked : Try.prog.cellsOf 45 = 8 := by kernel_rfl
theorem bytesIntP : Try.prog.bytesOf 3 = 8 := by kernel_rfl
/-- A number of a word. -/
def I64P (x : Int) : Prop := -9223372036854775808 ≤ x ∧ x ≤ 9223372036854775807
theorem int_boundsP {n : Int} (h : (Lit.int .i64 n).wf = true) : I64P n := by
  show -9223372036854775808 ≤ n ∧ n ≤ 9223372036854775807
  simp only [Lit.wf, Bool.and_eq_true, decide_eq_true_eq] at h
  exact h
theorem ints_of_openP {W : World} {x : Addr} {len cap : Nat} {zs : List Int} (hl : len ≤ cap) (hz : zs.length = cap) (hc : ∀ i, i < zs.length → W.cell? (x.add i) = some (.int .i64 (zs.getD i 0))) :
    IntsAt W (some x) (zs.take len) := by
  by_cases h0 : len = 0
  · subst h0; exact .inl (by simp)
  · obtain ⟨b, off, spot⟩ := x
    have h1 := hc 0 (by omega)
    have hs : spot = none := by simpa [Addr.add] using World.cell?_spot h1
    subst hs
    refine .inr ⟨b, off, rfl, fun i hi => ?_⟩
    have hi' : i < len := by simp at hi; omega
    have h2 := hc i (by omega)
    rw [Addr.add_mid] at h2
    rw [h2]
    congr 2
    simp [List.getD, hi']
section
variable {H : Type} {enc : TypeId × Value → H} {W : World} {fuel : Nat} {cs : List Value} {x : DataW H × List MemPlace}
/-- A row of numbers that came in. -/
def OpInts (W : World) (a : Option Addr) (l : List Int) (c : Nat) : Prop := IntsAt W a l ∧ l.length ≤ 17592186044416 ∧ l.length ≤ c ∧ (a = none → l.length = 0 ∧ c = 0) ∧ ∀ z ∈ l, I64P z
theorem open_intsP (h : DataW.trod enc Try.prog W 0 (fun _ => true) true fuel 24 cs = some x) (hw : ∀ n ∈ x.1.weights Try.prog 24, n ≤ reachBytes) :
    ∃ (a : Option Addr) (l : List Int) (c : Nat), cs = [.slice a l.length c] ∧ OpInts W a l c := by
  rcases open_ints Try.underlying24 Try.underlying3 cellsIntP h with ⟨hcs, _⟩ | ⟨y, l, c, zs, hcs, _, hl, hm, hz, hx, hcell, hwz⟩
  · exact ⟨none, [], 0, hcs, .inl rfl, by decide, Nat.le_refl _, fun _ => ⟨rfl, rfl⟩, by simp⟩
  · have hz' : zs.length = c := by simpa using hz
    have hlen : (zs.take l).length = l := by rw [List.length_take]; omega
    refine ⟨some y, zs.take l, c, by rw [hlen]; exact hcs, ints_of_openP hl hz' hcell, ?_, by rw [hlen]; exact hl, (fun h => by cases h), fun z hz => int_boundsP (hwz z (List.mem_of_mem_take hz))⟩
    have := hw ((lits (H := H) .i64 (zs.take l)).length * 8 + (lits (H := H) .i64 (zs.drop l)).length * 8) (by rw [hx]; simp [DataW.weights, Try.underlying24, bytesIntP, Nat.add_mul])
    simp only [lits, List.length_map, List.length_take, List.length_drop, reachBytes] at this
    rw [hlen]
    omega

set_option maxRecDepth 100000 in
theorem open_rowsIn {y : DataW H × List MemPlace} {l : List Value} (hf : DataW.trod enc Try.prog W 0 (fun _ => true) true fuel 26 l = some y) (hw : ∀ n ∈ y.1.weights Try.prog 26, n ≤ reachBytes) (hl : l.length = 3) :
    ∃ ba va oa bc vc oc bs vs os, l = [.slice ba (List.length bs) bc, .slice va (List.length vs) vc, .slice oa (List.length os) oc] ∧ OpInts W ba bs bc ∧ OpInts W va vs vc ∧ OpInts W oa os oc := by
  obtain ⟨xs, k, hk, hxy, hcl, hxl, hfs⟩ := DataW.trod_struct Try.underlying26 hf
  match xs, hxl, l, hl with
  | [y0, y1, y2], _, [v0, v1, v2], _ =>
    have g0 := hfs 0 _ rfl
    have g1 := hfs 1 _ rfl
    have g2 := hfs 2 _ rfl
    simp [cellsIntsP] at g0 g1 g2
    rw [hxy] at hw
    have hwj : ∀ (j : Nat) (t : TypeId) (y : DataW H × List MemPlace), ((Try.prog.fieldsOf 26).toList.map (·.type))[j]? = some t → ([y0, y1, y2].map (·.1))[j]? = some y.1 → ∀ n ∈ y.1.weights Try.prog t, n ≤ reachBytes := fun j t y h1 h2 q hq => hw q (by
      simp only [DataW.weights, Try.underlying26]
      simp only [Program.fieldsOf, Try.underlying26] at h1
      exact DataW.weights_mem_each (j := j) (t := t) (d := y.1) h1 h2 q hq)
    have hw0 := hwj 0 24 y0 (by kernel_rfl) rfl
    have hw1 := hwj 1 24 y1 (by kernel_rfl) rfl
    have hw2 := hwj 2 24 y2 (by kernel_rfl) rfl
    obtain ⟨ba, bs, bc, e0, h0⟩ := open_intsP g0 hw0
    obtain ⟨va, vs, vc, e1, h1⟩ := open_intsP g1 hw1
    obtain ⟨oa, os, oc, e2, h2⟩ := open_intsP g2 hw2
    simp only [List.cons.injEq, and_true] at e0 e1 e2
    subst e0 e1 e2
    exact ⟨ba, va, oa, bc, vc, oc, bs, vs, os, rfl, h0, h1, h2⟩
set_option maxRecDepth 100000 in
theorem open_packedP {base : Nat} {v : Value} {d : DataW H} {p : List MemPlace} (hv : Value.okWide Try.prog W .any base 45 v) (h : DataW.Trod enc Try.prog W 0 (fun _ => true) true 45 v d p) (hw : ∀ n ∈ d.weights Try.prog 45, n ≤ reachBytes) :
    ∃ da dc ds ba va oa bc vc oc bs vs os ta tc ts gb gv go gbc gvc goc gbs gvs gos, v = .agg #[.slice da (List.length ds) dc, .slice ba (List.length bs) bc, .slice va (List.length vs) vc, .slice oa (List.length os) oc, .slice ta (List.length ts) tc, .slice gb (List.length gbs) gbc, .slice gv (List.length gvs) gvc, .slice go (List.length gos) goc] ∧ OpInts W da ds dc ∧ (OpInts W ba bs bc ∧ OpInts W va vs vc ∧ OpInts W oa os oc) ∧ OpInts W ta ts tc ∧ OpInts W gb gbs gbc ∧ OpInts W gv gvs gvc ∧ OpInts W go gos goc := by
  obtain ⟨cs, rfl, hsz⟩ := okWide_struct Try.underlying45 hv
  obtain ⟨fuel, hf⟩ := h
  obtain ⟨xs, k, hk, hxy, hcl, hxl, hfs⟩ := DataW.trod_struct Try.underlying45 hf
  rw [cellsPacked] at hsz
  obtain ⟨l, rfl⟩ : ∃ l : List Value, cs = l.toArray := ⟨cs.toList, by simp⟩
  simp only [Value.cells] at hfs hcl
  have hl : l.length = 8 := by simpa using hsz
  match xs, hxl, l, hl with
  | [y0, y1, y2, y3], _, [v0, v1, v2, v3, v4, v5, v6, v7], _ =>
    have g0 := hfs 0 _ rfl
    have g1 := hfs 1 _ rfl
    have g2 := hfs 2 _ rfl
    have g3 := hfs 3 _ rfl
    simp [cellsIntsP, cellsRows] at g0 g1 g2 g3
    simp only [Prod.mk.injEq] at hxy
    have hwj : ∀ (j : Nat) (t : TypeId) (y : DataW H × List MemPlace), ((Try.prog.fieldsOf 45).toList.map (·.type))[j]? = some t → ([y0, y1, y2, y3].map (·.1))[j]? = some y.1 → ∀ n ∈ y.1.weights Try.prog t, n ≤ reachBytes := fun j t y h1 h2 q hq => hw q (by
      rw [hxy.1]
      simp only [DataW.weights, Try.underlying45]
      simp only [Program.fieldsOf, Try.underlying45] at h1
      exact DataW.weights_mem_each (j := j) (t := t) (d := y.1) h1 h2 q hq)
    have hw0 := hwj 0 24 y0 (by kernel_rfl) rfl
    have hw1 := hwj 1 26 y1 (by kernel_rfl) rfl
    have hw2 := hwj 2 24 y2 (by kernel_rfl) rfl
    have hw3 := hwj 3 26 y3 (by kernel_rfl) rfl
    obtain ⟨da, ds, dc, e0, h0⟩ := open_intsP g0 hw0
    obtain ⟨ba, va, oa, bc, vc, oc, bs, vs, os, e1, h1⟩ := open_rowsIn g1 hw1 rfl
    obtain ⟨ta, ts, tc, e2, h2⟩ := open_intsP g2 hw2
    obtain ⟨gb, gv, go, gbc, gvc, goc, gbs, gvs, gos, e3, h3⟩ := open_rowsIn g3 hw3 rfl
    simp only [List.cons.injEq, and_true] at e0 e1 e2 e3
    obtain ⟨rfl, rfl, rfl⟩ := e1
    obtain ⟨rfl, rfl, rfl⟩ := e3
    subst e0 e2
    exact ⟨da, dc, ds, ba, va, oa, bc, vc, oc, bs, vs, os, ta, tc, ts, gb, gv, go, gbc, gvc, goc, gbs, gvs, gos, rfl, h0, h1, h2, h3⟩
end
theorem open_intP {H : Type} {enc : TypeId × Value → H} {W : World} {base : Nat} {v : Value} {d : DataW H} {p : List MemPlace} (hv : Value.okWide Try.prog W .any base 3 v) (h : DataW.Trod enc Try.prog W 0 (fun _ => true) true 3 v d p) : ∃ z, v = .int .i64 z ∧ I64P z := by
  obtain ⟨z, rfl⟩ := okWide_int Try.underlying3 hv
  obtain ⟨fuel, hf⟩ := h
  have hf' : DataW.trod enc Try.prog W 0 (fun _ => true) true fuel 3 [.int .i64 z] = some (d, p) := hf
  obtain ⟨z', e, h2⟩ := DataW.trod_int Try.underlying3 hf'
  simp only [List.cons.injEq, Value.int.injEq, and_true, true_and] at e
  subst e
  exact ⟨z, rfl, int_boundsP h2.2⟩

end Go.Proofs.Ythohllgpkiibhaa.J

/-
  pack: the laws on At and on Action and Goto, given what awake tells.
-/
namespace Go.Proofs.Ythohllgpkiibhaa.J
open Go.RowKit Go.Maps Go.Shelf Pk

attribute [local go_sem] Oper.semAt_some

/-- What awake tells. -/
def AwOk : Prop := ∀ W, Calls Try.prog 15 #[] W fun e y => e = .returned (.bool true) ∧ W.grownBy y none

end Go.Proofs.Ythohllgpkiibhaa.J

/-
  pack: the law on Action and Goto, given what awake tells.
-/
namespace Go.Proofs.Ythohllgpkiibhaa.J
open Go.RowKit Go.Maps Go.Shelf Pk

attribute [local go_sem] Oper.semAt_some

theorem hidQ {p : Prop} (h : p) : Hid p := h
theorem eq_action (p d p' d' : Int) (w : World) : (binOp .eql 52 (.agg #[.int .i64 p, .int .i64 d]) (.agg #[.int .i64 p', .int .i64 d'])).run Try.prog w = .ok (.bool (p == p' && d == d')) w := by
  have u3 := Try.underlying3
  have a3 := Try.isAgg3
  have z3 := Try.sizeOf3
  have hS : Try.prog.underlying 52 = some (.struct (Try.prog.fieldsOf 52)) := by kernel_rfl
  have hp : Try.prog.stoodInHeld 52 = false := by kernel_rfl
  rw [run_eql_struct, show (10000 : Nat) = 9999 + 1 from rfl, run_equalIn_agg w 9999 52 _ _ hS hp]
  simp only [Program.fieldsOf, Try.underlying52]
  go_simp
  by_cases h1 : p = p' <;> by_cases h2 : d = d' <;> simp [h1, h2]
theorem guard_action : Try.prog.eqGuardType Try.prog.depth 52 = false := by kernel_rfl
theorem cells8 {X : World} {b : Nat} {s0 s1 s2 s3 s4 s5 s6 s7 : Value} {t : TypeId} (h : X.heap[b]? = some (.cells #[s0, s1, s2, s3, s4, s5, s6, s7] t (0, 0))) :
    X.cell? ⟨b, 0, none⟩ = some s0 ∧ X.cell? ⟨b, 1, none⟩ = some s1 ∧ X.cell? ⟨b, 2, none⟩ = some s2 ∧ X.cell? ⟨b, 3, none⟩ = some s3 ∧ X.cell? ⟨b, 4, none⟩ = some s4 ∧ X.cell? ⟨b, 5, none⟩ = some s5 ∧ X.cell? ⟨b, 6, none⟩ = some s6 ∧ X.cell? ⟨b, 7, none⟩ = some s7 := by
  refine ⟨?_, ?_, ?_, ?_, ?_, ?_, ?_, ?_⟩ <;> (rw [cell_of_row _ _ _ _ _ _ h]; rfl)
theorem cells2 {X : World} {b : Nat} {s0 s1 : Value} {t : TypeId} (h : X.heap[b]? = some (.cells #[s0, s1] t (0, 0))) : X.cell? ⟨b, 0, none⟩ = some s0 ∧ X.cell? ⟨b, 1, none⟩ = some s1 := by
  refine ⟨?_, ?_⟩ <;> (rw [cell_of_row _ _ _ _ _ _ h]; rfl)

set_option maxRecDepth 100000 in
set_option maxHeartbeats 4000000 in
theorem reads_core (HAW : AwOk) (da ba va oa ta gb gv go : Option Addr) (dc bc vc oc tc gbc gvc goc : Nat) (ds bs vs os ts gbs gvs gos : List Int) (state sym : Int) (w : World) (hd : OpInts w da ds dc) (hr1 : OpInts w ba bs bc ∧ OpInts w va vs vc ∧ OpInts w oa os oc) (ht : OpInts w ta ts tc) (hr2 : OpInts w gb gbs gbc ∧ OpInts w gv gvs gvc ∧ OpInts w go gos goc) :
    Calls Try.prog 6 #[.agg #[.slice da ds.length dc, .slice ba bs.length bc, .slice va vs.length vc, .slice oa os.length oc, .slice ta ts.length tc, .slice gb gbs.length gbc, .slice gv gvs.length gvc, .slice go gos.length goc], .int .i64 state, .int .i64 sym] w fun e y => e = .returned (.bool true) ∧ w.grownBy y none := by
  obtain ⟨hb, hv, ho⟩ := hr1
  obtain ⟨hgb, hgv, hgo⟩ := hr2
  have HA1 : Hid (∀ X, w.grownBy X none → Calls Try.prog 23 #[.agg #[.slice da ds.length dc, .slice ba bs.length bc, .slice va vs.length vc, .slice oa os.length oc, .slice ta ts.length tc, .slice gb gbs.length gbc, .slice gv gvs.length gvc, .slice go gos.length goc], .int .i64 state, .int .i64 sym] X fun e y => e = .returned (.agg #[.int .i64 (actF ds bs vs os state sym).1, .int .i64 (actF ds bs vs os state sym).2]) ∧ X.grownBy y none) := fun X hX => pkAction_any da ba va oa ta gb gv go dc bc vc oc tc gbc gvc goc ds bs vs os ts gbs gvs gos X state sym (hd.1.kept hX) (hb.1.kept hX) (hv.1.kept hX) (ho.1.kept hX) hv.2.1 ho.2.1 hv.2.2.2.2 hb.2.2.2.2
  have HA2 : Hid (∀ X, w.grownBy X none → Calls Try.prog 25 #[.agg #[.slice da ds.length dc, .slice ba bs.length bc, .slice va vs.length vc, .slice oa os.length oc, .slice ta ts.length tc, .slice gb gbs.length gbc, .slice gv gvs.length gvc, .slice go gos.length goc], .int .i64 state, .int .i64 sym] X fun e y => e = .returned (.agg #[.int .i64 (actF ds bs vs os state sym).1, .int .i64 (actF ds bs vs os state sym).2]) ∧ X.grownBy y none) := fun X hX => rpAction_any da ba va oa ta gb gv go dc bc vc oc tc gbc gvc goc ds bs vs os ts gbs gvs gos X state sym (hd.1.kept hX) (hb.1.kept hX) (hv.1.kept hX) (ho.1.kept hX) hv.2.1 ho.2.1 hv.2.2.2.2
  have HG1 : Hid (∀ X, w.grownBy X none → Calls Try.prog 24 #[.agg #[.slice da ds.length dc, .slice ba bs.length bc, .slice va vs.length vc, .slice oa os.length oc, .slice ta ts.length tc, .slice gb gbs.length gbc, .slice gv gvs.length gvc, .slice go gos.length goc], .int .i64 state, .int .i64 sym] X fun e y => e = .returned (.int .i64 (gotoF ts gbs gvs gos state sym)) ∧ X.grownBy y none) := fun X hX => pkGoto_any da ba va oa ta gb gv go dc bc vc oc tc gbc gvc goc ds bs vs os ts gbs gvs gos X state sym (ht.1.kept hX) (hgb.1.kept hX) (hgv.1.kept hX) (hgo.1.kept hX) hgv.2.1 hgo.2.1 hgb.2.2.2.2
  have HG2 : Hid (∀ X, w.grownBy X none → Calls Try.prog 26 #[.agg #[.slice da ds.length dc, .slice ba bs.length bc, .slice va vs.length vc, .slice oa os.length oc, .slice ta ts.length tc, .slice gb gbs.length gbc, .slice gv gvs.length gvc, .slice go gos.length goc], .int .i64 state, .int .i64 sym] X fun e y => e = .returned (.int .i64 (gotoF ts gbs gvs gos state sym)) ∧ X.grownBy y none) := fun X hX => rpGoto_any da ba va oa ta gb gv go dc bc vc oc tc gbc gvc goc ds bs vs os ts gbs gvs gos X state sym (ht.1.kept hX) (hgb.1.kept hX) (hgv.1.kept hX) (hgo.1.kept hX) hgv.2.1 hgo.2.1
  have HAW := show Hid _ from HAW
  obtain ⟨s0, hs0⟩ : ∃ v, v = Value.slice da ds.length dc := ⟨_, rfl⟩
  obtain ⟨s1, hs1⟩ : ∃ v, v = Value.slice ba bs.length bc := ⟨_, rfl⟩
  obtain ⟨s2, hs2⟩ : ∃ v, v = Value.slice va vs.length vc := ⟨_, rfl⟩
  obtain ⟨s3, hs3⟩ : ∃ v, v = Value.slice oa os.length oc := ⟨_, rfl⟩
  obtain ⟨s4, hs4⟩ : ∃ v, v = Value.slice ta ts.length tc := ⟨_, rfl⟩
  obtain ⟨s5, hs5⟩ : ∃ v, v = Value.slice gb gbs.length gbc := ⟨_, rfl⟩
  obtain ⟨s6, hs6⟩ : ∃ v, v = Value.slice gv gvs.length gvc := ⟨_, rfl⟩
  obtain ⟨s7, hs7⟩ : ∃ v, v = Value.slice go gos.length goc := ⟨_, rfl⟩
  obtain ⟨r1, hr1⟩ : ∃ v, v = (actF ds bs vs os state sym).1 := ⟨_, rfl⟩
  obtain ⟨r2, hr2⟩ : ∃ v, v = (actF ds bs vs os state sym).2 := ⟨_, rfl⟩
  obtain ⟨gt, hgt⟩ : ∃ v, v = gotoF ts gbs gvs gos state sym := ⟨_, rfl⟩
  rw [← hs0, ← hs1, ← hs2, ← hs3, ← hs4, ← hs5, ← hs6, ← hs7] at HA1 HA2 HG1 HG2
  rw [← hr1, ← hr2] at HA1 HA2
  rw [← hgt] at HG1 HG2
  rw [← hs0, ← hs1, ← hs2, ← hs3, ← hs4, ← hs5, ← hs6, ← hs7]
  clear hb hv ho hd ht hgb hgv hgo hs0 hs1 hs2 hs3 hs4 hs5 hs6 hs7 hr1 hr2 hgt
  obtain ⟨X0, hX0⟩ : ∃ X, X = w.alloc (.cells #[s0, s1, s2, s3, s4, s5, s6, s7] 45) := ⟨_, rfl⟩
  have HG0 : Hid (w.grownBy X0 none) := by show w.grownBy X0 none; rw [hX0]; exact World.grownBy_alloc _ _ none
  have HP : Hid (∀ X, X0.grownBy X none → X.heap[w.heap.size]? = some (.cells #[s0, s1, s2, s3, s4, s5, s6, s7] 45 (0, 0))) := fun X hX => box_kept (by rw [hX0]; exact heap_alloc_last w _) hX
  have hgu := guard_action
  have hE : ∀ X : World, (binOp .eql 52 (.agg #[.int .i64 r1, .int .i64 r2]) (.agg #[.int .i64 r1, .int .i64 r2])).run Try.prog X = .ok (.bool true) X := fun X => by rw [eq_action]; simp
  have e1 : (gt == gt) = true := beq_self_eq_true _
  go_enter Try.func6, Try.ntmps6
  go_wp2_with fail
  rw [← hX0]
  clear hX0
  refine Calls.mono (HA1.out _ HG0.out) ?_
  rintro e y ⟨rfl, hy⟩
  have HY : Hid (X0.grownBy (y.alloc (.cells #[.int .i64 r1, .int .i64 r2] 52)) none) := grown_trans hy (World.grownBy_alloc _ _ none)
  have HA : Hid (∀ X, (y.alloc (.cells #[.int .i64 r1, .int .i64 r2] 52)).grownBy X none → X.heap[y.heap.size]? = some (.cells #[.int .i64 r1, .int .i64 r2] 52 (0, 0))) := fun X hX => box_kept (heap_alloc_last y _) hX
  obtain ⟨q0, q1, q2, q3, q4, q5, q6, q7⟩ := cells8 (HP.out _ HY.out)
  clear hy
  go_wp2_with fail
  refine Calls.mono (HG1.out _ (grown_trans HG0.out HY.out)) ?_
  rintro e z ⟨rfl, hz⟩
  have HZ : Hid (X0.grownBy z none) := grown_trans HY.out hz
  clear q0 q1 q2 q3 q4 q5 q6 q7
  obtain ⟨q0, q1, q2, q3, q4, q5, q6, q7⟩ := cells8 (HP.out _ HZ.out)
  obtain ⟨p0, p1⟩ := cells2 (HA.out _ hz)
  have HAZ : Hid (∀ X, z.grownBy X none → X.heap[y.heap.size]? = some (.cells #[.int .i64 r1, .int .i64 r2] 52 (0, 0))) := fun X hX => HA.out X (grown_trans hz hX)
  clear hz HY HA
  obtain ⟨ab, hab⟩ : ∃ v, v = y.heap.size := ⟨_, rfl⟩
  rw [← hab] at p0 p1 HAZ ⊢
  clear hab
  go_wp2_with fail
  go_region_with (first
    | (go_at_call 25; refine (HA2.out _ ?_).mono ?_; exact grown_trans (grown_trans HG0.out HZ.out) (grown_drewN _ 1); rintro e z1 ⟨rfl, hz1⟩; have HZ1 := hidQ (grown_trans (grown_drewN z 1) hz1); obtain ⟨q10, q11, q12, q13, q14, q15, q16, q17⟩ := cells8 (HP.out _ (grown_trans HZ.out HZ1.out)); obtain ⟨p10, p11⟩ := cells2 (HAZ.out _ HZ1.out); clear hz1)
    | (go_at_call 26; refine (HG2.out _ ?_).mono ?_; exact grown_trans (grown_trans HG0.out HZ.out) HZ1.out; rintro e z2 ⟨rfl, hz2⟩; have HZ2 := hidQ hz2; clear hz2)
    | (go_at_call 15; refine (HAW.out _).mono ?_; rintro e z3 ⟨rfl, hz3⟩; have HZ3 := hidQ hz3; clear hz3))
  all_goals go_wp2_with fail
  all_goals go_ret
  all_goals exact ⟨rfl, grown_trans (grown_trans (grown_trans (grown_trans HG0.out HZ.out) HZ1.out) HZ2.out) HZ3.out⟩

end Go.Proofs.Ythohllgpkiibhaa.J
