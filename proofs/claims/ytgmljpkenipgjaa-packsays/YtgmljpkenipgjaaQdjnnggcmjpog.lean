import Derived.Test.YtgmljpkenipgjaaQgjimidgjjnjb
import Derived.ProofKit
import Derived.OpenShut
import Derived.Deep.Slices
import Derived.SizedLaws
import Derived.Laws.StructEq
import Derived.Deep.RegionWith

/-
  pack: numbers, laid rows and packed tables among the arguments.
-/
namespace Go.Proofs.Ytgmljpkenipgjaa.J
open Go.ChangeShapes Go.WideShapes Go.ChangeAt Go.RowKit Go.Deep

theorem own : ownKnob Try.prog.godebug = none := by kernel_rfl
theorem laidOut : laidOutB Try.prog = true := by kernel_rfl
theorem cellsIntP : Try.prog.cellsOf 3 = 1 := by kernel_rfl
theorem cellsIntsP : Try.prog.cellsOf 24 = 1 := by kernel_rfl
theorem bytesIntP : Try.prog.bytesOf 3 = 8 := by kernel_rfl
/-- A number of a word. -/
def I64P (x : Int) : Prop := -9223372036854775808 ≤ x ∧ x ≤ 9223372036854775807
theorem int_boundsP {n : Int} (h : (Lit.int .i64 n).wf = true) : I64P n := by
  show -9223372036854775808 ≤ n ∧ n ≤ 9223372036854775807
  simp only [Lit.wf, Bool.and_eq_true, decide_eq_true_eq] at h
  exact h
theorem ints_of_openP {W : World} {x : Addr} {len cap : Nat} {zs : List Int} (hl : len ≤ cap) (hz : zs.length = cap) (hc : ∀ i, i < zs.length → W.cell? (x.add i) = some (.int .i64 (zs.getD i 0))) :
    IntsAt W (some x) (zs.take len) := by
  by_cases h0 : len = 0
  · subst h0; exact .inl (by simp)
  · obtain ⟨b, off, spot⟩ := x
    have h1 := hc 0 (by omega)
    have hs : spot = none := by simpa [Addr.add] using World.cell?_spot h1
    subst hs
    refine .inr ⟨b, off, rfl, fun i hi => ?_⟩
    have hi' : i < len := by simp at hi; omega
    have h2 := hc i (by omega)
    rw [Addr.add_mid] at h2
    rw [h2]
    congr 2
    simp [List.getD, hi']
section
variable {H : Type} {enc : TypeId × Value → H} {W : World} {fuel : Nat} {cs : List Value} {x : DataW H × List MemPlace}
/-- A row of numbers that came in. -/
def OpInts (W : World) (a : Option Addr) (l : List Int) (c : Nat) : Prop := IntsAt W a l ∧ l.length ≤ 17592186044416 ∧ l.length ≤ c ∧ (a = none → l.length = 0 ∧ c = 0) ∧ ∀ z ∈ l, I64P z
theorem open_intsP (h : DataW.trod enc Try.prog W 0 (fun _ => true) true fuel 24 cs = some x) (hw : ∀ n ∈ x.1.weights Try.prog 24, n ≤ reachBytes) :
    ∃ (a : Option Addr) (l : List Int) (c : Nat), cs = [.slice a l.length c] ∧ OpInts W a l c := by
  rcases open_ints Try.underlying24 Try.underlying3 cellsIntP h with ⟨hcs, _⟩ | ⟨y, l, c, zs, hcs, _, hl, hm, hz, hx, hcell, hwz⟩
  · exact ⟨none, [], 0, hcs, .inl rfl, by decide, Nat.le_refl _, fun _ => ⟨rfl, rfl⟩, by simp⟩
  · have hz' : zs.length = c := by simpa using hz
    have hlen : (zs.take l).length = l := by rw [List.length_take]; omega
    refine ⟨some y, zs.take l, c, by rw [hlen]; exact hcs, ints_of_openP hl hz' hcell, ?_, by rw [hlen]; exact hl, (fun h => by cases h), fun z hz => int_boundsP (hwz z (List.mem_of_mem_take hz))⟩
    have := hw ((lits (H := H) .i64 (zs.take l)).length * 8 + (lits (H := H) .i64 (zs.drop l)).length * 8) (by rw [hx]; simp [DataW.weights, Try.underlying24, bytesIntP, Nat.add_mul])
    simp only [lits, List.length_map, List.length_take, List.length_drop, reachBytes] at this
    rw [hlen]
    omega

end
end Go.Proofs.Ytgmljpkenipgjaa.J

/-
  pack: the laws on At and on Action and Goto, given what awake tells.
-/
namespace Go.Proofs.Ytgmljpkenipgjaa.J
open Go.RowKit Go.Maps Go.Shelf Pk

attribute [local go_sem] Oper.semAt_some

/-- What awake tells. -/
def AwOk : Prop := ∀ W, Calls Try.prog 15 #[] W fun e y => e = .returned (.bool true) ∧ W.grownBy y none

end Go.Proofs.Ytgmljpkenipgjaa.J

/-
  pack: the law on Action and Goto, given what awake tells.
-/
namespace Go.Proofs.Ytgmljpkenipgjaa.J
open Go.RowKit Go.Maps Go.Shelf Pk

attribute [local go_sem] Oper.semAt_some

theorem eq_action (p d p' d' : Int) (w : World) : (binOp .eql 52 (.agg #[.int .i64 p, .int .i64 d]) (.agg #[.int .i64 p', .int .i64 d'])).run Try.prog w = .ok (.bool (p == p' && d == d')) w := by
  have u3 := Try.underlying3
  have a3 := Try.isAgg3
  have z3 := Try.sizeOf3
  have hS : Try.prog.underlying 52 = some (.struct (Try.prog.fieldsOf 52)) := by kernel_rfl
  have hp : Try.prog.stoodInHeld 52 = false := by kernel_rfl
  rw [run_eql_struct, show (10000 : Nat) = 9999 + 1 from rfl, run_equalIn_agg w 9999 52 _ _ hS hp]
  simp only [Program.fieldsOf, Try.underlying52]
  go_simp
  by_cases h1 : p = p' <;> by_cases h2 : d = d' <;> simp [h1, h2]
theorem guard_action : Try.prog.eqGuardType Try.prog.depth 52 = false := by kernel_rfl
end Go.Proofs.Ytgmljpkenipgjaa.J
