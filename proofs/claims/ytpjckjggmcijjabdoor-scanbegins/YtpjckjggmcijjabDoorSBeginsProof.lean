/-
  ScanBegins holds: it answers true for every two texts, and they read afterwards as they did before; the orders start as the program's text lays them.
-/
import Derived.Test.YtpjckjggmcijjabDoorSFrame
import Derived.Test.YtpjckjggmcijjabDoorSBegins
namespace Go.Proofs.YtpjckjggmcijjabDoor
open Go.ChangeShapes Go.WideShapes Go.ChangeAt Go.RowKit

set_option maxRecDepth 100000 in
theorem begins_lifted (os : Os) (started : os.Started) (H : Type) (enc : TypeId × Value → H) :
    ReturnsInHanded {} Tryd.checked os 7 .any (fun w args => (Rows.scanBeginsSpec.pre enc Tryd.prog Tryd.f7 [] false w args ∧ laidMetH Tryd.prog laid1 w) ∧ sizedMet enc Tryd.prog Tryd.f7 (OpenSpec.ofChange Rows.scanBeginsSpec) false w args)
      (Rows.scanBeginsSpec.post enc Tryd.prog Tryd.f7 false true false false) := by
  refine returnsInHanded_of_change_and (C := Tryd.checked) (X := fun w _ => laidMetH Tryd.prog laid1 w) (fun _ _ _ hh h => h.of_heap hh) own started (by kernel_rfl) Tryd.func7
    (ChangeSpec.witness_shaped (enc := enc) (C := Tryd.checked) (os := os) (X := fun w _ => laidMetH Tryd.prog laid1 w) false (World.doorLaid Tryd.prog 14 os) #[.string ⟨#[]⟩, .string ⟨#[]⟩] 8 rfl (World.shaped_of_RefB (by kernel_rfl) (by kernel_rfl)) (by kernel_rfl) (by kernel_rfl) (by kernel_rfl) (door_met os _)) ?_
  intro W base args ds gs before hval0 hW _ hsz0 hL _
  have hval : ∀ (j : Nat) t v, Tryd.f7.params[j]? = some t → args[j]? = some v → Value.okWide Tryd.prog W .any base t v := hval0
  have hsz : (DataW.weightsEach Tryd.prog (Tryd.f7.params.toList ++ Rows.scanBeginsSpec.plain.varTypes Tryd.prog) (ds ++ gs)).all (· ≤ reachBytes) = true := hsz0
  have hW' := hW
  obtain ⟨p, q, hA0, hV, rfl, hfz, hnd⟩ := hW
  have hA : DataW.TrodAll enc Tryd.prog W 0 (fun _ => true) true Tryd.f7.params.toList args.toList ds p := hA0
  rw [Tryd.params7] at hA hval hsz
  obtain ⟨v0, vs0, d0, ds0, p0, q0, hargs, rfl, rfl, h0, r0⟩ := trodAll_cons hA
  obtain ⟨v1, vs1, d1, ds1, p1, q1, hargs1, rfl, rfl, h1, r1⟩ := trodAll_cons r0
  subst hargs1
  obtain ⟨rfl, rfl, rfl⟩ := trodAll_nil r1
  obtain rfl : args = #[v0, v1] := by cases args; simp_all
  obtain ⟨rfl, rfl⟩ := trodVars_none hV
  obtain ⟨s, rfl⟩ := okWide_string Tryd.underlying9 (hval 0 9 v0 rfl rfl)
  obtain ⟨m, rfl⟩ := okWide_string Tryd.underlying9 (hval 1 9 v1 rfl rfl)
  have lt1 : ∀ x ∈ p1, x.block < W.heap.size := by obtain ⟨m, hm⟩ := h1; exact DataW.trod_lt m _ _ _ hm
  have lt0 : ∀ x ∈ p0, x.block < W.heap.size := by obtain ⟨m, hm⟩ := h0; exact DataW.trod_lt m _ _ _ hm
  have hs : s.size ≤ 140737488355328 := by
    obtain ⟨m, hm⟩ := h0
    obtain ⟨s', e1, e2, _⟩ := DataW.trod_string Tryd.underlying9 hm
    have hd0 : d0 = .lit (.string s'.data.toList) := congrArg Prod.fst e2
    have hss : s = s' := by simpa [Value.cells] using e1
    subst hss
    have := List.all_eq_true.1 hsz s.data.toList.length (DataW.weights_mem_each (j := 0) (t := 9) (d := d0) rfl rfl _ (by rw [hd0]; simp [DataW.weights]))
    have h2 : s.data.toList.length ≤ reachBytes := of_decide_eq_true this
    have e : s.data.toList.length = s.size := by simp
    unfold reachBytes at h2
    omega
  have hm : m.size ≤ 140737488355328 := by
    obtain ⟨g, hg⟩ := h1
    obtain ⟨s', e1, e2, _⟩ := DataW.trod_string Tryd.underlying9 hg
    have hd1 : d1 = .lit (.string s'.data.toList) := congrArg Prod.fst e2
    have hss : m = s' := by simpa [Value.cells] using e1
    subst hss
    have := List.all_eq_true.1 hsz m.data.toList.length (DataW.weights_mem_each (j := 1) (t := 9) (d := d1) rfl rfl _ (by rw [hd1]; simp [DataW.weights]))
    have h2 : m.data.toList.length ≤ reachBytes := of_decide_eq_true this
    have e : m.data.toList.length = m.size := by simp
    unfold reachBytes at h2
    omega
  have hO := ords_of_laid hL
  clear hA0 hval0
  refine (begins_any s m W hO hs hm).mono fun e W' ⟨he, hg⟩ => ?_
  subst he
  have bel := grown_below0 hg
  exact ⟨_, rfl, _, _, _, [], _, [], hW', trodAll_mk1 (shut_bool Tryd.underlying4 _), trodAll_cons_mk (Below.trod laidOut (by kernel_rfl) (of_decide_eq_true (by kernel_rfl)) h0 bel lt0) (trodAll_cons_mk (Below.trod laidOut (by kernel_rfl) (of_decide_eq_true (by kernel_rfl)) h1 bel lt1) trodAll_mk0), rfl, bel.frame _, fun h => by cases h⟩

theorem scanBegins_holds : Rows.ScanBeginsSaid :=
  OpenClaim.holds_of_wide 7 Tryd.f7 rfl rfl rfl rfl rfl rfl rfl ⟨rfl, rfl, rfl, rfl, rfl⟩ rfl rfl rfl rfl rfl (by kernel_rfl) Tryd.func7 (by kernel_rfl)
    (of_decide_eq_true (by kernel_rfl)) (by unfold Func.isWrapper; first | (rw [if_pos (by decide +kernel)]; kernel_rfl) | (rw [if_neg (by decide +kernel)]; exact ⟨rfl, rfl⟩))
    (fun os started H enc _ => begins_lifted os started H enc)

end Go.Proofs.YtpjckjggmcijjabDoor
