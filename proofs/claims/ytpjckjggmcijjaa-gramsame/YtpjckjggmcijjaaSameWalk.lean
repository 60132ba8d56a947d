/-
  GramSame, walked.
-/
import Derived.Test.YtpjckjggmcijjaaRSame
import Derived.Test.YtpjckjggmcijjaaClass
namespace Go.Proofs.Ytpjckjggmcijjaa
open Go.RowKit Go.Maps Go.Shelf

attribute [local go_sem] Oper.semAt_some

section
variable (ta na la pa ta' na' la' pa' : Option Addr) (tn nn ln pn tc nc lc pc tn' nn' ln' pn' tc' nc' lc' pc' : Nat) (st st' : Int)

set_option maxRecDepth 100000 in
set_option maxHeartbeats 1000000 in
theorem gramSame_core (w : World) (r r' : Bool) (hS1 : ∀ W, w.grownBy W none → Calls Try.prog 18 #[.agg #[.slice ta tn tc, .slice na nn nc, .slice la ln lc, .int .i64 st, .slice pa pn pc], .agg #[.slice ta' tn' tc', .slice na' nn' nc', .slice la' ln' lc', .int .i64 st', .slice pa' pn' pc']] W fun e w' => e = .returned (.bool r) ∧ W.grownBy w' none) (hR1 : ∀ W, w.grownBy W none → Calls Try.prog 17 #[.agg #[.slice ta tn tc, .slice na nn nc, .slice la ln lc, .int .i64 st, .slice pa pn pc], .agg #[.slice ta' tn' tc', .slice na' nn' nc', .slice la' ln' lc', .int .i64 st', .slice pa' pn' pc']] W fun e w' => e = .returned (.bool r) ∧ W.grownBy w' none) (hS2 : ∀ W, w.grownBy W none → Calls Try.prog 18 #[.agg #[.slice ta' tn' tc', .slice na' nn' nc', .slice la' ln' lc', .int .i64 st', .slice pa' pn' pc'], .agg #[.slice ta tn tc, .slice na nn nc, .slice la ln lc, .int .i64 st, .slice pa pn pc]] W fun e w' => e = .returned (.bool r') ∧ W.grownBy w' none) (hR2 : ∀ W, w.grownBy W none → Calls Try.prog 17 #[.agg #[.slice ta' tn' tc', .slice na' nn' nc', .slice la' ln' lc', .int .i64 st', .slice pa' pn' pc'], .agg #[.slice ta tn tc, .slice na nn nc, .slice la ln lc, .int .i64 st, .slice pa pn pc]] W fun e w' => e = .returned (.bool r') ∧ W.grownBy w' none) (hS3 : ∀ W, w.grownBy W none → Calls Try.prog 18 #[.agg #[.slice ta tn tc, .slice na nn nc, .slice la ln lc, .int .i64 st, .slice pa pn pc], .agg #[.slice ta tn tc, .slice na nn nc, .slice la ln lc, .int .i64 st, .slice pa pn pc]] W fun e w' => e = .returned (.bool true) ∧ W.grownBy w' none) :
    Calls Try.prog 5 #[.agg #[.slice ta tn tc, .slice na nn nc, .slice la ln lc, .int .i64 st, .slice pa pn pc], .agg #[.slice ta' tn' tc', .slice na' nn' nc', .slice la' ln' lc', .int .i64 st', .slice pa' pn' pc']] w fun e w' => e = .returned (.bool true) ∧ w.grownBy w' none := by
  have HS1 : Hid (∀ W, w.grownBy W none → Calls Try.prog 18 #[.agg #[.slice ta tn tc, .slice na nn nc, .slice la ln lc, .int .i64 st, .slice pa pn pc], .agg #[.slice ta' tn' tc', .slice na' nn' nc', .slice la' ln' lc', .int .i64 st', .slice pa' pn' pc']] W fun e w' => e = .returned (.bool r) ∧ W.grownBy w' none) := hS1
  have HR1 : Hid (∀ W, w.grownBy W none → Calls Try.prog 17 #[.agg #[.slice ta tn tc, .slice na nn nc, .slice la ln lc, .int .i64 st, .slice pa pn pc], .agg #[.slice ta' tn' tc', .slice na' nn' nc', .slice la' ln' lc', .int .i64 st', .slice pa' pn' pc']] W fun e w' => e = .returned (.bool r) ∧ W.grownBy w' none) := hR1
  have HS2 : Hid (∀ W, w.grownBy W none → Calls Try.prog 18 #[.agg #[.slice ta' tn' tc', .slice na' nn' nc', .slice la' ln' lc', .int .i64 st', .slice pa' pn' pc'], .agg #[.slice ta tn tc, .slice na nn nc, .slice la ln lc, .int .i64 st, .slice pa pn pc]] W fun e w' => e = .returned (.bool r') ∧ W.grownBy w' none) := hS2
  have HR2 : Hid (∀ W, w.grownBy W none → Calls Try.prog 17 #[.agg #[.slice ta' tn' tc', .slice na' nn' nc', .slice la' ln' lc', .int .i64 st', .slice pa' pn' pc'], .agg #[.slice ta tn tc, .slice na nn nc, .slice la ln lc, .int .i64 st, .slice pa pn pc]] W fun e w' => e = .returned (.bool r') ∧ W.grownBy w' none) := hR2
  have HS3 : Hid (∀ W, w.grownBy W none → Calls Try.prog 18 #[.agg #[.slice ta tn tc, .slice na nn nc, .slice la ln lc, .int .i64 st, .slice pa pn pc], .agg #[.slice ta tn tc, .slice na nn nc, .slice la ln lc, .int .i64 st, .slice pa pn pc]] W fun e w' => e = .returned (.bool true) ∧ W.grownBy w' none) := hS3
  have HX : Hid (Ph2 w _ #[.slice ta tn tc, .slice na nn nc, .slice la ln lc, .int .i64 st, .slice pa pn pc] #[.slice ta' tn' tc', .slice na' nn' nc', .slice la' ln' lc', .int .i64 st', .slice pa' pn' pc']) := Ph2.mk' w _ _
  clear hS1 hR1 hS2 hR2 hS3
  go_enter Try.func5, Try.ntmps5
  go_wp2_with fail
  refine (awake_any _).mono ?_
  rintro e w1 ⟨rfl, hg1⟩
  have HX1 : Hid (Ph2 w w1 #[.slice ta tn tc, .slice na nn nc, .slice la ln lc, .int .i64 st, .slice pa pn pc] #[.slice ta' tn' tc', .slice na' nn' nc', .slice la' ln' lc', .int .i64 st', .slice pa' pn' pc']) := HX.out.kept hg1
  clear hg1 HX
  go_wp2_with fail
  have hA : (fun v => Ph2 w v #[.slice ta tn tc, .slice na nn nc, .slice la ln lc, .int .i64 st, .slice pa pn pc] #[.slice ta' tn' tc', .slice na' nn' nc', .slice la' ln' lc', .int .i64 st', .slice pa' pn' pc']) w1.drew := HX1.out.kept (grown_drewN w1 1)
  haveI hne : Nonempty (WBox (fun v => Ph2 w v #[.slice ta tn tc, .slice na nn nc, .slice la ln lc, .int .i64 st, .slice pa pn pc] #[.slice ta' tn' tc', .slice na' nn' nc', .slice la' ln' lc', .int .i64 st', .slice pa' pn' pc'])) := ⟨⟨_, hA⟩⟩
  have c0 := fun s : WBox (fun v => Ph2 w v #[.slice ta tn tc, .slice na nn nc, .slice la ln lc, .int .i64 st, .slice pa pn pc] #[.slice ta' tn' tc', .slice na' nn' nc', .slice la' ln' lc', .int .i64 st', .slice pa' pn' pc']) => s.ok.cells.1.1
  have c1 := fun s : WBox (fun v => Ph2 w v #[.slice ta tn tc, .slice na nn nc, .slice la ln lc, .int .i64 st, .slice pa pn pc] #[.slice ta' tn' tc', .slice na' nn' nc', .slice la' ln' lc', .int .i64 st', .slice pa' pn' pc']) => s.ok.cells.1.2.1
  have c2 := fun s : WBox (fun v => Ph2 w v #[.slice ta tn tc, .slice na nn nc, .slice la ln lc, .int .i64 st, .slice pa pn pc] #[.slice ta' tn' tc', .slice na' nn' nc', .slice la' ln' lc', .int .i64 st', .slice pa' pn' pc']) => s.ok.cells.1.2.2.1
  have c3 := fun s : WBox (fun v => Ph2 w v #[.slice ta tn tc, .slice na nn nc, .slice la ln lc, .int .i64 st, .slice pa pn pc] #[.slice ta' tn' tc', .slice na' nn' nc', .slice la' ln' lc', .int .i64 st', .slice pa' pn' pc']) => s.ok.cells.1.2.2.2.1
  have c4 := fun s : WBox (fun v => Ph2 w v #[.slice ta tn tc, .slice na nn nc, .slice la ln lc, .int .i64 st, .slice pa pn pc] #[.slice ta' tn' tc', .slice na' nn' nc', .slice la' ln' lc', .int .i64 st', .slice pa' pn' pc']) => s.ok.cells.1.2.2.2.2
  have e0 := fun s : WBox (fun v => Ph2 w v #[.slice ta tn tc, .slice na nn nc, .slice la ln lc, .int .i64 st, .slice pa pn pc] #[.slice ta' tn' tc', .slice na' nn' nc', .slice la' ln' lc', .int .i64 st', .slice pa' pn' pc']) => s.ok.cells.2.1
  have e1 := fun s : WBox (fun v => Ph2 w v #[.slice ta tn tc, .slice na nn nc, .slice la ln lc, .int .i64 st, .slice pa pn pc] #[.slice ta' tn' tc', .slice na' nn' nc', .slice la' ln' lc', .int .i64 st', .slice pa' pn' pc']) => s.ok.cells.2.2.1
  have e2 := fun s : WBox (fun v => Ph2 w v #[.slice ta tn tc, .slice na nn nc, .slice la ln lc, .int .i64 st, .slice pa pn pc] #[.slice ta' tn' tc', .slice na' nn' nc', .slice la' ln' lc', .int .i64 st', .slice pa' pn' pc']) => s.ok.cells.2.2.2.1
  have e3 := fun s : WBox (fun v => Ph2 w v #[.slice ta tn tc, .slice na nn nc, .slice la ln lc, .int .i64 st, .slice pa pn pc] #[.slice ta' tn' tc', .slice na' nn' nc', .slice la' ln' lc', .int .i64 st', .slice pa' pn' pc']) => s.ok.cells.2.2.2.2.1
  have e4 := fun s : WBox (fun v => Ph2 w v #[.slice ta tn tc, .slice na nn nc, .slice la ln lc, .int .i64 st, .slice pa pn pc] #[.slice ta' tn' tc', .slice na' nn' nc', .slice la' ln' lc', .int .i64 st', .slice pa' pn' pc']) => s.ok.cells.2.2.2.2.2
  have hq1 : (r == r) = true := by simp
  have hq2 : (r' == r') = true := by simp
  have K1 : Hid (∀ s : WBox (fun v => Ph2 w v #[.slice ta tn tc, .slice na nn nc, .slice la ln lc, .int .i64 st, .slice pa pn pc] #[.slice ta' tn' tc', .slice na' nn' nc', .slice la' ln' lc', .int .i64 st', .slice pa' pn' pc']), Calls Try.prog 18 #[.agg #[.slice ta tn tc, .slice na nn nc, .slice la ln lc, .int .i64 st, .slice pa pn pc], .agg #[.slice ta' tn' tc', .slice na' nn' nc', .slice la' ln' lc', .int .i64 st', .slice pa' pn' pc']] s.w fun e w' => e = .returned (.bool r) ∧ ∃ s' : WBox (fun v => Ph2 w v #[.slice ta tn tc, .slice na nn nc, .slice la ln lc, .int .i64 st, .slice pa pn pc] #[.slice ta' tn' tc', .slice na' nn' nc', .slice la' ln' lc', .int .i64 st', .slice pa' pn' pc']), w' = s'.w) := fun s => calls_class ((HS1.out s.w s.ok.grown).mono fun e w' h => ⟨h.1, s.ok.kept h.2⟩)
  have K2 : Hid (∀ s : WBox (fun v => Ph2 w v #[.slice ta tn tc, .slice na nn nc, .slice la ln lc, .int .i64 st, .slice pa pn pc] #[.slice ta' tn' tc', .slice na' nn' nc', .slice la' ln' lc', .int .i64 st', .slice pa' pn' pc']), Calls Try.prog 17 #[.agg #[.slice ta tn tc, .slice na nn nc, .slice la ln lc, .int .i64 st, .slice pa pn pc], .agg #[.slice ta' tn' tc', .slice na' nn' nc', .slice la' ln' lc', .int .i64 st', .slice pa' pn' pc']] s.w fun e w' => e = .returned (.bool r) ∧ ∃ s' : WBox (fun v => Ph2 w v #[.slice ta tn tc, .slice na nn nc, .slice la ln lc, .int .i64 st, .slice pa pn pc] #[.slice ta' tn' tc', .slice na' nn' nc', .slice la' ln' lc', .int .i64 st', .slice pa' pn' pc']), w' = s'.w) := fun s => calls_class ((HR1.out s.w s.ok.grown).mono fun e w' h => ⟨h.1, s.ok.kept h.2⟩)
  have K3 : Hid (∀ s : WBox (fun v => Ph2 w v #[.slice ta tn tc, .slice na nn nc, .slice la ln lc, .int .i64 st, .slice pa pn pc] #[.slice ta' tn' tc', .slice na' nn' nc', .slice la' ln' lc', .int .i64 st', .slice pa' pn' pc']), Calls Try.prog 18 #[.agg #[.slice ta' tn' tc', .slice na' nn' nc', .slice la' ln' lc', .int .i64 st', .slice pa' pn' pc'], .agg #[.slice ta tn tc, .slice na nn nc, .slice la ln lc, .int .i64 st, .slice pa pn pc]] s.w fun e w' => e = .returned (.bool r') ∧ ∃ s' : WBox (fun v => Ph2 w v #[.slice ta tn tc, .slice na nn nc, .slice la ln lc, .int .i64 st, .slice pa pn pc] #[.slice ta' tn' tc', .slice na' nn' nc', .slice la' ln' lc', .int .i64 st', .slice pa' pn' pc']), w' = s'.w) := fun s => calls_class ((HS2.out s.w s.ok.grown).mono fun e w' h => ⟨h.1, s.ok.kept h.2⟩)
  have K4 : Hid (∀ s : WBox (fun v => Ph2 w v #[.slice ta tn tc, .slice na nn nc, .slice la ln lc, .int .i64 st, .slice pa pn pc] #[.slice ta' tn' tc', .slice na' nn' nc', .slice la' ln' lc', .int .i64 st', .slice pa' pn' pc']), Calls Try.prog 17 #[.agg #[.slice ta' tn' tc', .slice na' nn' nc', .slice la' ln' lc', .int .i64 st', .slice pa' pn' pc'], .agg #[.slice ta tn tc, .slice na nn nc, .slice la ln lc, .int .i64 st, .slice pa pn pc]] s.w fun e w' => e = .returned (.bool r') ∧ ∃ s' : WBox (fun v => Ph2 w v #[.slice ta tn tc, .slice na nn nc, .slice la ln lc, .int .i64 st, .slice pa pn pc] #[.slice ta' tn' tc', .slice na' nn' nc', .slice la' ln' lc', .int .i64 st', .slice pa' pn' pc']), w' = s'.w) := fun s => calls_class ((HR2.out s.w s.ok.grown).mono fun e w' h => ⟨h.1, s.ok.kept h.2⟩)
  have K5 : Hid (∀ s : WBox (fun v => Ph2 w v #[.slice ta tn tc, .slice na nn nc, .slice la ln lc, .int .i64 st, .slice pa pn pc] #[.slice ta' tn' tc', .slice na' nn' nc', .slice la' ln' lc', .int .i64 st', .slice pa' pn' pc']), Calls Try.prog 18 #[.agg #[.slice ta tn tc, .slice na nn nc, .slice la ln lc, .int .i64 st, .slice pa pn pc], .agg #[.slice ta tn tc, .slice na nn nc, .slice la ln lc, .int .i64 st, .slice pa pn pc]] s.w fun e w' => e = .returned (.bool true) ∧ ∃ s' : WBox (fun v => Ph2 w v #[.slice ta tn tc, .slice na nn nc, .slice la ln lc, .int .i64 st, .slice pa pn pc] #[.slice ta' tn' tc', .slice na' nn' nc', .slice la' ln' lc', .int .i64 st', .slice pa' pn' pc']), w' = s'.w) := fun s => calls_class ((HS3.out s.w s.ok.grown).mono fun e w' h => ⟨h.1, s.ok.kept h.2⟩)
  clear HX1 HS1 HS2 HS3 HR1 HR2
  refine wp_region_class (p := fun v => Ph2 w v #[.slice ta tn tc, .slice na nn nc, .slice la ln lc, .int .i64 st, .slice pa pn pc] #[.slice ta' tn' tc', .slice na' nn' nc', .slice la' ln' lc', .int .i64 st', .slice pa' pn' pc']) (by kernel_rfl) (by kernel_rfl) hA ?_
  repeat (go_big_quiet_step (first
    | (go_at_call 18; rename_i s; with_reducible exact K1.out s)
    | (go_at_call 17; rename_i s; with_reducible exact K2.out s)
    | (go_at_call 18; rename_i s; with_reducible exact K3.out s)
    | (go_at_call 17; rename_i s; with_reducible exact K4.out s)
    | (go_at_call 18; rename_i s; with_reducible exact K5.out s)))
  refine wpQuiet_nil ?_
  rintro _ ⟨s, rfl⟩
  go_wp2_with fail
  go_ret
  exact ⟨rfl, s.ok.grown⟩
end

end Go.Proofs.Ytpjckjggmcijjaa
