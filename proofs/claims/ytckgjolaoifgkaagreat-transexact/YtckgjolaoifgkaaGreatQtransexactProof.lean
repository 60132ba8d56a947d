/-
  TransExact holds: it answers true for every grammar, which reads afterwards as it did before.
  No condition.
-/
import Derived.Test.YtckgjolaoifgkaaGreatQmkeeakmbbppp
namespace Go.Proofs.YtckgjolaoifgkaaGreat
open Go.ChangeShapes Go.WideShapes Go.ChangeAt Go.RowKit J

set_option maxRecDepth 100000 in
theorem transExact_lifted (os : Os) (started : os.Started) (H : Type) (enc : TypeId × Value → H) :
    ReturnsInHanded {} Tryz.checked os 3 .any (Rows.transExactSpec.pre6 enc Tryz.prog Tryz.f3 Rows.transExactRow.domain false) (Rows.transExactSpec.post enc Tryz.prog Tryz.f3 false true false false) := by
  refine returnsInHanded_of_change_sized (C := Tryz.checked) J.own started (by kernel_rfl) Tryz.func3
    (ChangeSpec.witness6 (enc := enc) (C := Tryz.checked) false ⟨#[], #[.agg #[.slice none 0 0, .slice none 0 0, .slice none 0 0, .int .i64 0, .slice none 0 0]], []⟩ 8 (by kernel_rfl) (by kernel_rfl) (by kernel_rfl) (by kernel_rfl)) ?_
  intro W base args ds gs before hval0 hW hcnd hsz0 _
  have hval : ∀ (j : Nat) t v, Tryz.f3.params[j]? = some t → args[j]? = some v → Value.okWide Tryz.prog W .any base t v := hval0
  have hsz : (DataW.weightsEach Tryz.prog (Tryz.f3.params.toList ++ Rows.transExactSpec.plain.varTypes Tryz.prog) (ds ++ gs)).all (· ≤ reachBytes) = true := hsz0
  have hW' := hW
  obtain ⟨p, q, hA0, hV, rfl, hfz, hnd⟩ := hW
  have hA : DataW.TrodAll enc Tryz.prog W 0 (fun _ => true) true Tryz.f3.params.toList args.toList ds p := hA0
  rw [Tryz.params3] at hA hval hsz
  obtain ⟨v0, vs0, d0, ds0, p0, q0, hargs, rfl, rfl, h0, r0⟩ := trodAll_cons hA
  obtain ⟨rfl, rfl, rfl⟩ := trodAll_nil r0
  obtain rfl : args = #[v0] := by cases args; simp_all
  obtain ⟨rfl, rfl⟩ := trodVars_none hV
  have lt0 : ∀ x ∈ p0, x.block < W.heap.size := by obtain ⟨m, hm⟩ := h0; exact DataW.trod_lt m _ _ _ hm
  have hw0 : ∀ n ∈ d0.weights Tryz.prog 27, n ≤ reachBytes := fun n hn => by
    have := List.all_eq_true.1 hsz n (DataW.weights_mem_each (j := 0) (t := 27) (d := d0) rfl rfl n hn)
    simpa using this
  obtain ⟨ta, na, la, pa, tc, nc, lc, pc, ts, ns, lv, n, L, R, ra, rc, V, st, rfl, hG, hIn⟩ := open_gram (hval 0 27 v0 rfl rfl) h0 hw0
  clear hA0 hval0
  have hcore : Calls Tryz.prog 3 #[.agg #[.slice ta ts.length tc, .slice na ns.length nc, .slice la lv.length lc, .int .i64 st, .slice pa n pc]] W fun e w' => e = .returned (.bool true) ∧ W.grownBy w' none :=
    J.texact_core ta na la pa tc nc lc pc ts ns lv n L R ra rc V st W ts.length ns.length lv.length ⟨rfl, rfl, rfl⟩ hG (fun t ht => (hIn.lvl t ht).2) hIn.nsz hIn.tnil hIn.lnil (by have := hIn.tn; omega) (by have := hIn.nn; omega) (by have := hIn.pn; omega)
  refine hcore.mono fun e W' ⟨he, hg⟩ => ?_
  subst he
  have bel := grown_below0 hg
  exact ⟨_, rfl, _, _, _, [], _, [], hW', trodAll_mk1 (shut_bool Tryz.underlying4 _), trodAll_cons_mk (Below.trod J.laidOut (by kernel_rfl) (of_decide_eq_true (by kernel_rfl)) h0 bel lt0) trodAll_mk0, rfl, bel.frame _, fun h => by cases h⟩

theorem transExact_holds : Rows.TransExactSaid :=
  OpenClaim.holds_of_wide 3 Tryz.f3 rfl rfl rfl rfl rfl rfl rfl ⟨rfl, rfl, rfl, rfl, rfl⟩ rfl rfl rfl rfl rfl (by kernel_rfl) Tryz.func3 (by kernel_rfl)
    (of_decide_eq_true (by kernel_rfl)) (by unfold Func.isWrapper; first | (rw [if_pos (by decide +kernel)]; kernel_rfl) | (rw [if_neg (by decide +kernel)]; exact ⟨rfl, rfl⟩))
    (fun os started H enc _ => transExact_lifted os started H enc)

end Go.Proofs.YtckgjolaoifgkaaGreat
