/-
  Sizes of a builder.
-/
import Derived.Test.YtdlbeffkgdjihaaRuleWalk
import Derived.BigQuiet
namespace Go.Proofs.Ytdlbeffkgdjihaa
open Go.RowKit

attribute [local go_sem] Oper.semAt_some

theorem owns_form {W : World} {B e z n : Nat} {v : Value} {xs : List Value} (h : W.ownsRow B e z v n xs) : ∃ a c, v = .slice a n c := by
  rcases h.2 with ⟨rfl, h0⟩ | ⟨g, cap, cur, rfl, _⟩
  · exact ⟨none, 0, by rw [h0]⟩
  · exact ⟨_, _, rfl⟩
theorem results_sizes (tmps : Array Value) (w : World) (x y z u : Value) (h2 : tmps.getD 2 undef = x) (h3 : tmps.getD 3 undef = y) (h4 : tmps.getD 4 undef = z) (h5 : tmps.getD 5 undef = u) : (results Try.f28 tmps).run Try.prog w = .ok (.tuple #[x, y, z, u]) w := by
  have h2' : tmps[2]?.getD undef = x := by simpa using h2
  have h3' : tmps[3]?.getD undef = y := by simpa using h3
  have h4' : tmps[4]?.getD undef = z := by simpa using h4
  have h5' : tmps[5]?.getD undef = u := by simpa using h5
  simp [results, Try.results28, h2', h3', h4', h5']

set_option maxRecDepth 100000 in
theorem sizes_any (b : Nat) (S : BS) (w : World) (hB : BAt w b S) : Calls Try.prog 28 #[.pointer (some ⟨b, 0, none⟩)] w fun e w' => e = .returned (.tuple #[.int .i64 S.terms.length, .int .i64 S.nons.length, .int .i64 S.sides.length, .int .i64 S.prods.length]) ∧ ∃ k, w' = w.drewN k := by
  obtain ⟨hok, c, hr, hc⟩ := hB
  obtain ⟨a1, c1, e1⟩ := owns_form hc.tl
  obtain ⟨a3, c3, e3⟩ := owns_form hc.nl
  obtain ⟨a69, c69, e69⟩ := owns_form hc.sd
  obtain ⟨rs, _, hp, _⟩ := hc.pr
  obtain ⟨a70, c70, e70⟩ := owns_form hp
  have h1 := hr.cell 1 (by omega)
  have h3 := hr.cell 3 (by omega)
  have h69 := hr.cell 69 (by omega)
  have h70 := hr.cell 70 (by omega)
  rw [e1] at h1
  rw [e3] at h3
  rw [e69] at h69
  rw [e70] at h70
  have HA : Hid (∀ k, Calls Try.prog 57 #[.pointer (some ⟨b, 0, none⟩)] (w.drewN k) fun e w' => e = .returned (.int .i64 S.terms.length) ∧ w' = w.drewN k) := fun k => size_quiet (o := 0) k h1
  have HB : Hid (∀ k, Calls Try.prog 57 #[.pointer (some ⟨b, 2, none⟩)] (w.drewN k) fun e w' => e = .returned (.int .i64 S.nons.length) ∧ w' = w.drewN k) := fun k => size_quiet (o := 2) k h3
  clear hok hr hc hp e1 e3 e69 e70 h1 h3
  go_enter Try.func28, Try.ntmps28
  go_wp2_with fail
  go_quiet (first | (go_at_call 57; with_reducible exact Calls.quiet_of_same (HA.out _)) | (go_at_call 57; with_reducible exact Calls.quiet_of_same (HB.out _)))
  go_wp2
  refine bodyPost_ret (results_sizes _ _ _ _ _ _ rfl rfl rfl rfl) rfl ?_
  exact ⟨rfl, _, rfl⟩

end Go.Proofs.Ytdlbeffkgdjihaa
