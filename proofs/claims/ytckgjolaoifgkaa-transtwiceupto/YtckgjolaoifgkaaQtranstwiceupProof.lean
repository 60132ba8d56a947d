/-
  TransTwice holds where what it reads is of bulk at most 1048576: it answers true for every such grammar, number and pair of rows, which read afterwards as they did before.
-/
import Derived.Test.YtckgjolaoifgkaaRows
import Derived.Test.YtckgjolaoifgkaaQnjlhnphcdmhn
import Derived.Test.YtckgjolaoifgkaaQfjijncikplgo
import Derived.Deep.CondSized
namespace Go.Proofs.Ytckgjolaoifgkaa
open Go.ChangeShapes Go.WideShapes Go.ChangeAt Go.RowKit

theorem cellsRows : Try.prog.cellsOf 29 = 2 := by kernel_rfl

set_option maxRecDepth 100000 in
theorem open_intT {H : Type} {enc : TypeId × Value → H} {W : World} {base : Nat} {v : Value} {d : DataW H} {p : List MemPlace} (hv : Value.okWide Try.prog W .any base 3 v) (h : DataW.Trod enc Try.prog W 0 (fun _ => true) true 3 v d p) : ∃ z, v = .int .i64 z := by
  obtain ⟨z, rfl⟩ := okWide_int Try.underlying3 hv
  exact ⟨z, rfl⟩

set_option maxRecDepth 100000 in
theorem open_rows {H : Type} {enc : TypeId × Value → H} {W : World} {base : Nat} {v : Value} {d : DataW H} {p : List MemPlace} (hv : Value.okWide Try.prog W .any base 29 v) (h : DataW.Trod enc Try.prog W 0 (fun _ => true) true 29 v d p) (hw : ∀ n ∈ d.weights Try.prog 29, n ≤ reachBytes) : ∃ a1 l1 c1 a2 l2 c2, v = .agg #[.slice a1 (List.length l1) c1, .slice a2 (List.length l2) c2] ∧ IntsAt W a1 l1 ∧ IntsAt W a2 l2 ∧ (a1 = none → l1.length = 0 ∧ c1 = 0) ∧ (a2 = none → l2.length = 0 ∧ c2 = 0) ∧ l1.length ≤ Rows.uptoBulk d ∧ l2.length ≤ Rows.uptoBulk d := by
  obtain ⟨cs, rfl, hsz⟩ := okWide_struct Try.underlying29 hv
  obtain ⟨fuel, hf⟩ := h
  obtain ⟨xs, k, hk, hxy, hcl, hxl, hfs⟩ := DataW.trod_struct Try.underlying29 hf
  rw [cellsRows] at hsz
  obtain ⟨l, rfl⟩ : ∃ l : List Value, cs = l.toArray := ⟨cs.toList, by simp⟩
  simp only [Value.cells] at hfs hcl
  have hl : l.length = 2 := by simpa using hsz
  match xs, hxl, l, hl with
  | [y0, y1], _, [v0, v1], _ =>
    have g0 := hfs 0 _ rfl
    have g1 := hfs 1 _ rfl
    simp [cellsInts] at g0 g1
    simp only [Prod.mk.injEq] at hxy
    obtain ⟨rfl, _⟩ := hxy
    have w0 : ∀ n ∈ y0.1.weights Try.prog 24, n ≤ reachBytes := fun n hn => hw n (by
      simp only [DataW.weights, Try.underlying29]
      exact DataW.weights_mem_each (j := 0) (t := 24) (d := y0.1) rfl rfl n hn)
    have w1 : ∀ n ∈ y1.1.weights Try.prog 24, n ≤ reachBytes := fun n hn => hw n (by
      simp only [DataW.weights, Try.underlying29]
      exact DataW.weights_mem_each (j := 1) (t := 24) (d := y1.1) rfl rfl n hn)
    obtain ⟨a1, l1, c1, e1, i1, _, _, n1, _⟩ := open_ints_in g0 w0
    obtain ⟨a2, l2, c2, e2, i2, _, _, n2, _⟩ := open_ints_in g1 w1
    simp only [List.cons.injEq, and_true] at e1 e2
    subst e1 e2
    have b1 := ints_bulk g0
    have b2 := ints_bulk g1
    have p1 : Rows.uptoBulk y0.1 ≤ Rows.uptoBulkAll [y0.1, y1.1] := bulk_part (by simp)
    have p2 : Rows.uptoBulk y1.1 ≤ Rows.uptoBulkAll [y0.1, y1.1] := bulk_part (by simp)
    refine ⟨a1, l1, c1, a2, l2, c2, rfl, i1, i2, n1, n2, ?_, ?_⟩
    · simp only [Rows.uptoBulk, List.map_cons, List.map_nil]; omega
    · simp only [Rows.uptoBulk, List.map_cons, List.map_nil]; omega

set_option maxRecDepth 100000 in
theorem twice_lifted (os : Os) (started : os.Started) (H : Type) (enc : TypeId × Value → H) (F : Stop.Interp) :
    ReturnsInHanded {} Try.checked os 3 .any ((Rows.OpenSpec.upto Rows.transTwiceSpec).pre6 enc Try.prog Try.f3 Rows.transTwiceUptoRow.domain false) (((Rows.OpenSpec.upto Rows.transTwiceSpec).at F).post enc Try.prog Try.f3 false true false false) := by
  refine returnsInHanded_of_cond_sized (C := Try.checked) (s := Rows.OpenSpec.upto Rows.transTwiceSpec) (k := Rows.uptoSmall) rfl J.own started (by kernel_rfl) Try.func3
    (OpenSpec.witness (enc := enc) (C := Try.checked) (s := Rows.OpenSpec.upto Rows.transTwiceSpec) (k := Rows.uptoSmall) rfl false ⟨#[], #[.agg #[.slice none 0 0, .slice none 0 0, .slice none 0 0, .int .i64 0, .slice none 0 0], .int .i64 0, .agg #[.slice none 0 0, .slice none 0 0]], []⟩ 8 (by kernel_rfl) (by kernel_rfl) (by kernel_rfl)
      (x := ([.agg [.nil, .nil, .nil, .lit (.int .i64 0), .nil], .lit (.int .i64 0), .agg [.nil, .nil]], [], [])) (by kernel_rfl) rfl (by kernel_rfl)) ?_
  intro W base args ds gs before hval0 hW hcnd hk0 hsz0 _
  have hval : ∀ (j : Nat) t v, Try.f3.params[j]? = some t → args[j]? = some v → Value.okWide Try.prog W .any base t v := hval0
  have hsz : (DataW.weightsEach Try.prog (Try.f3.params.toList ++ Rows.transTwiceSpec.plain.varTypes Try.prog) (ds ++ gs)).all (· ≤ reachBytes) = true := hsz0
  have hk : Rows.uptoBulkAll (ds ++ gs) ≤ 1048576 := of_decide_eq_true hk0
  have hW' := hW
  obtain ⟨p, q, hA0, hV, rfl, hfz, hnd⟩ := hW
  have hA : DataW.TrodAll enc Try.prog W 0 (fun _ => true) true Try.f3.params.toList args.toList ds p := hA0
  rw [Try.params3] at hA hval hsz
  obtain ⟨v0, vs0, d0, ds0, p0, q0, hargs, rfl, rfl, h0, r0⟩ := trodAll_cons hA
  obtain ⟨v1, vs1, d1, ds1, p1, q1, rfl, rfl, rfl, h1, r1⟩ := trodAll_cons r0
  obtain ⟨v2, vs2, d2, ds2, p2, q2, rfl, rfl, rfl, h2, r2⟩ := trodAll_cons r1
  obtain ⟨rfl, rfl, rfl⟩ := trodAll_nil r2
  obtain rfl : args = #[v0, v1, v2] := by cases args; simp_all
  obtain ⟨rfl, rfl⟩ := trodVars_none hV
  have lt0 : ∀ x ∈ p0, x.block < W.heap.size := by obtain ⟨m, hm⟩ := h0; exact DataW.trod_lt m _ _ _ hm
  have lt1 : ∀ x ∈ p1, x.block < W.heap.size := by obtain ⟨m, hm⟩ := h1; exact DataW.trod_lt m _ _ _ hm
  have lt2 : ∀ x ∈ p2, x.block < W.heap.size := by obtain ⟨m, hm⟩ := h2; exact DataW.trod_lt m _ _ _ hm
  have hw0 : ∀ n ∈ d0.weights Try.prog 27, n ≤ reachBytes := fun n hn => by
    have := List.all_eq_true.1 hsz n (DataW.weights_mem_each (j := 0) (t := 27) (d := d0) rfl rfl n hn)
    simpa using this
  have hw2 : ∀ n ∈ d2.weights Try.prog 29, n ≤ reachBytes := fun n hn => by
    have := List.all_eq_true.1 hsz n (DataW.weights_mem_each (j := 2) (t := 29) (d := d2) rfl rfl n hn)
    simpa using this
  obtain ⟨ta, na, la, pa, tc, nc, lc, pc, ts, ns, lv, n, L, R, ra, rc, V, st, rfl, hG, hIn⟩ := open_gram (hval 0 27 v0 rfl rfl) h0 hw0
  obtain ⟨z, rfl⟩ := open_intT (hval 1 3 v1 rfl rfl) h1
  obtain ⟨a1, l1, c1, a2, l2, c2, rfl, i1, i2, n1, n2, e1, e2⟩ := open_rows (hval 2 29 v2 rfl rfl) h2 hw2
  have hk2 : Rows.uptoBulk d2 ≤ 1048576 := Nat.le_trans (bulk_part (by simp)) hk
  clear hA0 hval0
  refine (J.twice_core ta na la pa tc nc lc pc ts ns lv n L R ra rc V st W ts.length ns.length lv.length ⟨rfl, rfl, rfl⟩ hG z a1 a2 c1 c2 l1 l2 i1 i2 n1 n2 (by omega) (by omega)).mono fun e W' ⟨he, hg⟩ => ?_
  subst he
  have bel := grown_below0 hg
  exact ⟨_, rfl, _, _, _, [], _, [], hW', trodAll_mk1 (shut_bool Try.underlying4 _), trodAll_cons_mk (Below.trod J.laidOut (by kernel_rfl) (of_decide_eq_true (by kernel_rfl)) h0 bel lt0) (trodAll_cons_mk (Below.trod J.laidOut (by kernel_rfl) (of_decide_eq_true (by kernel_rfl)) h1 bel lt1) (trodAll_cons_mk (Below.trod J.laidOut (by kernel_rfl) (of_decide_eq_true (by kernel_rfl)) h2 bel lt2) trodAll_mk0)), rfl, bel.frame _, fun h => by cases h⟩

theorem transTwice_holds : Rows.TransTwiceUptoSaid :=
  OpenClaim.holds_of_cond 3 Try.f3 rfl rfl rfl rfl rfl rfl rfl ⟨rfl, rfl, rfl, rfl, rfl⟩ rfl rfl rfl rfl rfl (by kernel_rfl) Try.func3 (by kernel_rfl)
    (of_decide_eq_true (by kernel_rfl)) (by unfold Func.isWrapper; first | (rw [if_pos (by decide +kernel)]; kernel_rfl) | (rw [if_neg (by decide +kernel)]; exact ⟨rfl, rfl⟩))
    (fun os started H enc _ F => twice_lifted os started H enc F)

end Go.Proofs.Ytckgjolaoifgkaa
