/-
  Grammar of a builder, walked.
-/
import Derived.Test.YtkbpnafahimeiaaGrammar
import Derived.Outline
namespace Go.Proofs.Ytkbpnafahimeiaa
open Go.RowKit Go.Maps Go.Shelf

attribute [local go_sem] Oper.semAt_some

/-- The zero grammar's cells. -/
def zeroGC : Array Value := #[.slice none 0 0, .slice none 0 0, .slice none 0 0, .int .i64 0, .slice none 0 0]

theorem grammar_empty (b : Nat) (S : BS) (w : World) (hB : BAt w b S) (h0 : S.prods.length = 0) :
    Calls Try.prog 20 #[.pointer (some ⟨b, 0, none⟩)] w fun e w' => e = .returned (.tuple #[.agg #[.slice none 0 0, .slice none 0 0, .slice none 0 0, .int .i64 0, .slice none 0 0], .int .i64 1]) ∧ w.grownBy w' none := by
  have hc : ∀ o, ∃ a c, (w.alloc o).cell? ⟨b, 70, none⟩ = some (.slice a 0 c) := fun o => by
    obtain ⟨_, c, hr, hc⟩ := hB
    obtain ⟨rs, _, h2, _⟩ := hc.pr
    obtain ⟨a, cap, hv⟩ := owns_slice h2
    exact ⟨a, cap, by rw [(hr.kept (World.grownBy_alloc w o none) (by simp)).cell 70 (by omega), hv, h0]⟩
  obtain ⟨a, c, hcell⟩ := hc (.cells #[.slice none 0 0, .slice none 0 0, .slice none 0 0, .int .i64 0, .slice none 0 0] 42)
  clear hB hc h0
  go_enter Try.func20, Try.ntmps20
  go_wp2_with fail
  refine bodyPost_ret (v := .tuple #[.agg #[.slice none 0 0, .slice none 0 0, .slice none 0 0, .int .i64 0, .slice none 0 0], .int .i64 1]) (by simp [results, Try.results20, go_sem]) rfl ⟨rfl, World.grownBy_alloc w _ none⟩

theorem results_gram (tmps : Array Value) (w : World) (g : Nat) (cs : Array Value) (x : Value) (h2 : tmps.getD 2 undef = .pointer (some ⟨g, 0, none⟩)) (h3 : tmps.getD 3 undef = x) (hg : w.heap[g]? = some (.cells cs 42 (0, 0))) (hs : cs.size = 5) :
    (results Try.f20 tmps).run Try.prog w = .ok (.tuple #[.agg cs, x]) w := by
  have h2' : tmps[2]?.getD undef = .pointer (some ⟨g, 0, none⟩) := by simpa using h2
  have h3' : tmps[3]?.getD undef = x := by simpa using h3
  have hl := run_loadVar_row (P := Try.prog) w g 42 42 cs (0, 0) _ hg Try.underlying42 rfl (by rw [infoG, hs])
  simp [results, Try.results20, h2', h3', asAddr, hl]

theorem grown_setRow (w : World) (g : Nat) (cs : Array Value) : w.grownBy (w.setRow g cs) (some g) := by
  refine ⟨rfl, rfl, rfl, ?_, fun k hk hne => ?_⟩
  · unfold World.setRow; simp
  · have hne' : g ≠ k := fun e => hne (by rw [e])
    unfold World.setRow
    simp [Array.getElem?_modify, hne']

theorem set5_heap {w : World} {g : Nat} {t : TypeId} {a0 a1 a2 a3 a4 : Value} (h : w.heap[g]? = some (.cells #[a0, a1, a2, a3, a4] t (0, 0))) (v0 v1 v2 v3 v4 : Value) :
    (((((w.setCell ⟨g, 0, none⟩ v0).setCell ⟨g, 1, none⟩ v1).setCell ⟨g, 2, none⟩ v2).setCell ⟨g, 3, none⟩ v3).setCell ⟨g, 4, none⟩ v4).heap[g]? = some (.cells #[v0, v1, v2, v3, v4] t (0, 0)) := by
  have h0 := heap_setCell_same w g 0 _ _ v0 h
  have h1 := heap_setCell_same _ g 1 _ _ v1 h0
  have h2 := heap_setCell_same _ g 2 _ _ v2 h1
  have h3 := heap_setCell_same _ g 3 _ _ v3 h2
  exact heap_setCell_same _ g 4 _ _ v4 h3
theorem set5_grown (w : World) (g : Nat) (v0 v1 v2 v3 v4 : Value) :
    w.grownBy (((((w.setCell ⟨g, 0, none⟩ v0).setCell ⟨g, 1, none⟩ v1).setCell ⟨g, 2, none⟩ v2).setCell ⟨g, 3, none⟩ v3).setCell ⟨g, 4, none⟩ v4) (some g) :=
  grown_trans (grown_trans (grown_trans (grown_trans (grown_setCell _ _ _) (grown_setCell _ _ _)) (grown_setCell _ _ _)) (grown_setCell _ _ _)) (grown_setCell _ _ _)

theorem step_store_row {ops : Array Oper} {o : Oper} {a : Act} {w : World} {K : Act → World → Prop} {Q : Exit → Act → World → Prop} {E : Prop} (hgd : o.guard = none) (ty : TypeId) (x y : Operand) (ho : o.op = .store ty x y)
    (g : Nat) (cells : Array Value) (hx : a.eval x = .pointer (some ⟨g, 0, none⟩)) (hy : a.eval y = .agg cells)
    (t : TypeId) (old : Array Value) (hg : w.heap[g]? = some (.cells old t (0, 0))) (hi : (Try.prog.info? ty).map (·.size) = some cells.size)
    (hold : old.size = cells.size) (h1 : cells.all (·.oneCell') = true) (h : K (a.put o.dst undef) (w.setRow g cells)) :
    if Region.wanted o (yielded ops a.tmps) = true then Oper.wp Try.prog o a w K Q else E := by
  have hw : Region.wanted o (yielded ops a.tmps) = true := by simp [Region.wanted, hgd]
  rw [if_pos hw]
  exact wp_store_row ty x y ho g cells hx hy t old hg hi hold h1 h

/-- Behind ordered: w0: where it began; the box at Bg. -/
structure GMid (w X : World) (b Bg Bs : Nat) (S : BS) (v : Value) : Prop where
  bat : BAt w b S
  ord : OrdAt w X S Bs (S.terms.length + 1) (ordOf S.prods) v
  box : X.heap[Bg]? = some (.cells #[.slice none 0 0, .slice none 0 0, .slice none 0 0, .int .i64 0, .slice none 0 0] 42 (0, 0))

theorem GMid.kept {w X Y : World} {b Bg Bs : Nat} {S : BS} {v : Value} (h : GMid w X b Bg Bs S v) (hg : X.grownBy Y none) : GMid w Y b Bg Bs S v :=
  ⟨h.bat, h.ord.kept hg, (hg.block Bg (Array.getElem?_eq_some_iff.1 h.box).1 (by simp)).trans h.box⟩
theorem GMid.batX {w X : World} {b Bg Bs : Nat} {S : BS} {v : Value} (h : GMid w X b Bg Bs S v) : BAt X b S := h.bat.kept h.ord.grown

set_option maxRecDepth 100000 in
theorem grammar_short (b : Nat) (S : BS) (w : World) (hB : BAt w b S) (h0 : 0 < S.prods.length) (hs : (ordOf S.prods).length < S.nons.length) :
    Calls Try.prog 20 #[.pointer (some ⟨b, 0, none⟩)] w fun e w' => e = .returned (.tuple #[.agg #[.slice none 0 0, .slice none 0 0, .slice none 0 0, .int .i64 0, .slice none 0 0], .int .i64 1]) ∧ w.grownBy w' none := by
  obtain ⟨w0, hw0⟩ : ∃ w0, w0 = w.alloc (.cells #[.slice none 0 0, .slice none 0 0, .slice none 0 0, .int .i64 0, .slice none 0 0] 42) := ⟨_, rfl⟩
  have hG0 : w.grownBy w0 none := by rw [hw0]; exact World.grownBy_alloc w _ none
  have hbox0 : w0.heap[w.heap.size]? = some (.cells #[.slice none 0 0, .slice none 0 0, .slice none 0 0, .int .i64 0, .slice none 0 0] 42 (0, 0)) := by rw [hw0]; exact heap_alloc_last w _
  have hB0 := hB.kept hG0
  have hc70 : ∃ g c, w0.cell? ⟨b, 70, none⟩ = some (.slice (some ⟨g, 0, none⟩) S.prods.length c) := by
    obtain ⟨g, cap, _, _, hc, _⟩ := hB0.prodsAt h0
    exact ⟨g, cap, hc⟩
  obtain ⟨gp, cp, hc70⟩ := hc70
  have hpb := hB.1.prods
  have hsy := hB.1.syms
  have HORD : Hid (Calls Try.prog 45 #[.pointer (some ⟨b, 0, none⟩)] w0 fun e w' => ∃ Bs a c, e = .returned (.tuple #[.slice (some ⟨Bs, 0, none⟩) (S.nons.length + 1) (S.nons.length + 1), .slice a (ordOf S.prods).length c]) ∧ OrdAt w0 w' S Bs (S.terms.length + 1) (ordOf S.prods) (.slice a (ordOf S.prods).length c)) := ordered_any b S w0 hB0
  have HB0 : Hid (BAt w0 b S) := hB0
  have HBX : Hid (w0.heap[w.heap.size]? = some (.cells #[.slice none 0 0, .slice none 0 0, .slice none 0 0, .int .i64 0, .slice none 0 0] 42 (0, 0))) := hbox0
  have HG0 : Hid (w.grownBy w0 none) := hG0
  have HSH : Hid ((ordOf S.prods).length < S.nons.length) := hs
  obtain ⟨P, hP⟩ : ∃ P, P = S.prods.length := ⟨_, rfl⟩
  rw [← hP] at hc70 h0 hpb
  have hp1 : ((P : Int) == 0) = false := beq_eq_false_iff_ne.2 (by omega)
  clear hB hB0 hG0 hbox0 hs hP
  rw [hw0] at hc70
  go_enter Try.func20, Try.ntmps20
  go_wp2_with fail
  rw [← hw0]
  refine HORD.out.mono ?_
  clear HORD
  rintro e w1 ⟨Bs, a, c, rfl, hO⟩
  have hsz : ∃ a2 c2, w1.cell? ⟨b, 2 + 1, none⟩ = some (.slice a2 S.nons.length c2) := by
    obtain ⟨_, cc, hr, hc⟩ := HB0.out.kept hO.grown
    obtain ⟨a2, cap, hv, _⟩ := hc.nl.form
    exact ⟨a2, cap, by rw [hr.cell 3 (by omega), hv]⟩
  obtain ⟨a2, c2, hsz⟩ := hsz
  have hbx1 : w1.heap[w.heap.size]? = some (.cells #[.slice none 0 0, .slice none 0 0, .slice none 0 0, .int .i64 0, .slice none 0 0] 42 (0, 0)) := (hO.grown.block _ (Array.getElem?_eq_some_iff.1 HBX.out).1 (by simp)).trans HBX.out
  have hG1 : w.grownBy w1 none := grown_trans HG0.out hO.grown
  have HG1 : Hid (w.grownBy w1 none) := hG1
  have HBX1 : Hid (w1.heap[w.heap.size]? = some (.cells #[.slice none 0 0, .slice none 0 0, .slice none 0 0, .int .i64 0, .slice none 0 0] 42 (0, 0))) := hbx1
  have hs := HSH.out
  generalize (ordOf S.prods).length = M at *
  generalize S.nons.length = N at *
  have hd : decide ((M : Int) < (N : Int)) = true := decide_eq_true (by omega)
  have k0 := cell_of_row w1 w.heap.size 0 _ _ _ hbx1
  have k1 := cell_of_row w1 w.heap.size 1 _ _ _ hbx1
  have k2 := cell_of_row w1 w.heap.size 2 _ _ _ hbx1
  have k3 := cell_of_row w1 w.heap.size 3 _ _ _ hbx1
  have k4 := cell_of_row w1 w.heap.size 4 _ _ _ hbx1
  have kf := fun j => frozen_of_row w1 w.heap.size j _ _ hbx1
  simp only [List.getElem?_toArray, List.getElem?_cons_zero, List.getElem?_cons_succ] at k0 k1 k2 k3 k4
  clear hO hbx1 hG1 HG0 HB0 HBX HSH
  go_wp2_with (go_at_call 44; refine (size_any b 2 N c2 a2 w1 hsz).mono ?_; rintro e wq ⟨rfl, rfl⟩)
  refine bodyPost_ret (v := .tuple #[.agg #[.slice none 0 0, .slice none 0 0, .slice none 0 0, .int .i64 0, .slice none 0 0], .int .i64 1]) ?_ rfl ?_
  · exact results_gram _ _ w.heap.size _ _ rfl rfl (set5_heap HBX1.out _ _ _ _ _) rfl
  · exact ⟨rfl, grown_new HG1.out (set5_grown _ _ _ _ _ _ _) (Nat.le_refl _)⟩

end Go.Proofs.Ytkbpnafahimeiaa
