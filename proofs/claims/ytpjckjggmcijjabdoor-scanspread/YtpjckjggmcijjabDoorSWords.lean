/-
  Words of a text.
-/
import Derived.Test.YtpjckjggmcijjabDoorSRange
import Derived.Maps.AppendAt
import Derived.Deep.AppendLies
namespace Go.Proofs.YtpjckjggmcijjabDoor
open Go.RowKit Go.Shelf

attribute [local go_sem] Oper.semAt_some

theorem infoMishap : (Tryd.prog.info? 30).map (·.size) = some 3 := by kernel_rfl
theorem results_words (tmps : Array Value) (w : World) (g : Nat) (v : Value) (cs : Array Value) (h2 : tmps.getD 2 undef = v) (h3 : tmps.getD 3 undef = .pointer (some ⟨g, 0, none⟩)) (hg : w.heap[g]? = some (.cells cs 30 (0, 0))) (hs : cs.size = 3) :
    (results Tryd.f10 tmps).run Tryd.prog w = .ok (.tuple #[v, .agg cs]) w := by
  have h2' : tmps[2]?.getD undef = v := by simpa using h2
  have h3' : tmps[3]?.getD undef = .pointer (some ⟨g, 0, none⟩) := by simpa using h3
  have hl := run_loadVar_row (P := Tryd.prog) w g 30 30 cs (0, 0) _ hg Tryd.underlying30 rfl (by rw [infoMishap, hs])
  simp [results, Tryd.results10, h2', h3', asAddr, hl]

def mishapV (c p : Int) : Value := .agg #[.int .i64 c, .int .i64 p, .slice none 0 0]

set_option maxRecDepth 100000 in
theorem words_long (s : ByteArray) (w : World) (h : 8192 < s.size) : Calls Tryd.prog 10 #[.string s] w fun e w' => e = .returned (.tuple #[.slice none 0 0, mishapV 10 8192]) ∧ w.grownBy w' none := by
  have hd : decide (8192 < (s.size : Int)) = true := decide_eq_true (by omega)
  go_enter Tryd.func10, Tryd.ntmps10
  go_wp2_with fail
  refine bodyPost_ret (v := .tuple #[.slice none 0 0, mishapV 10 8192]) (results_words _ _ w.heap.size _ _ rfl rfl (heap_alloc_new w _) rfl) rfl ?_
  exact ⟨rfl, World.grownBy_alloc _ _ none⟩

def elL (x : El) : List Value := [.int .i64 x.1, .string x.2.1, .int .i64 x.2.2]
theorem infoWd : (Tryd.prog.info? 36).map (fun i => (i.zero, i.size, i.bytes)) = some (some (.agg #[.int .i64 0, .string ⟨#[]⟩, .int .i64 0]), 3, 32) := by kernel_rfl

/-- What holds while Words goes on: w: where it began. -/
structure WI (w W : World) (pre : List El) : Prop where
  grown : w.grownBy W none
  res : W.heap[w.heap.size]? = some (.cells #[.int .i64 0, .int .i64 0, .slice none 0 0] 30 (0, 0))
  var : ∃ v, Boxed W (w.heap.size + 2) 26 v ∧ W.ownsRow (w.heap.size + 2) 36 3 v pre.length (pre.flatMap elL)

theorem WI.turn {w A B : World} {pre : List El} {row : Option Nat} (h : WI w A pre) (hg : A.grownBy B row) (hr : ∀ k, row = some k → k = w.heap.size + 1 ∨ (w.heap.size + 3 ≤ k ∧ ∃ o, A.heap[k]? = some o ∧ o.isCells = false)) : WI w B pre := by
  have hlo : ∀ k, row = some k → w.heap.size < k ∧ k ≠ w.heap.size + 2 := fun k hk => by
    rcases hr k hk with h | h <;> omega
  obtain ⟨v, hv, ho⟩ := h.var
  refine ⟨⟨hg.os.trans h.grown.os, hg.tape.trans h.grown.tape, hg.output.trans h.grown.output, Nat.le_trans h.grown.size hg.size, fun i hi _ => (hg.block i (Nat.lt_of_lt_of_le hi h.grown.size) (fun e => by have := (hlo i e.symm).1; omega)).trans (h.grown.block i hi (by simp))⟩, ?_, v, ?_, ?_⟩
  · exact (hg.block _ (Array.getElem?_eq_some_iff.1 h.res).1 (fun e => by have := (hlo _ e.symm).1; omega)).trans h.res
  · exact hv.kept hg (fun e => by have := (hlo _ e.symm).2; omega)
  · refine ho.kept hg ?_
    rcases ho.2 with ⟨rfl, _⟩ | ⟨g, cap, cur, rfl, hge, hgb, _⟩
    · exact .inl rfl
    · right
      intro e
      have e' : row = some g := e.symm
      rcases hr g e' with h1 | ⟨_, o, h2, h3⟩
      · omega
      · rw [hgb] at h2; cases h2; cases h3
theorem WI.alloc {w A : World} {pre : List El} (h : WI w A pre) (o : Obj) : WI w (A.alloc o) pre := h.turn (World.grownBy_alloc A o none) (fun k e => by cases e)
theorem book_grown {B : Nat} {A A' : World} (h : Book B A A') : ∃ l, A.grownBy A' (some l) ∧ B ≤ l ∧ ∃ o, A.heap[l]? = some o ∧ o.isCells = false := by
  obtain ⟨l, o, o', hl, ho, hc, rfl⟩ := h
  exact ⟨l, grownBy_putObj' A l o', hl, o, ho, hc⟩
theorem Kept.refl (r : Nat) (A : World) : Kept r A A := ⟨Nat.le_refl _, rfl, id⟩
theorem Kept.trans {r : Nat} {A B C : World} (h : Kept r A B) (k : Kept r B C) : Kept r A C := ⟨Nat.le_trans h.size k.size, k.rd.trans h.rd, fun x => k.ord (h.ord x)⟩
theorem Kept.grown {r : Nat} {A B : World} {row : Option Nat} (hg : A.grownBy B row) (hr : r < A.heap.size) (h1 : some r ≠ row) (h2 : some 0 ≠ row) : Kept r A B := ⟨hg.size, hg.block r hr h1, fun h j hj => hg.cell (h j hj) (by simpa using h2)⟩

theorem owns_form {W : World} {B e z n : Nat} {v : Value} {xs : List Value} (h : W.ownsRow B e z v n xs) : ∃ a c, v = .slice a n c := by
  rcases h.2 with ⟨rfl, h0⟩ | ⟨g, cap, cur, rfl, _⟩
  · exact ⟨none, 0, by rw [h0]⟩
  · exact ⟨_, _, rfl⟩
theorem owns_lower {w : World} {B B' e s n : Nat} {v : Value} {xs : List Value} (h : w.ownsRow B e s v n xs) (hle : B' ≤ B) : w.ownsRow B' e s v n xs := by
  refine ⟨h.1, ?_⟩
  rcases h.2 with h1 | ⟨g, cap, cur, hv, hge, r⟩
  · exact .inl h1
  · exact .inr ⟨g, cap, cur, hv, Nat.le_trans hle hge, r⟩

/-- Behind the end: the result's cells laid, the mark taken. -/
theorem WI.out {w W : World} {pre : List El} {D : Nat} (h : WI w W pre) (hD : W.heap[D]? = some (.deferred (some []))) (hlo : w.heap.size + 3 ≤ D) (a b c : Value) (q : Nat) :
    ((((W.setCell ⟨w.heap.size, 0, none⟩ a).setCell ⟨w.heap.size, 1, none⟩ b).setCell ⟨w.heap.size, 2, none⟩ c).drewN q).heap[D]? = some (.deferred (some [])) ∧
    (((((W.setCell ⟨w.heap.size, 0, none⟩ a).setCell ⟨w.heap.size, 1, none⟩ b).setCell ⟨w.heap.size, 2, none⟩ c).drewN q).putObj D (.deferred none)).heap[w.heap.size]? = some (.cells #[a, b, c] 30 (0, 0)) ∧
    w.grownBy (((((W.setCell ⟨w.heap.size, 0, none⟩ a).setCell ⟨w.heap.size, 1, none⟩ b).setCell ⟨w.heap.size, 2, none⟩ c).drewN q).putObj D (.deferred none)) none ∧
    ∃ v, Boxed W (w.heap.size + 2) 26 v ∧ (((((W.setCell ⟨w.heap.size, 0, none⟩ a).setCell ⟨w.heap.size, 1, none⟩ b).setCell ⟨w.heap.size, 2, none⟩ c).drewN q).putObj D (.deferred none)).ownsRow w.heap.size 36 3 v pre.length (pre.flatMap elL) := by
  obtain ⟨v, hv, ho⟩ := h.var
  have hs := set3_heap (a := a) (b := b) (c := c) h.res
  have hg : W.grownBy (((W.setCell ⟨w.heap.size, 0, none⟩ a).setCell ⟨w.heap.size, 1, none⟩ b).setCell ⟨w.heap.size, 2, none⟩ c) (some w.heap.size) := grown_trans (grown_trans (grown_setCell _ _ _) (grown_setCell _ _ _)) (grown_setCell _ _ _)
  have hrw : (((W.setCell ⟨w.heap.size, 0, none⟩ a).setCell ⟨w.heap.size, 1, none⟩ b).setCell ⟨w.heap.size, 2, none⟩ c).ownsRow (w.heap.size + 2) 36 3 v pre.length (pre.flatMap elL) := by
    refine ho.kept hg ?_
    rcases ho.2 with ⟨rfl, _⟩ | ⟨g, cap, cur, rfl, hge, _⟩
    · exact .inl rfl
    · right
      intro e
      have e' : some g = some w.heap.size := e
      simp at e'
      omega
  generalize ((W.setCell ⟨w.heap.size, 0, none⟩ a).setCell ⟨w.heap.size, 1, none⟩ b).setCell ⟨w.heap.size, 2, none⟩ c = F at *
  have hD1 : F.heap[D]? = some (.deferred (some [])) := (hg.block D (Array.getElem?_eq_some_iff.1 hD).1 (by simp; omega)).trans hD
  have hD2 : (F.drewN q).heap[D]? = some (.deferred (some [])) := hD1
  have hp := grownBy_putObj' (F.drewN q) D (.deferred none)
  refine ⟨hD2, (World.putObj_heap_other (by omega)).trans hs, ?_, v, hv, owns_lower ((hrw.kept (grown_drewN F q) (by cases hx : v.ownBlock <;> simp)).kept hp ?_) (by omega)⟩
  · exact grown_new (grown_new h.grown (grown_trans hg (grown_but _ (grown_drewN F q))) (Nat.le_refl _)) hp (by omega)
  · rcases hrw.2 with ⟨rfl, _⟩ | ⟨g, cap, cur, rfl, hge, hgb, _⟩
    · exact .inl rfl
    · right
      intro e
      have e' : some g = some D := e
      cases e'
      rw [hgb] at hD1
      cases hD1

set_option maxRecDepth 100000 in
set_option maxHeartbeats 1000000 in
theorem words_short (s : ByteArray) (w : World) (h : s.size ≤ 8192) (hO : Ords w) (ws : List El) (en : Option Nat) (hws : scan s = (ws, en)) : CallsIn Fence.wide 3 Tryd.prog 10 #[.string s] w fun e w' =>
    (en = none → ∃ a c, e = .returned (.tuple #[.slice a ws.length c, mishapV 0 0]) ∧ w'.ownsRow w.heap.size 36 3 (.slice a ws.length c) ws.length (ws.flatMap elL)) ∧ (∀ p, en = some p → e = .returned (.tuple #[.slice none 0 0, mishapV 10 p])) ∧ w.grownBy w' none := by
  have hd : decide (8192 < (s.size : Int)) = false := decide_eq_false (by omega)
  have HWS : Hid (scan s = (ws, en)) := hws
  have HO : Hid (Ords w) := hO
  have hmf : ∀ (fn : Fn) (first cap : Array Value) (w : World), (Instr.makeFunc fn first cap).run Tryd.prog w = .ok (.func fn first cap) w := fun _ _ _ _ => rfl
  clear hws hO
  refine callsIn_of_wp_marks Tryd.func10 rfl trivial ?_ rfl
  simp only [Tryd.ntmps10, List.size_toArray, List.length_cons, List.length_nil, Nat.reduceAdd, Nat.reduceSub, Array.replicate_succ, Array.replicate_zero, List.push_toArray, List.append_toArray, List.nil_append, List.cons_append]
  gi_wp2
  obtain ⟨X, hX⟩ : ∃ X, ((w.alloc (.cells #[.int .i64 0, .int .i64 0, .slice none 0 0] 30)).alloc (.cells #[.string s, .int .i64 0, .bool false] 55)).alloc (.cells #[.slice none 0 0] 26) = X := ⟨_, rfl⟩
  have hXs : X.heap.size = w.heap.size + 3 := by rw [← hX, World.size_alloc, World.size_alloc, World.size_alloc]
  have HI : Hid (WI w X []) := by
    have b1 := heap_alloc_new w (.cells #[.int .i64 0, .int .i64 0, .slice none 0 0] 30)
    refine ⟨by rw [← hX]; exact grown_trans (grown_trans (World.grownBy_alloc _ _ none) (World.grownBy_alloc _ _ none)) (World.grownBy_alloc _ _ none), ?_, .slice none 0 0, ?_, World.ownsRow_nil _ _ _ _⟩
    · rw [← hX]
      have b2 := ((World.grownBy_alloc (w.alloc (.cells #[.int .i64 0, .int .i64 0, .slice none 0 0] 30)) (.cells #[.string s, .int .i64 0, .bool false] 55) none).block _ (Array.getElem?_eq_some_iff.1 b1).1 (by simp)).trans b1
      exact ((World.grownBy_alloc _ _ none).block _ (Array.getElem?_eq_some_iff.1 b2).1 (by simp)).trans b2
    · rw [← hX]
      have b3 := heap_alloc_new ((w.alloc (.cells #[.int .i64 0, .int .i64 0, .slice none 0 0] 30)).alloc (.cells #[.string s, .int .i64 0, .bool false] 55)) (.cells #[.slice none 0 0] 26)
      rw [World.size_alloc, World.size_alloc] at b3
      exact b3
  have HR : Hid (RAt X (w.heap.size + 1) s 0 false) := by
    rw [← hX]
    have b1 := heap_alloc_new (w.alloc (.cells #[.int .i64 0, .int .i64 0, .slice none 0 0] 30)) (.cells #[.string s, .int .i64 0, .bool false] 55)
    rw [World.size_alloc] at b1
    exact ((World.grownBy_alloc _ _ none).block _ (Array.getElem?_eq_some_iff.1 b1).1 (by simp)).trans b1
  have HOX : Hid (Ords X) := HO.out.grown0 HI.out.grown
  have hw0 : 0 < w.heap.size := World.block_lt_of_cell? w _ (HO.out 0 (by decide))
  rw [hX]
  clear hX
  obtain ⟨i0, hi, hz0, hz1, hz2⟩ := info_parts infoWd
  have HLEN : Hid (ws.length ≤ 8192) := by have := scan_len s; rw [HWS.out] at this; show ws.length ≤ 8192; exact Nat.le_trans this h
  refine range_law (α := El) 22 (fun l => #[.pointer (some ⟨w.heap.size + 1, 0, none⟩), .func (.yield l) #[] #[]]) ?hres (fun x => #[elV x]) (fun _ => rfl) (fun A B => A.grownBy B (some (w.heap.size + 1))) (Kept (w.heap.size + 1)) (fun xs => xs <+: ws) (fun xs W => xs = ws ∧ RAt W (w.heap.size + 1) s (endAt s en) en.isSome) (fun pre W => WI w W pre) (fun _ _ _ => False) ?hbook ?hnew ?hKt ?hmI ?hmX ?hmS ?hit HI.out ?hround ?hdone ?hstop
  case hres =>
    intro l W
    refine ⟨{ target := .fn (.func 22) #[], args := #[.pointer (some ⟨w.heap.size + 1, 0, none⟩), .func (.yield l) #[] #[]] }, by simp only [resolve]; simp [go_sem], by simp [invoke, go_sem]⟩
  case hbook =>
    intro A B hb
    obtain ⟨l, hg, hl, o, ho, hc⟩ := book_grown hb
    rw [hXs] at hl
    refine ⟨fun pre hI => hI.turn hg (fun k e => by cases e; exact .inr ⟨hl, o, ho, hc⟩), fun _ _ h => h.elim, fun xs hS => ⟨hS.1, (hg.block _ hS.2.lt (by simp; omega)).trans hS.2⟩, ?_⟩
    refine ⟨hg.size, ?_, fun h j hj => hg.cell (h j hj) (by simp; omega)⟩
    by_cases hlt : w.heap.size + 1 < A.heap.size
    · exact hg.block _ hlt (by simp; omega)
    · have := (Array.getElem?_eq_some_iff.1 ho).1; omega
  case hnew => exact fun o A pre hI => hI.alloc o
  case hKt => exact fun h k => h.trans k
  case hmI => exact fun pre A B hI hg => hI.turn hg (fun k e => by cases e; exact .inl rfl)
  case hmX => exact fun _ _ _ _ h _ => h
  case hmS => exact fun A B hg k o h1 h2 ho hc => (hg.block k (Array.getElem?_eq_some_iff.1 ho).1 (by simp; omega)).trans ho
  case hit =>
    intro J Jx W hg hsz hJ hJx hY h0
    refine (words_in 2 (X.heap.size + 1) (w.heap.size + 1) (by decide) s (by omega) ws en HWS.out J Jx hJ hY W (HR.out.kept hg) (HOX.out.grown0 hg) (by omega) h0).mono ?_
    rintro e W' ⟨hv, (⟨h1, h2⟩ | ⟨pre, _, h2⟩)⟩
    · exact ⟨hv, .inl ⟨ws, ⟨rfl, h2⟩, h1⟩⟩
    · exact ⟨hv, .inr ⟨pre, h2⟩⟩
  case hround =>
    intro pre x W hI hok
    have HII : Hid (WI w W pre) := hI
    have hlen : (pre ++ [x]).length ≤ 8192 := Nat.le_trans hok.length_le HLEN.out
    clear hI
    unfold elV
    gi_wp2
    refine ⟨⟨(World.grownBy_alloc W (.cells (elL x).toArray 36) none).size, fun k o _ hk _ => ((World.grownBy_alloc W (.cells (elL x).toArray 36) none).block k (Array.getElem?_eq_some_iff.1 hk).1 (by simp)).trans hk⟩, Kept.grown (World.grownBy_alloc W (.cells (elL x).toArray 36) none) (by have := HII.out.var; obtain ⟨v, hv, _⟩ := this; have := hv.lt; omega) (by simp) (by simp), HII.out.alloc _, ?_⟩
    intro W2 hb hI2
    have hbx : W2.heap[W.heap.size]? = some (.cells #[.int .i64 x.1, .string x.2.1, .int .i64 x.2.2] 36 (0, 0)) := by
      have b1 := heap_alloc_new W (.cells #[.int .i64 x.1, .string x.2.1, .int .i64 x.2.2] 36)
      obtain ⟨l, hg, hl, o, ho, hc⟩ := book_grown hb
      refine (hg.block _ (Array.getElem?_eq_some_iff.1 b1).1 (fun e => ?_)).trans b1
      cases e
      rw [b1] at ho; cases ho; cases hc
    obtain ⟨x0, x1, x2⟩ := three_cells hbx
    have HI2 : Hid (WI w W2 pre) := hI2
    have hs2 := hI2.grown.size
    obtain ⟨v, hv, hrow⟩ := hI2.var
    have hvl := hv.lt
    have hc := hv.cell
    clear HII hb hI2 hbx
    gi_wp2_with (gi_at_builtin; refine wpListIn_append_own _ rfl _ _ 26 rfl (w.heap.size + 2) 36 i0 _ 3 32 Tryd.underlying26 hi hz0 hz1 hz2 rfl (by decide) _ _ _ rfl (hrow.alloc _) ⟨W2.heap.size, 0, none⟩ 1 1 (elL x) rfl rfl (fun j u hu => World.news_of_block (heap_alloc_new W2 _) j u hu) (by simp [elL, Value.oneCell']) (by simp at hlen; unfold maxLen; omega) (by simp at hlen; omega) (by simp; omega) ?_; intro v' w1 hown' hgrow _; obtain ⟨g', cap', rfl⟩ := ownsRow_succ hown'; obtain ⟨hv1, hv2, hr2, hk2, hb2⟩ := hv.appended (by decide) hrow (by omega) (Nat.le_refl _) hown' hgrow; have hc1 := hv1.cell; have hf1 := hv1.frozen)
    refine ⟨⟨hk2.size, fun k o _ h1 h2 => hk2.same k o h1 h2⟩, ⟨hb2.size, hb2.block _ (by omega), fun h j hj => (hb2.cell (p := ⟨0, j, none⟩) (by show 0 < w.heap.size + 2; omega)).trans (h j hj)⟩, ?_⟩
    refine ⟨⟨hb2.os.trans HI2.out.grown.os, hb2.tape.trans HI2.out.grown.tape, hb2.output.trans HI2.out.grown.output, Nat.le_trans HI2.out.grown.size hb2.size, fun i hi _ => (hb2.block i (by omega)).trans (HI2.out.grown.block i hi (by simp))⟩, (hb2.block _ (by omega)).trans HI2.out.res, _, hv2, ?_⟩
    simpa using hr2
  case hdone =>
    rintro xs W ⟨hxs, hRW⟩ hI hD
    subst hxs
    obtain ⟨c0, c1, c2⟩ := hRW.cells
    obtain ⟨v, hv, hrow⟩ := hI.var
    have hcv := hv.cell
    have HII : Hid (WI w W xs) := hI
    have HD : Hid (W.heap[X.heap.size]? = some (.deferred (some []))) := hD
    obtain ⟨m0, m1, m2⟩ := three_cells hI.res
    have fm := fun j => frozen_of_row W _ j _ _ hI.res
    have HRES : Hid (W.heap[w.heap.size]? = some (.cells #[.int .i64 0, .int .i64 0, .slice none 0 0] 30 (0, 0))) := hI.res
    have HROW : Hid (W.ownsRow (w.heap.size + 2) 36 3 v xs.length (xs.flatMap elL)) := hrow
    clear hI hD hRW hv hrow
    cases en with
    | none =>
      gi_wp2
      obtain ⟨k1, k2, k3, u, hu, k4⟩ := HII.out.out HD.out (by omega) (.int .i64 0) (.int .i64 0) (.slice none 0 0) 0
      have hvu : v = u := by
        have e := hcv.symm.trans hu.cell
        exact Option.some.inj e
      subst hvu
      obtain ⟨a, c, rfl⟩ := owns_form k4
      rw [hXs] at k1 k2 k3 k4
      refine ⟨by simp, .inl ⟨_, _, rfl, run_takeDeferred k1, ?_⟩⟩
      exact ⟨_, results_words _ _ w.heap.size _ _ rfl rfl k2 rfl, ⟨a, c, rfl, k4⟩, k3⟩
    | some p =>
      gi_wp2
      gi_region
      gi_wp2
      obtain ⟨k1, k2, k3, u, hu, k4⟩ := HII.out.out HD.out (by omega) (.int .i64 10) (.int .i64 (endAt s (some p))) (.slice none 0 0) 1
      refine ⟨by simp, .inl ⟨_, _, rfl, run_takeDeferred k1, ?_⟩⟩
      exact ⟨_, results_words _ _ w.heap.size _ _ rfl rfl k2 rfl, fun h => (by cases h), fun q hq => (by cases hq; rfl), k3⟩
  case hstop => exact fun _ _ _ h _ => h.elim

end Go.Proofs.YtpjckjggmcijjabDoor
