/-
  ordered of a builder, walked.
-/
import Derived.Test.YtkbpnafahimeiaaTerms
import Derived.Laws.CopyOwn
namespace Go.Proofs.Ytkbpnafahimeiaa
open Go.RowKit Go.Maps Go.Shelf

attribute [local go_sem] Oper.semAt_some

/-! ### Productions in memory, one by one -/
theorem flat_at : ∀ (ps : List PR) (rs : List Value) (k : Nat), rs.length = ps.length → k < ps.length → ∀ i, i < 3 → ((ps.zip rs).flatMap fun x => prL x.1 x.2)[k * 3 + i]? = (prL (ps.getD k ⟨0, [], 0⟩) (rs.getD k undef))[i]?
  | [], _, k, _, hk, _, _ => by simp at hk
  | p :: ps, [], k, h, _, _, _ => by simp at h
  | p :: ps, r :: rs, 0, h, _, i, hi => by
    simp only [List.zip_cons_cons, List.flatMap_cons, Nat.zero_mul, Nat.zero_add]
    rw [List.getElem?_append_left (by simp [prL]; omega)]
    rfl
  | p :: ps, r :: rs, k + 1, h, hk, i, hi => by
    simp only [List.zip_cons_cons, List.flatMap_cons]
    rw [List.getElem?_append_right (by simp [prL]; omega)]
    have e : (k + 1) * 3 + i - (prL p r).length = k * 3 + i := by simp [prL]; omega
    rw [e, flat_at ps rs k (by simpa using h) (by simpa using hk) i hi]
    rfl

/-- The productions of a slice lie where it leads to. -/
structure ProdAt (w : World) (g k : Nat) (p : PR) (a : Option Addr) (c : Nat) : Prop where
  left : w.cell? ⟨g, k * 3, none⟩ = some (.int .i64 p.left)
  right : w.cell? ⟨g, k * 3 + 1, none⟩ = some (.slice a p.right.length c)
  level : w.cell? ⟨g, k * 3 + 2, none⟩ = some (.int .i64 p.level)
  ints : IntsIn w (.slice a p.right.length c) p.right

theorem ProdsIn.at {w : World} {v : Value} {ps : List PR} (h : ProdsIn w v ps) (hl : 0 < ps.length) : ∃ g cap, v = .slice (some ⟨g, 0, none⟩) ps.length cap ∧ ∀ k, k < ps.length → ∃ a c, ProdAt w g k (ps.getD k ⟨0, [], 0⟩) a c := by
  obtain ⟨rs, h1, h2, h3⟩ := h
  have h2' := h2
  rcases h2.2 with ⟨rfl, hn⟩ | ⟨g, cap, cur, rfl, _, hg, hle, _⟩
  · omega
  · refine ⟨g, cap, rfl, fun k hk => ?_⟩
    have hI := h3 k hk
    obtain ⟨a, c, hv, _⟩ := hI.at
    have cell : ∀ i, i < 3 → ∀ u, (prL (ps.getD k ⟨0, [], 0⟩) (rs.getD k undef))[i]? = some u → w.cell? ⟨g, k * 3 + i, none⟩ = some u := fun i hi u hu => by
      have := World.ownsRow.cells h2' (g := g) rfl (k * 3 + i) u (by rw [flat_at ps rs k h1 hk i hi]; exact hu)
      rw [Addr.add_mid, Nat.zero_add] at this
      exact this
    rw [hv] at hI cell
    exact ⟨a, c, cell 0 (by omega) _ rfl, cell 1 (by omega) _ rfl, cell 2 (by omega) _ rfl, hI⟩

theorem ProdAt.kept {w w' : World} {g k c : Nat} {p : PR} {a : Option Addr} (h : ProdAt w g k p a c) (hg : w.grownBy w' none) : ProdAt w' g k p a c :=
  ⟨hg.cell h.left (by simp), hg.cell h.right (by simp), hg.cell h.level (by simp), h.ints.kept hg (Apart.none _)⟩

/-! ### The order -/
def ordStep (out : List Nat) (p : PR) : List Nat := if (-p.left).toNat ∈ out then out else out ++ [(-p.left).toNat]
def ordOf (ps : List PR) : List Nat := ps.foldl ordStep []
def symOf (f : Nat) (out : List Nat) (i : Nat) : Int := if i ∈ out then (f : Int) + (out.idxOf i : Int) else 0

theorem ordOf_succ (ps : List PR) (k : Nat) (hk : k < ps.length) : ordOf (ps.take (k + 1)) = ordStep (ordOf (ps.take k)) (ps.getD k ⟨0, [], 0⟩) := by
  unfold ordOf
  rw [List.take_succ_eq_append_getElem hk, List.foldl_append]
  simp [List.getD, hk]

theorem symOf_snoc_same (f : Nat) {out : List Nat} {i : Nat} (h : i ∉ out) : symOf f (out ++ [i]) i = (f : Int) + out.length := by
  unfold symOf
  rw [if_pos (by simp), List.idxOf_append, if_neg h]
  simp
theorem symOf_snoc_other (f : Nat) {out : List Nat} {i j : Nat} (h : j ≠ i) : symOf f (out ++ [i]) j = symOf f out j := by
  unfold symOf
  by_cases hj : j ∈ out
  · rw [if_pos (by simp [hj]), if_pos hj, List.idxOf_append, if_pos hj]
  · rw [if_neg (by simp [hj, h]), if_neg hj]

def symL (f : Nat) (out : List Nat) (n : Nat) : List Value := (List.range n).map fun i => .int .i64 (symOf f out i)
def outL (S : BS) (out : List Nat) : List Value := out.map fun i => .string (S.nons.getD (i - 1) ⟨#[]⟩)

theorem symL_length (f : Nat) (out : List Nat) (n : Nat) : (symL f out n).length = n := by simp [symL]
theorem symL_at (f : Nat) (out : List Nat) (n i : Nat) (h : i < n) : (symL f out n)[i]? = some (.int .i64 (symOf f out i)) := by simp [symL, h]
theorem symL_set (f : Nat) (out : List Nat) (n i : Nat) (h : i < n) (hi : i ∉ out) : (symL f out n).set i (.int .i64 ((f : Int) + out.length)) = symL f (out ++ [i]) n := by
  apply List.ext_getElem?
  intro k
  rw [List.getElem?_set]
  by_cases hk : k < n
  · by_cases e : i = k
    · subst e; rw [if_pos rfl, if_pos (by rw [symL_length]; exact hk), symL_at _ _ _ _ hk, symOf_snoc_same f hi]
    · rw [if_neg e, symL_at _ _ _ _ hk, symL_at _ _ _ _ hk, symOf_snoc_other f (Ne.symm e)]
  · rw [if_neg (by omega)]
    simp [symL, hk]
theorem symL_nil (f n : Nat) : symL f [] n = List.replicate n (.int .i64 0) := by
  apply List.ext_getElem?
  intro k
  by_cases hk : k < n
  · rw [symL_at _ _ _ _ hk]; simp [hk, symOf]
  · simp [symL, hk]

theorem ord_props {S : BS} (h : S.OK) : ∀ k, k ≤ S.prods.length → (ordOf (S.prods.take k)).Nodup ∧ (∀ i ∈ ordOf (S.prods.take k), 1 ≤ i ∧ i ≤ S.nons.length)
  | 0, _ => by simp [ordOf]
  | k + 1, hk => by
    obtain ⟨h1, h2⟩ := ord_props h k (by omega)
    rw [ordOf_succ _ _ (by omega)]
    unfold ordStep
    split
    · exact ⟨h1, h2⟩
    · next hn =>
      have hp : S.prods.getD k ⟨0, [], 0⟩ ∈ S.prods := by
        have : S.prods.getD k ⟨0, [], 0⟩ = S.prods[k] := by simp [List.getD, show k < S.prods.length by omega]
        rw [this]; exact List.getElem_mem _
      have := h.pl _ hp
      generalize S.prods.getD k ⟨0, [], 0⟩ = q at *
      refine ⟨List.nodup_append.2 ⟨h1, by simp, fun a ha b hb => by simp at hb; subst hb; exact fun e => hn (e ▸ ha)⟩, fun i hi => ?_⟩
      rcases List.mem_append.1 hi with hi | hi
      · exact h2 i hi
      · simp at hi; subst hi; omega

theorem nodup_le : ∀ (n : Nat) (l : List Nat), l.Nodup → (∀ i ∈ l, 1 ≤ i ∧ i ≤ n) → l.length ≤ n
  | 0, l, _, hb => by
    cases l with
    | nil => simp
    | cons a l => have := hb a (by simp); omega
  | n + 1, l, hnd, hb => by
    by_cases hm : n + 1 ∈ l
    · have h1 := nodup_le n (l.erase (n + 1)) (hnd.erase _) (fun i hi => by
        have h2 := (hnd.mem_erase_iff).1 hi
        have h3 := hb i h2.2
        have h4 : i ≠ n + 1 := h2.1
        omega)
      rw [List.length_erase_of_mem hm] at h1
      omega
    · have h1 := nodup_le n l hnd (fun i hi => by
        have h3 := hb i hi
        have h4 : i ≠ n + 1 := fun e => hm (e ▸ hi)
        omega)
      omega

end Go.Proofs.Ytkbpnafahimeiaa

namespace Go.Proofs.Ytkbpnafahimeiaa
open Go.RowKit Go.Maps Go.Shelf

attribute [local go_sem] Oper.semAt_some

theorem made_ints {w w1 : World} {B n : Nat} (h : w1.ownsRow B 3 1 (.slice (some ⟨w.heap.size, 0, none⟩) n n) n (madeCells (Value.int .i64 0).cells (n * 1)).toList) :
    w1.heap[w.heap.size]? = some (.cells (List.replicate n (Value.int .i64 0)).toArray 3 (0, 0)) := by
  rcases h.2 with ⟨h', _⟩ | ⟨g, cap, cur, hv, _, hh, _, _, hs, ht⟩
  · cases h'
  · simp only [Value.slice.injEq, Option.some.injEq, Addr.mk.injEq, and_true, true_and] at hv
    obtain ⟨rfl, rfl⟩ := hv
    have e : cur = (List.replicate n (Value.int .i64 0)).toArray := by
      apply Array.ext'
      rw [show cur.toList = cur.toList.take (n * 1) by rw [List.take_of_length_le (by simp; omega)], ht]
      rw [show (Value.int .i64 0).cells = #[.int .i64 0] from rfl, toList_madeCells_one, Nat.mul_one]
    rw [hh, e]

/-- What holds while the productions are gone through: Bs: the symbols' block. -/
structure OrdAt (w wr : World) (S : BS) (Bs f : Nat) (out : List Nat) (v : Value) : Prop where
  syms : wr.heap[Bs]? = some (.cells (symL f out (S.nons.length + 1)).toArray 3 (0, 0))
  outs : wr.ownsRow (Bs + 1) 9 1 v out.length (outL S out)
  lo : w.heap.size ≤ Bs
  grown : w.grownBy wr none

theorem OrdAt.lt {w wr : World} {S : BS} {Bs f : Nat} {out : List Nat} {v : Value} (h : OrdAt w wr S Bs f out v) : Bs < wr.heap.size := (Array.getElem?_eq_some_iff.1 h.syms).1
theorem OrdAt.cell {w wr : World} {S : BS} {Bs f : Nat} {out : List Nat} {v : Value} (h : OrdAt w wr S Bs f out v) (i : Nat) (hi : i ≤ S.nons.length) : wr.cell? ⟨Bs, i, none⟩ = some (.int .i64 (symOf f out i)) := by
  rw [cell_of_row _ _ _ _ _ _ h.syms]
  simpa using symL_at f out (S.nons.length + 1) i (by omega)
theorem OrdAt.kept {w wr wx : World} {S : BS} {Bs f : Nat} {out : List Nat} {v : Value} (h : OrdAt w wr S Bs f out v) (hg : wr.grownBy wx none) : OrdAt w wx S Bs f out v :=
  ⟨(hg.block Bs h.lt (by simp)).trans h.syms, h.outs.kept hg (by cases hv : v.ownBlock <;> simp), h.lo, grown_trans h.grown hg⟩

theorem OrdAt.store {w wr : World} {S : BS} {Bs f j : Nat} {out : List Nat} {v : Value} (h : OrdAt w wr S Bs f out v) (hj : j ≤ S.nons.length) (hm : j ∉ out) :
    (wr.setCell ⟨Bs, j, none⟩ (.int .i64 ((f : Int) + out.length))).heap[Bs]? = some (.cells (symL f (out ++ [j]) (S.nons.length + 1)).toArray 3 (0, 0)) := by
  rw [heap_setCell_same wr Bs j _ _ _ h.syms, ← symL_set f out (S.nons.length + 1) j (by omega) hm]
  simp

/-- Behind the store of a symbol, ahead of the name's append. -/
structure OrdMid (w X : World) (S : BS) (Bs f j : Nat) (out : List Nat) (v : Value) (b Bp : Nat) : Prop where
  syms : X.heap[Bs]? = some (.cells (symL f (out ++ [j]) (S.nons.length + 1)).toArray 3 (0, 0))
  outs : X.ownsRow (Bs + 1) 9 1 v out.length (outL S out)
  lo : w.heap.size ≤ Bs
  grown : w.grownBy X none
  bat : BAt X b S
  left : X.cell? ⟨Bp, 0, none⟩ = some (.int .i64 (-(j : Int)))

theorem OrdMid.drew {w X : World} {S : BS} {Bs f j : Nat} {out : List Nat} {v : Value} {b Bp : Nat} (h : OrdMid w X S Bs f j out v b Bp) : OrdMid w X.drew S Bs f j out v b Bp :=
  ⟨h.syms, h.outs, h.lo, grown_trans h.grown (grown_drewN X 1), h.bat.kept (grown_drewN X 1), h.left⟩

theorem OrdAt.mid {w wr : World} {S : BS} {Bs f j : Nat} {out : List Nat} {v v1 v2 : Value} {b : Nat} (h : OrdAt w wr S Bs f out v) (hj : j ≤ S.nons.length) (hm : j ∉ out) (hB : BAt w b S) :
    OrdMid w ((wr.alloc (.cells #[.int .i64 (-(j : Int)), v1, v2] 52)).setCell ⟨Bs, j, none⟩ (.int .i64 ((f : Int) + out.length))) S Bs f j out v b wr.heap.size := by
  have hA := h.kept (World.grownBy_alloc wr (.cells #[.int .i64 (-(j : Int)), v1, v2] 52) none)
  have hlo := h.lo
  have hlt := h.lt
  have hst := grown_setCell (w := wr.alloc (.cells #[.int .i64 (-(j : Int)), v1, v2] 52)) Bs j (.int .i64 ((f : Int) + out.length))
  have hg := grown_new hA.grown hst hlo
  refine ⟨hA.store hj hm, hA.outs.kept hst ?_, hlo, hg, hB.kept hg, ?_⟩
  · cases hv : v.ownBlock with
    | none => exact .inl rfl
    | some g => have := (hA.outs.lt g hv).1; exact .inr (by simp; omega)
  · have hne : some wr.heap.size ≠ some Bs := by simp; omega
    refine hst.cell ?_ hne
    rw [cell_of_row _ _ _ _ _ _ (heap_alloc_last wr _)]
    rfl

theorem OrdMid.push {w X w1 w3 : World} {S : BS} {Bs f j g c : Nat} {out : List Nat} {v : Value} {b Bp : Nat} (h : OrdMid w X S Bs f j out v b Bp) (hg1 : X.grownBy w1 none)
    (hown : w3.ownsRow (Bs + 1) 9 1 (.slice (some ⟨g, 0, none⟩) (out.length + 1) c) (out.length + 1) (outL S out ++ [.string (S.nons.getD (j - 1) ⟨#[]⟩)])) (hg3 : w1.grownBy w3 v.ownBlock) :
    OrdAt w w3 S Bs f (out ++ [j]) (.slice (some ⟨g, 0, none⟩) (out ++ [j]).length c) := by
  have hlt : Bs < X.heap.size := (Array.getElem?_eq_some_iff.1 h.syms).1
  have hne : ∀ i, i ≤ Bs → some i ≠ v.ownBlock := fun i hi e => by
    have := (h.outs.lt i e.symm).1
    omega
  have hlo := h.lo
  refine ⟨?_, by simpa [outL] using hown, h.lo, ?_⟩
  · rw [hg3.block Bs (Nat.lt_of_lt_of_le hlt hg1.size) (hne Bs (Nat.le_refl _)), hg1.block Bs hlt (by simp)]
    exact h.syms
  · have hG := grown_trans h.grown hg1
    exact ⟨hg3.os.trans hG.os, hg3.tape.trans hG.tape, hg3.output.trans hG.output, Nat.le_trans hG.size hg3.size, fun i hi _ => (hg3.block i (Nat.lt_of_lt_of_le hi hG.size) (hne i (by omega))).trans (hG.block i hi (by simp))⟩

set_option maxRecDepth 100000 in
set_option maxHeartbeats 4000000 in
theorem ordered_any (b : Nat) (S : BS) (w : World) (hB : BAt w b S) :
    Calls Try.prog 45 #[.pointer (some ⟨b, 0, none⟩)] w fun e w' => ∃ Bs a c, e = .returned (.tuple #[.slice (some ⟨Bs, 0, none⟩) (S.nons.length + 1) (S.nons.length + 1), .slice a (ordOf S.prods).length c]) ∧ OrdAt w w' S Bs (S.terms.length + 1) (ordOf S.prods) (.slice a (ordOf S.prods).length c) := by
  obtain ⟨i0, hi, hz0, hz1, hz2⟩ := info_parts infoInt
  obtain ⟨j0, hj, hy0, hy1, hy2⟩ := info_parts infoStr
  have HB : Hid (BAt w b S) := hB
  have hsy := hB.1.syms
  have hpr := hB.1.prods
  have hs2 : ∃ a n c, n = S.nons.length ∧ w.cell? ⟨b, 2 + 1, none⟩ = some (.slice a n c) := by
    obtain ⟨_, c, hr, hc⟩ := hB
    obtain ⟨a, cap, hv, _⟩ := hc.nl.form
    exact ⟨a, _, cap, rfl, by rw [hr.cell 3 (by omega), hv]⟩
  have hs0 : ∃ a n c, n = S.terms.length ∧ ∀ wx, w.grownBy wx none → wx.cell? ⟨b, 0 + 1, none⟩ = some (.slice a n c) := by
    obtain ⟨_, c, hr, hc⟩ := hB
    obtain ⟨a, cap, hv, _⟩ := hc.tl.form
    exact ⟨a, _, cap, rfl, fun wx hg => by rw [(hr.kept hg (by simp)).cell 1 (by omega), hv]⟩
  have hs4 : ∃ a n c, n = S.prods.length ∧ (∀ wx, w.grownBy wx none → wx.cell? ⟨b, 70, none⟩ = some (.slice a n c)) ∧ (0 < S.prods.length → ∃ g, a = some ⟨g, 0, none⟩ ∧ ∀ k, k < S.prods.length → ∃ ap cp, ProdAt w g k (S.prods.getD k ⟨0, [], 0⟩) ap cp) := by
    obtain ⟨_, c, hr, hc⟩ := hB
    by_cases h0 : 0 < S.prods.length
    · obtain ⟨g, cap, hv, hcs⟩ := hc.pr.at h0
      exact ⟨_, _, cap, rfl, fun wx hg => by rw [(hr.kept hg (by simp)).cell 70 (by omega), hv], fun _ => ⟨g, rfl, hcs⟩⟩
    · obtain ⟨rs, _, h2, _⟩ := hc.pr
      obtain ⟨a, cap, hv⟩ := owns_slice h2
      exact ⟨a, _, cap, rfl, fun wx hg => by rw [(hr.kept hg (by simp)).cell 70 (by omega), hv], fun h => absurd h h0⟩
  obtain ⟨a2, n2, c2, hn2, hcell2⟩ := hs2
  obtain ⟨a0, n0, c0, hn0, hcell0⟩ := hs0
  obtain ⟨a4, n4, c4, hn4, hcell4, hp4⟩ := hs4
  have H0 : Hid (∀ wx, w.grownBy wx none → wx.cell? ⟨b, 0 + 1, none⟩ = some (.slice a0 n0 c0)) := hcell0
  have H4 : Hid (∀ wx, w.grownBy wx none → wx.cell? ⟨b, 70, none⟩ = some (.slice a4 n4 c4)) := hcell4
  have HP4 : Hid (0 < S.prods.length → ∃ g, a4 = some ⟨g, 0, none⟩ ∧ ∀ k, k < S.prods.length → ∃ ap cp, ProdAt w g k (S.prods.getD k ⟨0, [], 0⟩) ap cp) := hp4
  have hn2' : n2 ≤ 64 := by omega
  have hn0' : n0 ≤ 64 := by omega
  have hn4' : n4 ≤ 96 := by omega
  have HN2 : Hid (n2 = S.nons.length) := hn2
  have HN0 : Hid (n0 = S.terms.length) := hn0
  have HN4 : Hid (n4 = S.prods.length) := hn4
  have E68 : Hid (∀ args w, (callFunc 77 args).run Try.prog w = .ok (.enter 77 args) w) := enters_of Try.func77 (by kernel_rfl) rfl
  clear hB hcell0 hcell4 hp4 hn2 hn0 hn4 hsy hpr
  go_enter Try.func45, Try.ntmps45
  go_wp2_with (first
    | (go_at_call 44; refine (size_any b 2 n2 c2 a2 w hcell2).mono ?_; rintro e wq ⟨rfl, rfl⟩)
    | (at_make; refine wpList_make_full _ rfl _ _ 30 rfl wq.heap.size 3 i0 (.int .i64 0) 1 Try.underlying30 hi hz0 hz1 .i64 .i64 _ _ (n2 + 1) rfl rfl (by simp) (by simp) (by rw [hz2]; omega) (by unfold maxLen; omega) (Nat.le_refl _) ?_; intro w1 hown hgrow))
  have hrow1 := made_ints hown
  have hG1 : wq.grownBy w1 none := hgrow
  refine (size_any b 0 n0 c0 a0 w1 (H0.out w1 hG1)).mono ?_
  rintro e w1' ⟨rfl, hw⟩
  subst hw
  have hO1 : OrdAt wq w1' S wq.heap.size (n0 + 1) [] (.slice none 0 0) := ⟨by rw [hrow1, symL_nil, HN2.out], World.ownsRow_nil _ _ _ _, Nat.le_refl _, hG1⟩
  have hc70 := H4.out w1' hG1
  have HO1 : Hid (OrdAt wq w1' S wq.heap.size (n0 + 1) [] (.slice none 0 0)) := hO1
  clear hown hgrow hrow1 hG1 hO1 H0 H4
  generalize wq.heap.size = Bs at *
  go_wp2_with fail
  go_loopw [25, 3] (fun i v3 wr => ∃ k : Nat, k ≤ n4 ∧ i = .int .i64 k ∧ ∃ a c, v3 = .slice a (ordOf (S.prods.take k)).length c ∧ OrdAt wq wr S Bs (n0 + 1) (ordOf (S.prods.take k)) (.slice a (ordOf (S.prods.take k)).length c)) (fun i _ _ => n4 - (intOf i).toNat)
  case atStart => exact ⟨0, Nat.zero_le _, rfl, none, 0, rfl, HO1.out⟩
  case round =>
    obtain ⟨k, hk, rfl, a3, c3, rfl, hO⟩ := hrel
    have HO : Hid (OrdAt wq wr S Bs (n0 + 1) (ordOf (S.prods.take k)) (.slice a3 (ordOf (S.prods.take k)).length c3)) := hO
    clear hO HO1
    by_cases hlt : k < n4
    · obtain ⟨gp, rfl, hpa⟩ := HP4.out (by rw [← HN4.out]; omega)
      obtain ⟨ap, cp, hpk⟩ := hpa k (by rw [← HN4.out]; exact hlt)
      have hpk' := hpk.kept HO.out.grown
      have hstep := ordOf_succ S.prods k (by rw [← HN4.out]; exact hlt)
      have hpl := HB.out.1.pl (S.prods.getD k ⟨0, [], 0⟩) (by
        have : S.prods.getD k ⟨0, [], 0⟩ = S.prods[k]'(by rw [← HN4.out]; exact hlt) := by simp [List.getD, show k < S.prods.length by rw [← HN4.out]; exact hlt]
        rw [this]; exact List.getElem_mem _)
      obtain ⟨hnd, hbd⟩ := ord_props HB.out.1 k (by rw [← HN4.out]; omega)
      have hle := nodup_le S.nons.length _ hnd hbd
      generalize S.prods.getD k ⟨0, [], 0⟩ = p at *
      obtain ⟨out2, ho2⟩ : ∃ o, o = ordOf (S.prods.take (k + 1)) := ⟨_, rfl⟩
      have HO2 : Hid (ordOf (S.prods.take (k + 1)) = out2) := ho2.symm
      rw [← ho2] at hstep
      clear ho2
      generalize ordOf (S.prods.take k) = out at *
      obtain ⟨j, hj⟩ := Int.eq_ofNat_of_zero_le (show 0 ≤ -p.left by omega)
      have hleft : p.left = -(j : Int) := by omega
      have hjb : 1 ≤ j ∧ j ≤ S.nons.length := by omega
      have hcs := HO.out.cell j hjb.2
      have hst2 : out2 = if j ∈ out then out else out ++ [j] := by
        rw [hstep]; unfold ordStep; rw [hj]; rfl
      have d0 := hpk'.left
      have d1 := hpk'.right
      have d2 := hpk'.level
      rw [hleft] at d0
      have hjn : (j : Int) < (n2 : Int) + 1 := by have := HN2.out; omega
      have hj0 : (0 : Int) ≤ (j : Int) := by omega
      have hcs' : ∀ o, (wr.alloc o).cell? ⟨Bs, j, none⟩ = some (.int .i64 (symOf (n0 + 1) out j)) := fun o => (World.grownBy_alloc wr o none).cell hcs (by simp)
      have hol : out.length ≤ 64 := by have := HB.out.1.syms; omega
      by_cases hm : j ∈ out
      · rw [if_pos hm] at hst2
        have hsv : 0 < symOf (n0 + 1) out j := by unfold symOf; rw [if_pos hm]; omega
        generalize symOf (n0 + 1) out j = sv at *
        have hne : (sv == 0) = false := beq_eq_false_iff_ne.2 (by omega)
        have HFIN : Hid (∀ o, ∃ a c, Value.slice a3 out.length c3 = .slice a out2.length c ∧ OrdAt wq (wr.alloc o) S Bs (n0 + 1) out2 (.slice a out2.length c)) := fun o => by rw [hst2]; exact ⟨a3, c3, rfl, HO.out.kept (World.grownBy_alloc _ _ none)⟩
        clear hstep hst2 hpl hnd hbd hj hleft hpk' hpk hpa hcs hm HP4
        go_wp2_with fail
        go_roundw
        case rel => exact ⟨k + 1, by omega, by go_num, by rw [HO2.out]; exact HFIN.out _⟩
        case measure => simp [intOf]; omega
      · rw [if_neg hm] at hst2
        have hsv : symOf (n0 + 1) out j = 0 := by unfold symOf; rw [if_neg hm]
        rw [hsv] at hcs'
        have hfz : ∀ o, (wr.alloc o).frozen? ⟨Bs, j, none⟩ = false := fun o => by
          have := (HO.out.kept (World.grownBy_alloc wr o none)).syms
          exact frozen_of_row _ _ _ _ _ this
        clear hstep hpl hnd hbd hj hleft hpk' hpk hpa hcs HP4 hsv
        go_wp2_with fail
        have hM := HO.out.mid (v1 := .slice ap p.right.length cp) (v2 := .int .i64 p.level) hjb.2 hm HB.out
        have e1 : (((n0 + 1 : Nat) : Int) + (out.length : Int)) = (n0 : Int) + 1 + out.length := by omega
        rw [e1] at hM
        generalize (wr.alloc (.cells #[.int .i64 (-(j : Int)), .slice ap p.right.length cp, .int .i64 p.level] 52)).setCell ⟨Bs, j, none⟩ (.int .i64 ((n0 : Int) + 1 + out.length)) = X at *
        generalize wr.heap.size = Bp at *
        have HM : Hid (OrdMid wq X.drew S Bs (n0 + 1) j out (.slice a3 out.length c3) b Bp) := hM.drew
        have HNN : Hid (Calls Try.prog 77 #[.pointer (some ⟨b, 2, none⟩), .int .i64 (-(j : Int))] X.drew fun e w' => e = .returned (.string (S.nons.getD (j - 1) ⟨#[]⟩)) ∧ w' = X.drew) := by
          have h1 := nonName_at b S (j - 1) X.drew HM.out.bat (by omega)
          rwa [show (-(((j - 1 : Nat) : Int) + 1)) = -(j : Int) by omega] at h1
        have hleft := HM.out.left
        have hsz2 := HM.out.grown.size
        have hltB : Bs < X.heap.size := (Array.getElem?_eq_some_iff.1 HM.out.syms).1
        clear hM e1 d0 d1 d2 hcs' hfz
        obtain ⟨nm, hnm⟩ : ∃ nm, nm = S.nons.getD (j - 1) ⟨#[]⟩ := ⟨_, rfl⟩
        rw [← hnm] at HNN
        have HNM : Hid (nm = S.nons.getD (j - 1) ⟨#[]⟩) := hnm
        clear hnm
        go_region_law (first
          | (refine step_call rfl 77 #[.tmp 48, .tmp 50] #[66, 3] rfl #[.pointer (some ⟨b, 2, none⟩), .int .i64 (-(j : Int))] (by simp [Act.eval]) E68.out HNN.out ?_; rintro e w1 ⟨rfl, hw1⟩; subst hw1; refine ⟨_, rfl, ?_⟩)
          | (refine step_append_lies _ rfl (.tmp 45) (.tmp 52) 29 rfl (Bs + 1) 9 j0 (.string ByteArray.empty) 1 16 Try.underlying29 hj hy0 hy1 hy2 rfl (by decide) _ _ _ (by simp [Act.eval]) (HM.out.outs.alloc _) ⟨X.heap.size, 0, none⟩ 1 1 [.string nm] (by simp [Act.eval]) rfl (cell_one_new _ _ _) (str_oneCell nm) (by omega) (by unfold maxLen; omega) (by omega) (by simp; omega) _ rfl ?_; intro g2 c2' w3 hown3 hgrow3 hloc3 hlt3))
        all_goals go_wp2_with fail
        all_goals go_roundw
        all_goals first
          | exact ⟨k + 1, by omega, by go_num, by
              rw [HO2.out, hst2]
              rw [HNM.out] at hown3
              exact ⟨_, c2', by simp, HM.out.push (World.grownBy_alloc _ _ none) hown3 hgrow3⟩⟩
          | (simp [intOf]; omega)
    · obtain rfl : k = n4 := by omega
      have htk : S.prods.take k = S.prods := by rw [HN4.out]; exact List.take_length
      rw [htk] at HO
      rw [htk]
      go_wp2_with fail
      go_ret2
      exact ⟨Bs, a3, c3, by rw [← HN2.out]; rfl, by rw [← HN0.out]; exact HO.out⟩

end Go.Proofs.Ytkbpnafahimeiaa
