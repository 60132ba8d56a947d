import Derived.Test.YtgmljpkenipgjaaQolknbdgdjnlb
import Derived.Maps.Keyed
import Derived.Maps.Own
import Derived.Maps.OwnSet
import Derived.Maps.Views
import Derived.DeepKeys4
import Derived.Test.YtgmljpkenipgjaaQihjbpinalplc
import Derived.Deep.RegionLaw
import Derived.Deep.AppendLies
import Derived.Deep.RegionHeld3

/-
  lr0: a map whose keys are items.
-/
namespace Go.Proofs.Ytgmljpkenipgjaa.J
open Go.RowKit Go.Maps Go.Shelf

/-- An item as a value. -/
def aggI (x : It) : Value := .agg #[.int .i64 x.1, .int .i64 x.2]
/-- Numbers that an int can be. -/
def I64 (x : It) : Prop := (Lit.int .i64 x.1).wf = true ∧ (Lit.int .i64 x.2).wf = true
def heldR (v : Value) : Option (DataW Value × List MemPlace) := some (.held v, [])
/-- F with v at x. -/
noncomputable def putI (F : It → Value) (x : It) (v : Value) : It → Value := fun y => if y = x then v else F y
end Go.Proofs.Ytgmljpkenipgjaa.J

/-
  lr0: newMaker.
-/
namespace Go.Proofs.Ytgmljpkenipgjaa.J
open Go.RowKit Go.Maps Go.Shelf

attribute [local go_sem] Oper.semAt_some

end Go.Proofs.Ytgmljpkenipgjaa.J

/-
  lr0: the maker in memory.
-/
namespace Go.Proofs.Ytgmljpkenipgjaa.J
open Go.RowKit Go.Maps Go.Shelf

/-- The states whose kernels begin with x. -/
def begI (ks : List (List It)) (x : It) : List Nat := (List.range ks.length).filter fun i => (ks.getD i []).head? == some x
def natV (l : List Nat) : List Value := l.map fun (i : Nat) => Value.int .i64 (i : Int)
/-- States, as cells. -/
def stV (kv ev : Nat → Value) : Nat → List Value
  | 0 => []
  | N + 1 => stV kv ev N ++ [kv N, ev N]
section
variable {w X Y : World} {mb bm : Nat} {c0 c1 c2 c3 c4 bs : Value} {ba bi : Int} {rv : Value} {N : Nat} {kv ev : Nat → Value} {kl el : Nat → List It} {m : Nat} {mv fv : It → Value} {nl : It → List Nat} {E : Nat}
theorem box_row {B e e' s n b : Nat} {v : Value} {xs : List Value} {cs : Array Value} (h : X.heap[b]? = some (.cells cs e' (0, 0))) (ho : X.ownsRow B e s v n xs) (hne : e ≠ e') (hg : X.grownBy Y v.ownBlock) : Y.heap[b]? = some (.cells cs e' (0, 0)) := by
  refine (hg.block b (Array.getElem?_eq_some_iff.1 h).1 ?_).trans h
  intro e2
  rcases owns_nebox ho h hne with h2 | h2
  · rw [h2] at e2; cases e2
  · exact h2 e2.symm
theorem row_row {B B' e e' s s' n n' : Nat} {v v' : Value} {xs xs' : List Value} (h : X.ownsRow B' e' s' v' n' xs') (ho : X.ownsRow B e s v n xs) (hne : e ≠ e') (hg : X.grownBy Y v.ownBlock) : Y.ownsRow B' e' s' v' n' xs' := by
  refine ⟨h.1, ?_⟩
  rcases h.2 with hn | ⟨g, cap, cur, rfl, hb, hgg, rest⟩
  · exact .inl hn
  · exact .inr ⟨g, cap, cur, rfl, hb, box_row hgg ho hne hg, rest⟩
def updI {α : Type} (f : It → α) (s : It) (x : α) : It → α := fun i => if i = s then x else f i
end
end Go.Proofs.Ytgmljpkenipgjaa.J

/-
  digraph: a search in memory.
-/
namespace Go.Proofs.Ytgmljpkenipgjaa.J
open Go.RowKit Go.Maps Go.Shelf D

section
variable {B : Nat} {X Y Z : World}
end

/-- The visits, as cells. -/
def visV (W : List (Nat × Nat × Nat)) : List Value := W.flatMap fun v => [.int .i64 (v.1 : Int), .int .i64 (v.2.1 : Int), .int .i64 (v.2.2 : Int)]
/-- The way of a search. -/
def wayL : List Fr → List (Nat × Nat × Nat)
  | [] => []
  | f :: fs => wayL fs ++ [(f.node, (opens fs).length + 1, f.gone)]
section
variable {X Y : World} {B sb N : Nat} {ea : Option Addr} {ec lb : Nat} {W : List (Nat × Nat × Nat)} {O : List Nat} {low : Nat → Nat} {wa oa : Option Addr} {wc oc : Nat}
end

end Go.Proofs.Ytgmljpkenipgjaa.J

/-
  lr0: the maker's ask, walked.
-/
namespace Go.Proofs.Ytgmljpkenipgjaa.J
open Go.RowKit Go.Maps Go.Shelf

attribute [local go_sem] Oper.semAt_some

theorem owns_at {X : World} {B e s n : Nat} {v : Value} {xs : List Value} (h : X.ownsRow B e s v n xs) (hn : 0 < n) : ∃ g c, v = .slice (some ⟨g, 0, none⟩) n c ∧ ∀ j u, xs[j]? = some u → X.cell? ⟨g, j, none⟩ = some u := by
  rcases h.2 with ⟨_, h2⟩ | ⟨g, cap, cur, rfl, hB, hh, _, _, hs, ht⟩
  · omega
  · refine ⟨g, cap, rfl, fun j u hu => ?_⟩
    rw [cell_of_row _ _ _ _ _ _ hh]
    rw [← ht, List.getElem?_take] at hu
    split at hu
    · simpa using hu
    · cases hu
end Go.Proofs.Ytgmljpkenipgjaa.J

/-
  digraph: enter.
-/
namespace Go.Proofs.Ytgmljpkenipgjaa.J
open Go.RowKit Go.Maps Go.Shelf D

attribute [local go_sem] Oper.semAt_some

theorem wpList_append_liesW {P : Program} {w : World} {ops : Array Oper} {rest : List Oper} {o : Oper} {a : Act} {Q : Exit → Act → World → Prop} (hgd : o.guard = none) (s x : Operand) (t : TypeId)
    (ho : o.op = .call { callee := .builtin .append, args := #[s, x], argTypes := #[t, t] })
    (base : Nat) (e : TypeId) (i : TypeInfo) (z : Value) (size bytes : Nat) (ht : P.underlying t = some (.slice e)) (hi : P.info? e = some i) (hz : i.zero = some z)
    (hsize : i.size = size) (hby : i.bytes = bytes) (hzs : z.cells.size = size) (hsz : 0 < size)
    (v : Value) (n : Nat) (xs : List Value) (hs : a.eval s = v) (hown : w.ownsRow base e size v n xs)
    (ad : Addr) (m c : Nat) (news : List Value) (hx : a.eval x = .slice (some ad) m c) (hl : news.length = m * size) (hnews : ∀ j u, news[j]? = some u → w.cell? (ad.add j) = some u) (h1 : ∀ u ∈ news, u.oneCell' = true)
    (hm : 0 < m) (h63 : n + m ≤ maxLen) (hbytes : ((n + m) + (n + m) / 4 + 192) * bytes ≤ 281474976710656) (hbase : base ≤ w.heap.size)
    (h : ∀ g cap w', w'.ownsRow base e size (.slice (some ⟨g, 0, none⟩) (n + m) cap) (n + m) (xs ++ news) → w.grownBy w' v.ownBlock → (v.ownBlock = some g ∨ g = w.heap.size) → wpList P ops Q rest (a.put o.dst (.slice (some ⟨g, 0, none⟩) (n + m) cap)) w') : wpList P ops Q (o :: rest) a w := by
  refine wpList_plain hgd fun K hK => ?_
  exact wp_append_liesW w s x t ho base e i z size bytes ht hi hz hsize hby hzs hsz v n xs hs hown ad m c news hx hl hnews h1 hm h63 hbytes hbase fun g cap w' h1 h2 h3 => hK _ _ (h g cap w' h1 h2 h3)

end Go.Proofs.Ytgmljpkenipgjaa.J

/-
  lr0: the maker's leave, walked.
-/
namespace Go.Proofs.Ytgmljpkenipgjaa.J
open Go.RowKit Go.Maps Go.Shelf

attribute [local go_sem] Oper.semAt_some

/-- Edges as pairs of numbers. -/
def edI (ed : List (Nat × Nat)) : List It := ed.map fun x => ((x.1 : Int), (x.2 : Int))
/-- What a kernel that is the j-th at most is. -/
def PJ (n : Nat) (R : Nat → List Int) (j : Nat) (k : List It) : Prop := (∀ x ∈ k, itB n R x = true) ∧ k.length ≤ 1 + 13000 * j
theorem kerT_item {n : Nat} {R : Nat → List Int} {l : List It} (h : ∀ x ∈ l, itB n R x = true) {s : Nat} : ∀ x ∈ kerT R l (s : Int), itB n R x = true := by
  intro x hx
  unfold kerT at hx
  obtain ⟨y, hy, rfl⟩ := List.mem_map.1 hx
  obtain ⟨hy1, hy2⟩ := List.mem_filter.1 hy
  have h1 := h y hy1
  have h2 : aheadV R y = (s : Int) := by simpa using hy2
  unfold itB at h1 ⊢
  simp only [Bool.and_eq_true, decide_eq_true_eq] at h1 ⊢
  obtain ⟨⟨⟨a1, a2⟩, a3⟩, a4⟩ := h1
  refine ⟨⟨⟨a1, a2⟩, by omega⟩, ?_⟩
  unfold aheadV at h2
  by_cases e : y.2 = ((R y.1.toNat).length : Int)
  · rw [if_pos e] at h2; omega
  · omega
theorem PJ.ker {n : Nat} {R : Nat → List Int} {i m : Nat} {l I : List It} {s : Nat} (hI : PJ n R i I) (hl : ∀ x ∈ l, itB n R x = true) (hll : l.length ≤ I.length + 13000) (hm : i < m) : PJ n R m (kerT R l (s : Int)) := by
  refine ⟨kerT_item hl, ?_⟩
  have h1 := kerT_len R l (s : Int)
  have h2 := hI.2
  have h3 : 13000 * (i + 1) ≤ 13000 * m := Nat.mul_le_mul_left _ hm
  omega
end Go.Proofs.Ytgmljpkenipgjaa.J

/-
  lr0: the maker's automaton, and Build.
-/
namespace Go.Proofs.Ytgmljpkenipgjaa.J
open Go.RowKit Go.Maps Go.Shelf

attribute [local go_sem] Oper.semAt_some

/-- The closure of a kernel. -/
noncomputable def CLo (tn n : Nat) (L : Nat → Int) (R : Nat → List Int) (k : List It) : List It := by
  classical exact if h : ∃ l, IsClo tn n L R k l ∧ l.length ≤ k.length + 13000 then Classical.choose h else []
/-- The kernel behind a symbol. -/
noncomputable def GG (tn n : Nat) (L : Nat → Int) (R : Nat → List Int) (k : List It) (s : Nat) : List It := kerT R (CLo tn n L R k) (s : Int)
theorem PJ.GG {tn n : Nat} {L : Nat → Int} {R : Nat → List Int} {i m : Nat} {k : List It} (s : Nat) (h : PJ n R i k) (hm : i < m) : PJ n R m (GG tn n L R k s) := by
  unfold J.GG CLo
  by_cases hh : ∃ l, IsClo tn n L R k l ∧ l.length ≤ k.length + 13000
  · rw [dif_pos hh]
    have h1 := Classical.choose_spec hh
    exact h.ker (fun x hx => ((h1.1.mem x).1 hx).item h.1) h1.2 hm
  · rw [dif_neg hh]
    exact ⟨fun x hx => absurd hx (by simp [kerT]), by simp [kerT]⟩
/-- How many kernels were asked for. -/
def askN (es : List (List (Nat × Nat))) : Nat := 1 + (es.map List.length).sum
/-- The edges of the states. -/
def elF (es : List (List (Nat × Nat))) (i : Nat) : List It := edI (es.getD i [])
end Go.Proofs.Ytgmljpkenipgjaa.J

/-
  lr0: the maker's automaton, walked.
-/
namespace Go.Proofs.Ytgmljpkenipgjaa.J
open Go.RowKit Go.Maps Go.Shelf

attribute [local go_sem] Oper.semAt_some

end Go.Proofs.Ytgmljpkenipgjaa.J

/-
  lr0: Build.
-/
namespace Go.Proofs.Ytgmljpkenipgjaa.J
open Go.RowKit Go.Maps Go.Shelf

attribute [local go_sem] Oper.semAt_some

section
variable (ta na la pa : Option Addr) (tc nc lc pc : Nat) (ts : List (ByteArray × Int)) (ns : List ByteArray) (lv : List Int) (n : Nat) (L : Nat → Int) (R : Nat → List Int) (ra : Nat → Option Addr) (rc : Nat → Nat) (V : Nat → Int) (st : Int) (w : World) (tn nn ln : Nat) (hlen : ts.length = tn ∧ ns.length = nn ∧ lv.length = ln) (hG : GAt w ta na la pa tc nc lc pc ts ns lv n L R ra rc V)
include hlen hG
end

end Go.Proofs.Ytgmljpkenipgjaa.J

/-
  lr0: the edges of an automaton, pure.
-/
namespace Go.Proofs.Ytgmljpkenipgjaa.J
open Go.RowKit Go.Maps Go.Shelf

/-- Has it items? -/
def someB (k : List It) : Bool := decide (k ≠ [])
/-- The symbols below s whose kernels have items. -/
def symsT (G : Nat → List It) (s : Nat) : List Nat := (List.range s).filter fun t => someB (G t)
theorem symsT_succ (G : Nat → List It) (s : Nat) : symsT G (s + 1) = symsT G s ++ (if G s = [] then [] else [s]) := by
  unfold symsT
  rw [List.range_succ, List.filter_append]
  congr 1
  by_cases h : G s = []
  · rw [if_pos h]; simp [someB, h]
  · rw [if_neg h]; simp [someB, h]
theorem symsT_prefix (G : Nat → List It) {s S : Nat} (h : s ≤ S) : symsT G s <+: symsT G S := by
  obtain ⟨d, rfl⟩ : ∃ d, S = s + d := ⟨S - s, by omega⟩
  clear h
  induction d with
  | zero => exact List.prefix_refl _
  | succ d ih => exact ih.trans (by rw [show s + (d + 1) = (s + d) + 1 by omega, symsT_succ]; exact List.prefix_append _ _)
theorem symsT_at (G : Nat → List It) {s S : Nat} (h : s < S) (hs : G s ≠ []) : (symsT G s).length < (symsT G S).length ∧ (symsT G S).getD (symsT G s).length 0 = s := by
  have h1 : symsT G (s + 1) = symsT G s ++ [s] := by rw [symsT_succ, if_neg hs]
  have h2 := symsT_prefix G (s := s + 1) (S := S) h
  rw [h1] at h2
  have h3 := h2.length_le
  rw [List.length_append, List.length_singleton] at h3
  refine ⟨by omega, ?_⟩
  rw [getD_prefix h2 (by rw [List.length_append, List.length_singleton]; omega), getD_snoc_new]
/-- An automaton, all of it. -/
structure AutF (G : List It → Nat → List It) (n : Nat) (R : Nat → List Int) (S : Nat) (ks : List (List It)) (es : List (List (Nat × Nat))) : Prop where
  kok : KsOK (PJ n R) ks
  pos : 0 < ks.length
  head : ks.getD 0 [] = [(0, 0)]
  len : es.length = ks.length
  fst : ∀ q, q < ks.length → (es.getD q []).map Prod.fst = symsT (G (ks.getD q [])) S
  snd : ∀ q, q < ks.length → ∀ x ∈ es.getD q [], x.1 < S ∧ x.2 < ks.length ∧ ks.getD x.2 [] = G (ks.getD q []) x.1
section
variable {G : List It → Nat → List It} {n : Nat} {R : Nat → List Int} {S : Nat} {ks : List (List It)} {es : List (List (Nat × Nat))}
theorem AutF.elen (h : AutF G n R S ks es) {q : Nat} (hq : q < ks.length) : (es.getD q []).length = (symsT (G (ks.getD q [])) S).length := by rw [← h.fst q hq, List.length_map]
theorem AutF.esym (h : AutF G n R S ks es) {q i : Nat} (hq : q < ks.length) (hi : i < (es.getD q []).length) : ((es.getD q []).getD i (0, 0)).1 = (symsT (G (ks.getD q [])) S).getD i 0 := by
  rw [← h.fst q hq]
  generalize es.getD q [] = l at hi ⊢
  rw [List.getD_eq_getElem?_getD, List.getD_eq_getElem?_getD, List.getElem?_map, List.getElem?_eq_getElem hi]; rfl
/-- The edge by a symbol that has a kernel. -/
theorem AutF.edge (h : AutF G n R S ks es) {q s : Nat} (hq : q < ks.length) (hs : s < S) (hk : G (ks.getD q []) s ≠ []) : (symsT (G (ks.getD q [])) s).length < (es.getD q []).length ∧ ∃ t, (es.getD q []).getD (symsT (G (ks.getD q [])) s).length (0, 0) = (s, t) ∧ t < ks.length ∧ ks.getD t [] = G (ks.getD q []) s := by
  obtain ⟨h1, h2⟩ := symsT_at (G (ks.getD q [])) hs hk
  rw [← h.elen hq] at h1
  refine ⟨h1, ?_⟩
  have h3 := h.esym hq h1
  rw [h2] at h3
  have hm : (es.getD q []).getD (symsT (G (ks.getD q [])) s).length (0, 0) ∈ es.getD q [] := by
    generalize es.getD q [] = l at h1 ⊢
    rw [List.getD_eq_getElem?_getD, List.getElem?_eq_getElem h1]; exact List.getElem_mem h1
  obtain ⟨_, h5, h6⟩ := h.snd q hq _ hm
  rw [h3] at h6
  exact ⟨_, Prod.ext h3 rfl, h5, h6⟩
end

end Go.Proofs.Ytgmljpkenipgjaa.J

/-
  lr0: an automaton in memory, read.
-/
namespace Go.Proofs.Ytgmljpkenipgjaa.J
open Go.RowKit Go.Maps Go.Shelf

theorem PJ.len {n : Nat} {R : Nat → List Int} {i : Nat} {k : List It} (h : PJ n R i k) (hi : i ≤ 257) : k.length ≤ 3341001 := by
  have h1 := h.2
  have h2 : 13000 * i ≤ 13000 * 257 := Nat.mul_le_mul_left _ hi
  omega
section
variable (ta na la pa : Option Addr) (tc nc lc pc : Nat) (ts : List (ByteArray × Int)) (ns : List ByteArray) (lv : List Int) (n : Nat) (L : Nat → Int) (R : Nat → List Int) (ra : Nat → Option Addr) (rc : Nat → Nat) (V : Nat → Int) (st : Int) (w : World) (tn nn ln : Nat) (hlen : ts.length = tn ∧ ns.length = nn ∧ lv.length = ln) (hG : GAt w ta na la pa tc nc lc pc ts ns lv n L R ra rc V)
include hlen hG
end

end Go.Proofs.Ytgmljpkenipgjaa.J

/-
  lr0: an automaton that is spoilt, in memory.
-/
namespace Go.Proofs.Ytgmljpkenipgjaa.J
open Go.RowKit Go.Maps Go.Shelf

/-- A row of one's own, whatever it holds. -/
def Like2 (X : World) (B e : Nat) (v : Value) (n : Nat) : Prop := ∃ xs, X.ownsRow B e 2 v n xs
/-- Each block of cells stays one of its type and size. -/
def Sizes (X Y : World) : Prop := ∀ (b : Nat) (cs : Array Value) (e : TypeId), X.heap[b]? = some (.cells cs e (0, 0)) → ∃ cs', Y.heap[b]? = some (.cells cs' e (0, 0)) ∧ cs'.size = cs.size
theorem Sizes.ofG {X Y : World} (h : X.grownBy Y none) : Sizes X Y := fun _ cs _ hb => ⟨cs, box_kept hb h, rfl⟩
theorem Sizes.trans {X Y Z : World} (h : Sizes X Y) (k : Sizes Y Z) : Sizes X Z := fun b cs e hb => by
  obtain ⟨cs1, h1, h2⟩ := h b cs e hb
  obtain ⟨cs2, h3, h4⟩ := k b cs1 e h1
  exact ⟨cs2, h3, h4.trans h2⟩
theorem Sizes.set (X : World) (g o : Nat) (u : Value) : Sizes X (X.setCell ⟨g, o, none⟩ u) := fun b cs e hb => by
  by_cases h : b = g
  · subst h
    exact ⟨_, heap_setCell_same _ _ _ _ _ _ hb, Array.size_setIfInBounds⟩
  · have hg : X.grownBy (X.setCell ⟨g, o, none⟩ u) (some g) := grown_setCell _ _ _
    exact ⟨cs, (hg.block b (Array.getElem?_eq_some_iff.1 hb).1 (by simpa using h)).trans hb, rfl⟩
theorem Like2.sized {X Y : World} {B e n : Nat} {v : Value} (h : Like2 X B e v n) (hs : Sizes X Y) : Like2 Y B e v n := by
  obtain ⟨xs, h1, h2⟩ := h
  rcases h2 with ⟨rfl, rfl⟩ | ⟨g, cap, cur, rfl, hB, hh, h3, h4, h5, h6⟩
  · exact ⟨xs, h1, .inl ⟨rfl, rfl⟩⟩
  · obtain ⟨cur', h7, h8⟩ := hs g cur e hh
    refine ⟨cur'.toList.take (n * 2), ?_, .inr ⟨g, cap, cur', rfl, hB, h7, h3, h4, by rw [h8]; exact h5, rfl⟩⟩
    have h9 : n * 2 ≤ cap * 2 := Nat.mul_le_mul_right _ h3
    rw [List.length_take, Array.length_toList, h8, h5]
    omega
theorem Like2.at {X : World} {B e n i : Nat} {v : Value} (h : Like2 X B e v n) (hi : i < n) : ∃ g c u0 u1 cur, v = .slice (some ⟨g, 0, none⟩) n c ∧ B ≤ g ∧ X.cell? ⟨g, i * 2, none⟩ = some u0 ∧ X.cell? ⟨g, i * 2 + 1, none⟩ = some u1 ∧ (∀ o, X.frozen? ⟨g, o, none⟩ = false) ∧ X.heap[g]? = some (.cells cur e (0, 0)) := by
  obtain ⟨xs, h1, h2⟩ := h
  rcases h2 with ⟨rfl, rfl⟩ | ⟨g, cap, cur, rfl, hB, hh, h3, h4, h5, h6⟩
  · omega
  · refine ⟨g, cap, cur[i * 2]'(by omega), cur[i * 2 + 1]'(by omega), cur, rfl, hB, ?_, ?_, fun o => frozen_of_row _ _ _ _ _ hh, hh⟩
    · rw [cell_of_row _ _ _ _ _ _ hh, Array.getElem?_eq_getElem]
    · rw [cell_of_row _ _ _ _ _ _ hh, Array.getElem?_eq_getElem]
section
variable {P : Program} (w : World)
end

section
variable {w0 X Y : World} {ab : Nat} {bc : Array Value} {B sb N ik ie : Nat} {kv ev : Nat → Value} {kn en : Nat → Nat} {cur : Array Value}
end

end Go.Proofs.Ytgmljpkenipgjaa.J

/-
  pack: the law's spoil: what was told is written over; what was told later, and what was there, stays.
-/
namespace Go.Proofs.Ytgmljpkenipgjaa.J
open Go.RowKit Go.Maps Go.Shelf Pk

attribute [local go_sem] Oper.semAt_some

/-- A row of numbers of one's own, whatever it holds. -/
def LikeZ (X : World) (B : Nat) (v : Value) (n : Nat) : Prop := ∃ xs, X.ownsRow B 3 1 v n xs
theorem LikeZ.sized {X Y : World} {B n : Nat} {v : Value} (h : LikeZ X B v n) (hs : Sizes X Y) : LikeZ Y B v n := by
  obtain ⟨xs, h1, h2⟩ := h
  rcases h2 with ⟨rfl, rfl⟩ | ⟨g, cap, cur, rfl, hB, hh, h3, h4, h5, h6⟩
  · exact ⟨xs, h1, .inl ⟨rfl, rfl⟩⟩
  · obtain ⟨cur', h7, h8⟩ := hs g cur _ hh
    refine ⟨cur'.toList.take (n * 1), ?_, .inr ⟨g, cap, cur', rfl, hB, h7, h3, h4, by rw [h8]; exact h5, rfl⟩⟩
    rw [List.length_take, Array.length_toList, h8, h5]
    omega
theorem LikeZ.at {X : World} {B n i : Nat} {v : Value} (h : LikeZ X B v n) (hi : i < n) : ∃ g c u0 cur, v = .slice (some ⟨g, 0, none⟩) n c ∧ B ≤ g ∧ X.cell? ⟨g, i, none⟩ = some u0 ∧ (∀ o, X.frozen? ⟨g, o, none⟩ = false) ∧ X.heap[g]? = some (.cells cur 3 (0, 0)) := by
  obtain ⟨xs, h1, h2⟩ := h
  rcases h2 with ⟨rfl, rfl⟩ | ⟨g, cap, cur, rfl, hB, hh, h3, h4, h5, h6⟩
  · omega
  · refine ⟨g, cap, cur[i]'(by omega), cur, rfl, hB, ?_, fun o => frozen_of_row _ _ _ _ _ hh, hh⟩
    rw [cell_of_row _ _ _ _ _ _ hh, Array.getElem?_eq_getElem]

section
variable {P : Program} (w : World)
end

/-- Rows while they are spoilt. -/
structure SpI (y Z X : World) (hi lk i : Nat) (S : Nat → Value) (n : Nat → Nat) : Prop where
  grown : y.grownBy X none
  up : ∀ b, hi ≤ b → b < Z.heap.size → X.heap[b]? = Z.heap[b]?
  sz : Z.heap.size ≤ X.heap.size
  ob : ∃ cur, X.heap[lk]? = some (.cells cur 24 (0, 0)) ∧ cur.size = 3 ∧ ∀ j, i ≤ j → j < 3 → cur[j]? = some (S j)
  like : ∀ j, j < 3 → LikeZ X y.heap.size (S j) (n j)
  own : ∀ j, j < 3 → ∀ g, (S j).ownBlock = some g → g < hi
  lk : Z.heap.size ≤ lk
  hz : hi ≤ Z.heap.size
  yh : y.heap.size ≤ hi
section
variable {y Z X Y : World} {hi lk i : Nat} {S : Nat → Value} {n : Nat → Nat}
theorem SpI.kept (h : SpI y Z X hi lk i S n) (hg : X.grownBy Y none) : SpI y Z Y hi lk i S n := by
  obtain ⟨cur, h1, h2, h3⟩ := h.ob
  exact ⟨grown_trans h.grown hg, fun b b1 b2 => (hg.block b (by have := h.sz; omega) (by simp)).trans (h.up b b1 b2), Nat.le_trans h.sz hg.size, ⟨cur, box_kept h1 hg, h2, h3⟩, fun j hj => (h.like j hj).sized (.ofG hg), h.own, h.lk, h.hz, h.yh⟩
/-- A block of numbers of a row turns. -/
theorem SpI.turn {g : Nat} (h : SpI y Z X hi lk i S n) (hg : X.grownBy Y (some g)) (hs : Sizes X Y) (hB : y.heap.size ≤ g) (hh : g < hi) : SpI y Z Y hi lk i S n := by
  obtain ⟨cur, h1, h2, h3⟩ := h.ob
  have hlz := h.lk
  have hhz := h.hz
  refine ⟨grown_new h.grown hg hB, fun b b1 b2 => (hg.block b (by have := h.sz; omega) (by simp; omega)).trans (h.up b b1 b2), Nat.le_trans h.sz hg.size, ⟨cur, ?_, h2, h3⟩, fun j hj => (h.like j hj).sized hs, h.own, h.lk, h.hz, h.yh⟩
  rw [hg.block lk (Array.getElem?_eq_some_iff.1 h1).1 (by simp; omega)]
  exact h1
theorem SpI.more {j : Nat} (h : SpI y Z X hi lk i S n) (hj : j < 3) (hg : X.grownBy Y (S j).ownBlock) (hs : Sizes X Y) : SpI y Z Y hi lk i S n := by
  obtain ⟨xs, ho⟩ := h.like j hj
  rcases ho.2 with ⟨h0, _⟩ | ⟨g, cap, c2, h0, hB, hh, _⟩
  · rw [h0] at hg
    exact h.kept hg
  · have e : (S j).ownBlock = some g := by rw [h0]; rfl
    rw [e] at hg
    exact h.turn hg hs hB (h.own j hj g e)
/-- The next row. -/
theorem SpI.set (h : SpI y Z X hi lk i S n) (u : Value) : SpI y Z (X.setCell ⟨lk, i, none⟩ u) hi lk (i + 1) S n := by
  obtain ⟨cur, h1, h2, h3⟩ := h.ob
  have hlz := h.lk
  have hhz := h.hz
  have hyh := h.yh
  have g1 : X.grownBy (X.setCell ⟨lk, i, none⟩ u) (some lk) := grown_setCell _ _ _
  refine ⟨grown_new h.grown g1 (by omega), fun b b1 b2 => (g1.block b (by have := h.sz; omega) (by simp; omega)).trans (h.up b b1 b2), Nat.le_trans h.sz g1.size, ⟨_, heap_setCell_same _ _ _ _ _ _ h1, by rw [Array.size_setIfInBounds]; exact h2, fun j a1 a2 => ?_⟩, fun j hj => (h.like j hj).sized (.set _ _ _ _), h.own, h.lk, h.hz, h.yh⟩
  rw [Array.getElem?_setIfInBounds_ne (by omega)]
  exact h3 j (by omega) a2
theorem SpI.cell (h : SpI y Z X hi lk i S n) (h2 : i < 3) : X.cell? ⟨lk, i, none⟩ = some (S i) ∧ ∀ o, X.frozen? ⟨lk, o, none⟩ = false := by
  obtain ⟨cur, h1, _, h3⟩ := h.ob
  exact ⟨by rw [cell_of_row _ _ _ _ _ _ h1]; exact h3 i (Nat.le_refl _) h2, fun o => frozen_of_row _ _ _ _ _ h1⟩
end

/-- What spoil leaves. -/
def SpoTold (y Z : World) (hi : Nat) (e : Ending) (X : World) : Prop := e = .returned (.tuple #[]) ∧ y.grownBy X none ∧ (∀ b, hi ≤ b → b < Z.heap.size → X.heap[b]? = Z.heap[b]?) ∧ Z.heap.size ≤ X.heap.size

end Go.Proofs.Ytgmljpkenipgjaa.J
