import Derived.Test.YtkcdipnobgggkabQocheaeldpekp
import Derived.Test.YtkcdipnobgggkabQadoljjeidepd
import Derived.Test.YtkcdipnobgggkabQaiheicnmigdm
import Derived.Deep.RegionHeld3

/-
  Productions that are compared: sameProd, slices.EqualFunc.
-/
namespace Go.Proofs.Ytkcdipnobgggkab
open Go.RowKit Go.Maps Go.Shelf

attribute [local go_sem] Oper.semAt_some

theorem quietEqualInt (a1 a2 : Option Addr) (c1 c2 : Nat) (l1 l2 : List Int) (w W : World) (hg : w.grownBy W none) (h1 : IntsAt w a1 l1) (h2 : IntsAt w a2 l2) (hb : l1.length ≤ 17592186044416) (r : Bool) (hr : r = true ↔ l1 = l2) :
    Calls Try.prog 34 #[.slice a1 l1.length c1, .slice a2 l2.length c2] W fun e w' => e = .returned (.bool r) ∧ w.grownBy w' none := by
  refine (equalInt_any a1 a2 c1 c2 l1 l2 W (h1.kept hg) (h2.kept hg) hb r hr).mono ?_
  rintro e w' ⟨rfl, q, rfl⟩
  exact ⟨rfl, grown_trans hg (grown_drewN _ _)⟩

set_option maxRecDepth 100000 in
theorem sameProd_any (L1 L2 V1 V2 : Int) (a1 a2 : Option Addr) (c1 c2 : Nat) (R1 R2 : List Int) (w : World) (h1 : IntsAt w a1 R1) (h2 : IntsAt w a2 R2) (hb : R1.length ≤ 17592186044416) (r : Bool) (hr : r = true ↔ (L1 = L2 ∧ R1 = R2 ∧ V1 = V2)) :
    Calls Try.prog 25 #[.agg #[.int .i64 L1, .slice a1 R1.length c1, .int .i64 V1], .agg #[.int .i64 L2, .slice a2 R2.length c2, .int .i64 V2]] w fun e w' => e = .returned (.bool r) ∧ w.grownBy w' none := by
  obtain ⟨rR, hrR⟩ := boolOf (R1 = R2)
  have HE : Hid (∀ W, w.grownBy W none → Calls Try.prog 34 #[.slice a1 R1.length c1, .slice a2 R2.length c2] W fun e w' => e = .returned (.bool rR) ∧ w.grownBy w' none ∧ W.grownBy w' none) := fun W hg => by
    refine (equalInt_any a1 a2 c1 c2 R1 R2 W (h1.kept hg) (h2.kept hg) hb rR hrR).mono ?_
    rintro e w' ⟨rfl, q, rfl⟩
    exact ⟨rfl, grown_trans hg (grown_drewN _ _), grown_drewN _ _⟩
  have HR : Hid (r = true ↔ (L1 = L2 ∧ rR = true ∧ V1 = V2)) := by rw [hrR]; exact hr
  clear hr hrR h1 h2
  generalize R1.length = n1 at *
  generalize R2.length = n2 at *
  by_cases hL : L1 = L2
  · have d1 : (L1 == L2) = true := beq_iff_eq.2 hL
    have HG : Hid (w.grownBy ((w.alloc (.cells #[.int .i64 L1, .slice a1 n1 c1, .int .i64 V1] 56)).alloc (.cells #[.int .i64 L2, .slice a2 n2 c2, .int .i64 V2] 56)) none) := grown_trans (World.grownBy_alloc _ _ none) (World.grownBy_alloc _ _ none)
    have k1 : ((w.alloc (.cells #[.int .i64 L1, .slice a1 n1 c1, .int .i64 V1] 56)).alloc (.cells #[.int .i64 L2, .slice a2 n2 c2, .int .i64 V2] 56)).cell? ⟨w.heap.size, 2, none⟩ = some (.int .i64 V1) := (World.grownBy_alloc _ _ none).cell (by rw [cell_of_row _ _ _ _ _ _ (heap_alloc_last w _)]; rfl) (by simp)
    have k2 : ((w.alloc (.cells #[.int .i64 L1, .slice a1 n1 c1, .int .i64 V1] 56)).alloc (.cells #[.int .i64 L2, .slice a2 n2 c2, .int .i64 V2] 56)).cell? ⟨(w.alloc (.cells #[.int .i64 L1, .slice a1 n1 c1, .int .i64 V1] 56)).heap.size, 2, none⟩ = some (.int .i64 V2) := by rw [cell_of_row _ _ _ _ _ _ (heap_alloc_last _ _)]; rfl
    have es : (w.alloc (.cells #[.int .i64 L1, .slice a1 n1 c1, .int .i64 V1] 56)).heap.size = w.heap.size + 1 := World.size_alloc _ _
    rw [es] at k2
    have K1 : Hid (((w.alloc (.cells #[.int .i64 L1, .slice a1 n1 c1, .int .i64 V1] 56)).alloc (.cells #[.int .i64 L2, .slice a2 n2 c2, .int .i64 V2] 56)).cell? ⟨w.heap.size, 2, none⟩ = some (.int .i64 V1)) := k1
    have K2 : Hid (((w.alloc (.cells #[.int .i64 L1, .slice a1 n1 c1, .int .i64 V1] 56)).alloc (.cells #[.int .i64 L2, .slice a2 n2 c2, .int .i64 V2] 56)).cell? ⟨w.heap.size + 1, 2, none⟩ = some (.int .i64 V2)) := k2
    clear es k1 k2
    have HLL : Hid (L1 = L2) := hL
    clear hL
    cases rR with
    | true =>
      go_enter Try.func25, Try.ntmps25
      go_wp2_with fail
      refine (HE.out _ HG.out).mono ?_
      rintro e w2 ⟨rfl, hg2, hg3⟩
      have m1 := hg3.cell K1.out (by simp)
      have m2 := hg3.cell K2.out (by simp)
      have HG2 : Hid (w.grownBy w2 none) := hg2
      clear hg2 hg3 K1 K2 HG
      by_cases hV : V1 = V2
      · have d2 : (V1 == V2) = true := beq_iff_eq.2 hV
        have hrt : r = true := HR.out.2 ⟨HLL.out, trivial, hV⟩
        clear hV
        go_wp2_with fail
        go_ret
        exact ⟨by rw [hrt]; rfl, HG2.out⟩
      · have d2 : (V1 == V2) = false := beq_eq_false_iff_ne.2 hV
        have hrf : r = false := Bool.eq_false_iff.2 fun hh => hV (HR.out.1 hh).2.2
        clear hV
        go_wp2_with fail
        go_ret
        exact ⟨by rw [hrf]; rfl, HG2.out⟩
    | false =>
      have hrf : r = false := Bool.eq_false_iff.2 fun hh => by have := (HR.out.1 hh).2.1; cases this
      go_enter Try.func25, Try.ntmps25
      go_wp2_with fail
      refine (HE.out _ HG.out).mono ?_
      rintro e w2 ⟨rfl, hg2, hg3⟩
      have HG2 : Hid (w.grownBy w2 none) := hg2
      clear hg2 hg3 K1 K2 HG
      go_wp2_with fail
      go_ret
      exact ⟨by rw [hrf]; rfl, HG2.out⟩
  · have d1 : (L1 == L2) = false := beq_eq_false_iff_ne.2 hL
    have hrf : r = false := Bool.eq_false_iff.2 fun hh => hL (HR.out.1 hh).1
    clear hL
    go_enter Try.func25, Try.ntmps25
    go_wp2_with fail
    go_ret
    exact ⟨by rw [hrf]; rfl, grown_trans (World.grownBy_alloc _ _ none) (World.grownBy_alloc _ _ none)⟩

/-- Two rows of productions are alike. -/
def prodsSame (n m : Nat) (L1 : Nat → Int) (R1 : Nat → List Int) (V1 : Nat → Int) (L2 : Nat → Int) (R2 : Nat → List Int) (V2 : Nat → Int) : Prop := n = m ∧ ∀ i, i < n → L1 i = L2 i ∧ R1 i = R2 i ∧ V1 i = V2 i

end Go.Proofs.Ytkcdipnobgggkab

namespace Go.Proofs.Ytkcdipnobgggkab
open Go.RowKit Go.Maps Go.Shelf

attribute [local go_sem] Oper.semAt_some

/-- Two boxed grammars. -/
structure Ph2 (w wr : World) (cs cs' : Array Value) : Prop where
  grown : w.grownBy wr none
  box : wr.heap[w.heap.size]? = some (.cells cs 27 (0, 0))
  box' : wr.heap[w.heap.size + 1]? = some (.cells cs' 27 (0, 0))
theorem Ph2.kept {w wr wx : World} {cs cs' : Array Value} (h : Ph2 w wr cs cs') (hg : wr.grownBy wx none) : Ph2 w wx cs cs' :=
  ⟨grown_trans h.grown hg, (hg.block _ (Array.getElem?_eq_some_iff.1 h.box).1 (by simp)).trans h.box, (hg.block _ (Array.getElem?_eq_some_iff.1 h.box').1 (by simp)).trans h.box'⟩
theorem Ph2.cells {w wr : World} {v0 v1 v2 v3 v4 u0 u1 u2 u3 u4 : Value} (h : Ph2 w wr #[v0, v1, v2, v3, v4] #[u0, u1, u2, u3, u4]) :
    (wr.cell? ⟨w.heap.size, 0, none⟩ = some v0 ∧ wr.cell? ⟨w.heap.size, 1, none⟩ = some v1 ∧ wr.cell? ⟨w.heap.size, 2, none⟩ = some v2 ∧ wr.cell? ⟨w.heap.size, 3, none⟩ = some v3 ∧ wr.cell? ⟨w.heap.size, 4, none⟩ = some v4) ∧
    (wr.cell? ⟨w.heap.size + 1, 0, none⟩ = some u0 ∧ wr.cell? ⟨w.heap.size + 1, 1, none⟩ = some u1 ∧ wr.cell? ⟨w.heap.size + 1, 2, none⟩ = some u2 ∧ wr.cell? ⟨w.heap.size + 1, 3, none⟩ = some u3 ∧ wr.cell? ⟨w.heap.size + 1, 4, none⟩ = some u4) := by
  refine ⟨⟨?_, ?_, ?_, ?_, ?_⟩, ?_, ?_, ?_, ?_, ?_⟩
  · rw [cell_of_row _ _ _ _ _ _ h.box]; rfl
  · rw [cell_of_row _ _ _ _ _ _ h.box]; rfl
  · rw [cell_of_row _ _ _ _ _ _ h.box]; rfl
  · rw [cell_of_row _ _ _ _ _ _ h.box]; rfl
  · rw [cell_of_row _ _ _ _ _ _ h.box]; rfl
  · rw [cell_of_row _ _ _ _ _ _ h.box']; rfl
  · rw [cell_of_row _ _ _ _ _ _ h.box']; rfl
  · rw [cell_of_row _ _ _ _ _ _ h.box']; rfl
  · rw [cell_of_row _ _ _ _ _ _ h.box']; rfl
  · rw [cell_of_row _ _ _ _ _ _ h.box']; rfl
theorem Ph2.mk' (w : World) (cs cs' : Array Value) : Ph2 w ((w.alloc (.cells cs 27)).alloc (.cells cs' 27)) cs cs' := by
  have h1 := heap_alloc_last w (.cells cs 27)
  have h2 := heap_alloc_last (w.alloc (.cells cs 27)) (.cells cs' 27)
  rw [World.size_alloc] at h2
  refine ⟨grown_trans (World.grownBy_alloc _ _ none) (World.grownBy_alloc _ _ none), ?_, h2⟩
  exact ((World.grownBy_alloc _ _ none).block _ (Array.getElem?_eq_some_iff.1 h1).1 (by simp)).trans h1

section
variable (ta na la pa ta' na' la' pa' : Option Addr) (tn nn ln pn tc nc lc pc tn' nn' ln' pn' tc' nc' lc' pc' : Nat) (st st' : Int)

end

end Go.Proofs.Ytkcdipnobgggkab

/-
  The document's levelsFit and nonsFit.
-/
namespace Go.Proofs.Ytkcdipnobgggkab
open Go.RowKit

theorem nodup_idx {α : Type} (d : α) (l : List α) : l.Nodup ↔ ∀ i k, k < i → i < l.length → l.getD k d ≠ l.getD i d := by
  rw [List.nodup_iff_pairwise_ne, List.pairwise_iff_getElem]
  constructor
  · intro h i k hk hi
    have := h k i (by omega) hi hk
    simpa [List.getD, hi, show k < l.length by omega] using this
  · intro h i j hi hj hij
    have := h j i hij hj
    simpa [List.getD, hi, hj] using this

def t0 : ByteArray × Int := (⟨#[]⟩, 0)
/-- The terminal at i. -/
def termAt (ts : List (ByteArray × Int)) (ln i : Nat) : Prop := termOK ln (ts.getD i (⟨#[]⟩, 0)) ∧ ∀ k, 1 ≤ k → k < i → (ts.getD k (⟨#[]⟩, 0)).1 ≠ (ts.getD i (⟨#[]⟩, 0)).1
theorem termsOK_idx (ts : List (ByteArray × Int)) (ln : Nat) : termsOK ts ln ↔ (0 < ts.length ∧ ts.getD 0 (⟨#[]⟩, 0) = (⟨#[]⟩, 0)) ∧ ∀ i, 1 ≤ i → i < ts.length → termAt ts ln i := by
  cases ts with
  | nil =>
    constructor
    · rintro ⟨rest, h, _⟩; cases h
    · rintro ⟨⟨h, _⟩, _⟩; simp at h
  | cons t rest =>
    constructor
    · rintro ⟨rest', h, h1, h2⟩
      cases h
      refine ⟨⟨by simp, by simp⟩, fun i hi hl => ?_⟩
      obtain ⟨j, rfl⟩ : ∃ j, i = j + 1 := ⟨i - 1, by omega⟩
      have hj : j < rest.length := by simpa using hl
      refine ⟨?_, fun k hk hki => ?_⟩
      · have : (((⟨#[]⟩, 0) : ByteArray × Int) :: rest).getD (j + 1) (⟨#[]⟩, 0) = rest[j] := by simp [List.getD, hj]
        rw [this]
        exact h1 _ (List.getElem_mem hj)
      · obtain ⟨m, rfl⟩ : ∃ m, k = m + 1 := ⟨k - 1, by omega⟩
        have := (nodup_idx ⟨#[]⟩ _).1 h2 j m (by omega) (by simpa using hj)
        have hm : m < rest.length := by omega
        simpa [List.getD, hj, hm] using this
    · rintro ⟨⟨_, h0⟩, h⟩
      have h0' : t = (⟨#[]⟩, 0) := by simpa using h0
      subst h0'
      refine ⟨rest, rfl, fun t ht => ?_, (nodup_idx ⟨#[]⟩ _).2 fun i k hk hi => ?_⟩
      · obtain ⟨j, hj, rfl⟩ := List.getElem_of_mem ht
        have := (h (j + 1) (by omega) (by simpa using hj)).1
        simpa [List.getD, hj] using this
      · have hi' : i < rest.length := by simpa using hi
        have hk' : k < rest.length := by omega
        have := (h (i + 1) (by omega) (by simpa using hi')).2 (k + 1) (by omega) (by omega)
        simpa [List.getD, hi', hk'] using this

/-- The nonterminal at i, of those from ad on. -/
def nonAt (ns : List ByteArray) (ad i : Nat) : Prop := isNameB (ns.getD i ⟨#[]⟩) = true ∧ ∀ k, ad ≤ k → k < i → ns.getD k ⟨#[]⟩ ≠ ns.getD i ⟨#[]⟩
theorem nonsOK_idx (ns : List ByteArray) : ((∀ s ∈ ns, isNameB s = true) ∧ ns.Nodup) ↔ ∀ i, 0 ≤ i → i < ns.length → nonAt ns 0 i := by
  constructor
  · rintro ⟨h1, h2⟩ i _ hi
    exact ⟨h1 _ (getD_mem hi), fun k _ hk => (nodup_idx ⟨#[]⟩ _).1 h2 i k hk hi⟩
  · intro h
    refine ⟨fun s hs => ?_, (nodup_idx ⟨#[]⟩ _).2 fun i k hk hi => (h i (Nat.zero_le _) hi).2 k (Nat.zero_le _) hk⟩
    obtain ⟨j, hj, rfl⟩ := List.getElem_of_mem hs
    have := (h j (Nat.zero_le _) hj).1
    simpa [List.getD, hj] using this

/-- What the document's fits asks. -/
structure fitsOK (ad : Nat) (ts : List (ByteArray × Int)) (ns : List ByteArray) (lv : List Int) (st : Int) (n : Nat) (L : Nat → Int) (R : Nat → List Int) (V : Nat → Int) : Prop where
  nn : ns.length ≤ 64 + ad
  tn : ts.length ≤ 65
  pn : n ≤ 96 + ad
  p1 : 1 + ad ≤ n
  ln : lv.length ≤ 64
  syms : (ts.length : Int) - 1 + ns.length - ad ≤ 64
  terms : (0 < ts.length ∧ ts.getD 0 (⟨#[]⟩, 0) = (⟨#[]⟩, 0)) ∧ ∀ i, 1 ≤ i → i < ts.length → termAt ts lv.length i
  levels : ∀ j, j < lv.length → levelOK ts lv j
  nons : ∀ i, ad ≤ i → i < ns.length → nonAt ns ad i
  prods : ∀ i, ad ≤ i → i < n → prodOK ts.length ns.length lv.length ad (L i) (R i) (V i)
  lefts : (leftsTo (fun i => L (ad + i)) (n - ad)).length + ad = ns.length
  start : isNonI ts.length ns.length ad st

theorem nodup_short' {α : Type} [DecidableEq α] : ∀ (l m : List α), l.Nodup → (∀ x ∈ l, x ∈ m) → l.length ≤ m.length
  | [], _, _, _ => Nat.zero_le _
  | a :: l, m, hn, hs => by
    rw [List.nodup_cons] at hn
    have ha := hs a (by simp)
    have h := nodup_short' l (m.erase a) hn.2 (fun x hx => (List.mem_erase_of_ne (fun e => hn.1 (by rw [← e]; exact hx))).2 (hs x (by simp [hx])))
    rw [List.length_erase_of_mem ha] at h
    have : 0 < m.length := List.length_pos_of_mem ha
    simp only [List.length_cons]
    omega

theorem levels_few {ts : List (ByteArray × Int)} {lv : List Int} (h0 : 0 < ts.length) (h1 : ts.getD 0 (⟨#[]⟩, 0) = (⟨#[]⟩, 0)) (h : ∀ j, j < lv.length → levelOK ts lv j) : lv.length + 1 ≤ ts.length := by
  have hnd : ((List.range (lv.length + 1)).map fun i : Nat => (i : Int)).Nodup := by
    rw [List.nodup_iff_pairwise_ne, List.pairwise_map]
    exact (List.nodup_range (n := lv.length + 1)).imp (fun h e => h (by omega))
  have h := nodup_short' _ (ts.map (·.2)) hnd (fun x hx => by
    obtain ⟨i, hi, rfl⟩ := List.mem_map.1 hx
    have hi' := List.mem_range.1 hi
    cases i with
    | zero =>
      cases ts with
      | nil => simp at h0
      | cons t r => have : t = (⟨#[]⟩, 0) := by simpa using h1
                    simp [this]
    | succ j =>
      obtain ⟨_, t, ht, e⟩ := h j (by omega)
      exact List.mem_map.2 ⟨t, ht, by rw [e]; simp⟩)
  simpa using h

theorem fits_holds (ts : List (ByteArray × Int)) (ns : List ByteArray) (lv : List Int) (st : Int) (n : Nat) (L : Nat → Int) (R : Nat → List Int) (V : Nat → Int) : fitsOK 0 ts ns lv st n L R V ↔ holdsOK ts ns lv st n L R V := by
  have e : (fun i => L (0 + i)) = L := by funext i; rw [Nat.zero_add]
  constructor
  · intro h
    refine ⟨by have := h.syms; omega, by have := h.pn; omega, (termsOK_idx _ _).2 h.terms, (nonsOK_idx _).2 h.nons, h.levels, fun i hi => h.prods i (Nat.zero_le _) hi, ?_, h.start⟩
    have := h.lefts
    rw [e] at this
    simpa using this
  · intro h
    have ht := (termsOK_idx _ _).1 h.terms
    have h1 := h.syms
    have h2 := ht.1.1
    have h3 := levels_few ht.1.1 ht.1.2 h.levels
    have h4 := h.start
    unfold isNonI at h4
    have h5 := h.lefts
    have h6 := leftsTo_le L n
    exact ⟨by omega, by omega, h.cnt, by omega, by omega, by omega, ht, h.levels, (nonsOK_idx _).1 h.nons, fun i _ hi => h.prods i hi, by rw [e]; simpa using h5, h.start⟩

/-! ### The order -/
theorem leftsTo_nodup (L : Nat → Int) : ∀ n, (leftsTo L n).Nodup
  | 0 => by simp [leftsTo]
  | n + 1 => by
    rw [leftsTo_succ]
    unfold leftStep
    split
    · exact leftsTo_nodup L n
    · next h => exact List.nodup_append.2 ⟨leftsTo_nodup L n, by simp, fun a ha b hb => by rw [List.mem_singleton.1 hb]; exact fun e => h (e ▸ ha)⟩
theorem leftsTo_mem (L : Nat → Int) (x : Int) : ∀ n, x ∈ leftsTo L n ↔ ∃ i, i < n ∧ L i = x
  | 0 => by simp [leftsTo]
  | n + 1 => by
    rw [leftsTo_succ]
    unfold leftStep
    have ih := leftsTo_mem L x n
    split
    · next h =>
      rw [ih]
      constructor
      · rintro ⟨i, hi, e⟩; exact ⟨i, by omega, e⟩
      · rintro ⟨i, hi, e⟩
        by_cases hin : i = n
        · rw [← ih, ← e, hin]; exact h
        · exact ⟨i, by omega, e⟩
    · rw [List.mem_append, ih, List.mem_singleton]
      constructor
      · rintro (⟨i, hi, e⟩ | e)
        · exact ⟨i, by omega, e⟩
        · exact ⟨n, by omega, e.symm⟩
      · rintro ⟨i, hi, e⟩
        by_cases hin : i = n
        · right; rw [← e, hin]
        · exact .inl ⟨i, by omega, e⟩

/-- Numbers that grow, no two alike, of a span that they fill. -/
theorem asc_fill {l : List Int} {m : Int} {k : Nat} (hl : l.length = k) (ha : Asc l) (hn : l.Nodup) (hb : ∀ x ∈ l, m ≤ x ∧ x < m + k) : ∀ i, i < k → l.getD i 0 = m + i := by
  have hmem : ∀ i, i < k → l.getD i 0 ∈ l := fun i hi => by
    have : l.getD i 0 = l[i] := by simp [List.getD, show i < l.length by omega]
    rw [this]; exact List.getElem_mem _
  have hstep : ∀ i, i + 1 < k → l.getD i 0 + 1 ≤ l.getD (i + 1) 0 := fun i hi => by
    have h1 := ha i (by omega)
    have h2 := (nodup_idx (0 : Int) l).1 hn (i + 1) i (by omega) (by omega)
    omega
  have hlow : ∀ i, i < k → m + i ≤ l.getD i 0 := fun i => by
    induction i with
    | zero => intro h; have := (hb _ (hmem 0 h)).1; simpa using this
    | succ j ih => intro h; have h1 := ih (by omega); have h2 := hstep j h; omega
  have hup : ∀ d i, i + d + 1 = k → l.getD i 0 ≤ m + i := fun d => by
    induction d with
    | zero => intro i h; have := (hb _ (hmem i (by omega))).2; omega
    | succ d ih => intro i h; have h1 := ih (i + 1) (by omega); have h2 := hstep i (by omega); omega
  intro i hi
  have h1 := hlow i hi
  have h2 := hup (k - 1 - i) i (by omega)
  omega
theorem fill_asc {l : List Int} {m : Int} {k : Nat} (hl : l.length = k) (h : ∀ i, i < k → l.getD i 0 = m + i) : Asc l := fun i hi => by
  rw [h i (by omega), h (i + 1) (by omega)]; omega
/-- The Lefts in their order, of a grammar that holds. -/
theorem order_iff {ts : List (ByteArray × Int)} {ns : List ByteArray} {lv : List Int} {st : Int} {n : Nat} {L : Nat → Int} {R : Nat → List Int} {V : Nat → Int} (h : holdsOK ts ns lv st n L R V) : Asc (leftsTo L n) ↔ ∀ i, i < (leftsTo L n).length → (leftsTo L n).getD i 0 = (ts.length : Int) + i := by
  constructor
  · intro ha
    refine asc_fill rfl ha (leftsTo_nodup L n) fun x hx => ?_
    obtain ⟨i, hi, rfl⟩ := (leftsTo_mem L x n).1 hx
    have := (h.prods i hi).1
    unfold isNonI at this
    rw [h.lefts]
    omega
  · exact fun hf => fill_asc rfl hf

end Go.Proofs.Ytkcdipnobgggkab

namespace Go.Proofs.Ytkcdipnobgggkab
open Go.RowKit

attribute [local go_sem] Oper.semAt_some

end Go.Proofs.Ytkcdipnobgggkab

namespace Go.Proofs.Ytkcdipnobgggkab
open Go.RowKit

attribute [local go_sem] Oper.semAt_some

theorem strEq_true {s t : ByteArray} (h : s = t) : (s.toList == t.toList) = true := by rw [h]; simp
theorem strEq_false {s t : ByteArray} (h : s ≠ t) : (s.toList == t.toList) = false := by
  rw [beq_eq_false_iff_ne]
  intro e
  rw [ByteArray.toList_eq, ByteArray.toList_eq] at e
  exact h (bytes_ext e)

theorem isEmpty_false {s : ByteArray} (h : s ≠ ⟨#[]⟩) : s.toList.isEmpty = false := by
  cases e : s.toList with
  | nil =>
    rw [ByteArray.toList_eq] at e
    exact absurd (bytes_ext (by rw [e])) h
  | cons x r => rfl

end Go.Proofs.Ytkcdipnobgggkab

namespace Go.Proofs.Ytkcdipnobgggkab
open Go.RowKit

attribute [local go_sem] Oper.semAt_some

end Go.Proofs.Ytkcdipnobgggkab

/-
  hasAdded of any grammar.
-/
namespace Go.Proofs.Ytkcdipnobgggkab
open Go.RowKit Go.Maps Go.Shelf

/-- Are the first nonterminal and production 0 the added ones? -/
structure addedOK (ts : List (ByteArray × Int)) (ns : List ByteArray) (st : Int) (n : Nat) (L : Nat → Int) (R : Nat → List Int) (V : Nat → Int) : Prop where
  nn : 0 < ns.length
  name : ns.getD 0 ⟨#[]⟩ = ⟨#[]⟩
  pn : 0 < n
  left : L 0 = ts.length
  right : R 0 = [st]
  level : V 0 = 0

attribute [local go_sem] Oper.semAt_some

set_option maxRecDepth 100000 in
set_option maxHeartbeats 1000000 in
theorem hasAdded_look (bn on bp op : Nat) (ta la ra : Option Addr) (tn nn ln pn tc nc lc pc rc : Nat) (st L0 V0 : Int) (R0 : List Int) (w : World) (hn : w.cell? ⟨bn, on, none⟩ = some (.string ⟨#[]⟩)) (h0 : 0 < nn) (hp : 0 < pn)
    (p0 : w.cell? ⟨bp, op, none⟩ = some (.int .i64 L0)) (p1 : w.cell? ⟨bp, op + 1, none⟩ = some (.slice ra R0.length rc)) (p2 : w.cell? ⟨bp, op + 2, none⟩ = some (.int .i64 V0)) (hR : IntsAt w ra R0) (hRl : R0.length ≤ 17592186044416) (r : Bool) (hr : r = true ↔ (L0 = tn ∧ R0 = [st] ∧ V0 = 0)) :
    Calls Try.prog 21 #[.agg #[.slice ta tn tc, .slice (some ⟨bn, on, none⟩) nn nc, .slice la ln lc, .int .i64 st, .slice (some ⟨bp, op, none⟩) pn pc]] w fun e w' => e = .returned (.bool r) ∧ w.grownBy w' none := by
  have HSP : Hid (∀ W a, w.grownBy W none → IntsAt W a [st] → Calls Try.prog 25 #[.agg #[.int .i64 L0, .slice ra R0.length rc, .int .i64 V0], .agg #[.int .i64 tn, .slice a 1 1, .int .i64 0]] W fun e w' => e = .returned (.bool r) ∧ W.grownBy w' none) := fun W a hg ha =>
    sameProd_any L0 tn V0 0 ra a rc 1 R0 [st] W (hR.kept hg) ha hRl r hr
  have hd : decide (0 < (nn : Int)) = true := decide_eq_true (by omega)
  have hd' : decide (0 < nn) = true := decide_eq_true h0
  have hd2 : decide (0 < (pn : Int)) = true := decide_eq_true (by omega)
  have hd2' : decide (0 < pn) = true := decide_eq_true hp
  obtain ⟨W, hW⟩ : ∃ W, W = w.alloc (.cells #[.slice ta tn tc, .slice (some ⟨bn, on, none⟩) nn nc, .slice la ln lc, .int .i64 st, .slice (some ⟨bp, op, none⟩) pn pc] 27) := ⟨_, rfl⟩
  have HW := show Hid _ from hW
  have hgW : w.grownBy W none := by rw [hW]; exact World.grownBy_alloc w _ none
  have hbox : W.heap[w.heap.size]? = some (.cells #[.slice ta tn tc, .slice (some ⟨bn, on, none⟩) nn nc, .slice la ln lc, .int .i64 st, .slice (some ⟨bp, op, none⟩) pn pc] 27 (0, 0)) := by rw [hW]; exact heap_alloc_last w _
  have HGW := show Hid _ from hgW
  have b0 : W.cell? ⟨w.heap.size, 0, none⟩ = some (.slice ta tn tc) := by rw [cell_of_row _ _ _ _ _ _ hbox]; rfl
  have b1 : W.cell? ⟨w.heap.size, 1, none⟩ = some (.slice (some ⟨bn, on, none⟩) nn nc) := by rw [cell_of_row _ _ _ _ _ _ hbox]; rfl
  have b3 : W.cell? ⟨w.heap.size, 3, none⟩ = some (.int .i64 st) := by rw [cell_of_row _ _ _ _ _ _ hbox]; rfl
  have b4 : W.cell? ⟨w.heap.size, 4, none⟩ = some (.slice (some ⟨bp, op, none⟩) pn pc) := by rw [cell_of_row _ _ _ _ _ _ hbox]; rfl
  have n0 : W.cell? ⟨bn, on, none⟩ = some (.string ⟨#[]⟩) := hgW.cell hn (by simp)
  have q0 : W.cell? ⟨bp, op, none⟩ = some (.int .i64 L0) := hgW.cell p0 (by simp)
  have q1 : W.cell? ⟨bp, op + 1, none⟩ = some (.slice ra R0.length rc) := hgW.cell p1 (by simp)
  have q2 : W.cell? ⟨bp, op + 2, none⟩ = some (.int .i64 V0) := hgW.cell p2 (by simp)
  have hgA : W.grownBy (W.alloc (.cells #[.int .i64 st] 3)).drew none := grown_trans (World.grownBy_alloc W _ none) (grown_drewN _ 1)
  have HKP : Hid (∀ w1, (W.alloc (.cells #[.int .i64 st] 3)).drew.grownBy w1 none → w1.cell? ⟨w.heap.size, 0, none⟩ = some (.slice ta tn tc) ∧ w1.cell? ⟨w.heap.size, 1, none⟩ = some (.slice (some ⟨bn, on, none⟩) nn nc) ∧ w1.cell? ⟨w.heap.size, 3, none⟩ = some (.int .i64 st) ∧ w1.cell? ⟨w.heap.size, 4, none⟩ = some (.slice (some ⟨bp, op, none⟩) pn pc) ∧ w1.cell? ⟨bn, on, none⟩ = some (.string ⟨#[]⟩) ∧ w1.cell? ⟨bp, op, none⟩ = some (.int .i64 L0) ∧ w1.cell? ⟨bp, op + 1, none⟩ = some (.slice ra R0.length rc) ∧ w1.cell? ⟨bp, op + 2, none⟩ = some (.int .i64 V0)) := fun w1 h1 => by
    have hg := grown_trans hgA h1
    exact ⟨hg.cell b0 (by simp), hg.cell b1 (by simp), hg.cell b3 (by simp), hg.cell b4 (by simp), hg.cell n0 (by simp), hg.cell q0 (by simp), hg.cell q1 (by simp), hg.cell q2 (by simp)⟩
  have HC := show Hid _ from HSP.out (W.alloc (.cells #[.int .i64 st] 3)).drew (some ⟨W.heap.size, 0, none⟩) (grown_trans hgW hgA) (.inr ⟨W.heap.size, 0, rfl, fun i hi => by
    have : i = 0 := by simp at hi; omega
    subst this
    show (W.alloc (.cells #[.int .i64 st] 3)).cell? _ = _
    rw [cell_of_row _ _ _ _ _ _ (heap_alloc_last W _)]; rfl⟩)
  have HGA : Hid (w.grownBy (W.alloc (.cells #[.int .i64 st] 3)).drew none) := grown_trans hgW hgA
  clear hn p0 p1 p2 hR hr hW hgW hbox hgA HSP
  go_enter Try.func21, Try.ntmps21
  go_wp2_with fail
  rw [← HW.out]
  generalize w.heap.size = gb at *
  go_region_held3 (fun w' => w'.cell? ⟨gb, 0, none⟩ = some (.slice ta tn tc) ∧ w'.cell? ⟨gb, 1, none⟩ = some (.slice (some ⟨bn, on, none⟩) nn nc) ∧ w'.cell? ⟨gb, 3, none⟩ = some (.int .i64 st) ∧ w'.cell? ⟨gb, 4, none⟩ = some (.slice (some ⟨bp, op, none⟩) pn pc) ∧ w'.cell? ⟨bn, on, none⟩ = some (.string ⟨#[]⟩) ∧ w'.cell? ⟨bp, op, none⟩ = some (.int .i64 L0) ∧ w'.cell? ⟨bp, op + 1, none⟩ = some (.slice ra R0.length rc) ∧ w'.cell? ⟨bp, op + 2, none⟩ = some (.int .i64 V0)) (first | go_keep | exact HKP.out _ hg1) ((go_at_call 25; refine Calls.mono HC.out ?_; rintro e w1 ⟨rfl, hg1⟩))
  all_goals go_wp2_with fail
  all_goals go_ret
  all_goals exact ⟨rfl, grown_trans HGA.out (by first | exact hg1 | exact grown_trans hg1 (grown_drewN _ 1))⟩

set_option maxRecDepth 100000 in
set_option maxHeartbeats 1000000 in
theorem hasAdded_nons (ta na la pa : Option Addr) (tn ln pn tc nc lc pc : Nat) (st : Int) (w : World) :
    Calls Try.prog 21 #[.agg #[.slice ta tn tc, .slice na 0 nc, .slice la ln lc, .int .i64 st, .slice pa pn pc]] w fun e w' => e = .returned (.bool false) ∧ w.grownBy w' none := by
  go_enter Try.func21, Try.ntmps21
  go_wp2_with fail
  go_quiet (fail)
  go_wp2
  go_ret
  exact ⟨by first | rfl | simp, grown_trans (World.grownBy_alloc _ _ none) (grown_drewN _ _)⟩

set_option maxRecDepth 100000 in
set_option maxHeartbeats 1000000 in
theorem hasAdded_prods (bn on : Nat) (ta la pa : Option Addr) (tn nn ln tc nc lc pc : Nat) (st : Int) (w : World) (hn : w.cell? ⟨bn, on, none⟩ = some (.string ⟨#[]⟩)) (h0 : 0 < nn) :
    Calls Try.prog 21 #[.agg #[.slice ta tn tc, .slice (some ⟨bn, on, none⟩) nn nc, .slice la ln lc, .int .i64 st, .slice pa 0 pc]] w fun e w' => e = .returned (.bool false) ∧ w.grownBy w' none := by
  have hc' : ∀ o, (w.alloc o).cell? ⟨bn, on, none⟩ = some (.string ⟨#[]⟩) := fun o => (World.grownBy_alloc w o none).cell hn (by simp)
  have hc2 : ∀ o, (w.alloc o).drew.cell? ⟨bn, on, none⟩ = some (.string ⟨#[]⟩) := fun o => hc' o
  have hd : decide (0 < (nn : Int)) = true := decide_eq_true (by omega)
  have hd' : decide (0 < nn) = true := decide_eq_true h0
  clear hn
  go_enter Try.func21, Try.ntmps21
  go_wp2_with fail
  go_quiet (fail)
  go_wp2
  go_ret
  exact ⟨by first | rfl | simp, grown_trans (World.grownBy_alloc _ _ none) (grown_drewN _ _)⟩

theorem hasAdded_any {w : World} {ta na la pa : Option Addr} {tc nc lc pc : Nat} {ts : List (ByteArray × Int)} {ns : List ByteArray} {lv : List Int} {n : Nat} {L : Nat → Int} {R : Nat → List Int} {ra : Nat → Option Addr} {rc : Nat → Nat} {V : Nat → Int} (st : Int) (hG : GAt w ta na la pa tc nc lc pc ts ns lv n L R ra rc V) (r : Bool) (hr : r = true ↔ addedOK ts ns st n L R V) :
    Calls Try.prog 21 #[.agg #[.slice ta ts.length tc, .slice na ns.length nc, .slice la lv.length lc, .int .i64 st, .slice pa n pc]] w fun e w' => e = .returned (.bool r) ∧ w.grownBy w' none := by
  have no : ¬ addedOK ts ns st n L R V → r = false := fun h => Bool.eq_false_iff.2 fun hh => h (hr.1 hh)
  by_cases h0 : ns.length = 0
  · rw [no (fun h => by have := h.nn; omega), h0]
    exact hasAdded_nons ta na la pa _ _ _ _ _ _ _ st w
  · obtain ⟨bn, on, rfl, hns⟩ : ∃ b off, na = some ⟨b, off, none⟩ ∧ ∀ i, i < ns.length → w.cell? ⟨b, off + i, none⟩ = some (.string (ns.getD i ⟨#[]⟩)) := by
      rcases hG.nons with h | h
      · rw [h] at h0; simp at h0
      · exact h
    have hc := hns 0 (by omega)
    by_cases hs : ns.getD 0 ⟨#[]⟩ = ⟨#[]⟩
    · rw [hs] at hc
      by_cases hp : n = 0
      · subst hp
        rw [no (fun h => by have := h.pn; omega)]
        exact hasAdded_prods bn on ta la pa _ _ _ _ _ _ _ st w hc (by omega)
      · obtain ⟨bp, op, rfl, hps⟩ : ∃ b off, pa = some ⟨b, off, none⟩ ∧ ∀ k, k < n → w.cell? ⟨b, off + k * 3, none⟩ = some (.int .i64 (L k)) ∧ w.cell? ⟨b, off + k * 3 + 1, none⟩ = some (.slice (ra k) (R k).length (rc k)) ∧ w.cell? ⟨b, off + k * 3 + 2, none⟩ = some (.int .i64 (V k)) ∧ IntsAt w (ra k) (R k) ∧ (ra k = none → rc k = 0) ∧ (R k).length ≤ 17592186044416 := by
          rcases hG.prods with h | h
          · exact absurd h hp
          · exact h
        obtain ⟨p0, p1, p2, p3, _, p5⟩ := hps 0 (by omega)
        simp only [Nat.zero_mul, Nat.add_zero] at p0 p1 p2
        refine hasAdded_look bn on bp op ta la (ra 0) ts.length ns.length lv.length n tc nc lc pc (rc 0) st (L 0) (V 0) (R 0) w hc (by omega) (by omega) p0 p1 p2 p3 p5 r ?_
        rw [hr]
        exact ⟨fun h => ⟨h.left, h.right, h.level⟩, fun ⟨h1, h2, h3⟩ => ⟨by omega, hs, by omega, h1, h2, h3⟩⟩
    · rw [no (fun h => hs h.name)]
      refine hasAdded_no bn on ta la pa _ _ _ _ _ _ _ _ st (ns.getD 0 ⟨#[]⟩) w hc (by omega) ?_
      apply Nat.pos_of_ne_zero
      intro hz
      apply hs
      cases hh : ns.getD 0 ⟨#[]⟩ with
      | mk d =>
        rw [hh] at hz
        have : d.size = 0 := hz
        rw [Array.eq_empty_of_size_eq_zero this]

end Go.Proofs.Ytkcdipnobgggkab

/-
  The document's Symbols and prodsFit.
-/
namespace Go.Proofs.Ytkcdipnobgggkab
open Go.RowKit

attribute [local go_sem] Oper.semAt_some

/-- The grammar's box and a production's. -/
structure PrAt (w wr : World) (Bg : Nat) (cs : Array Value) (Bp : Nat) (ps : Array Value) : Prop where
  ph : PhAt w wr Bg cs
  box : wr.heap[Bp]? = some (.cells ps 56 (0, 0))
theorem PrAt.kept {w wr wx : World} {Bg Bp : Nat} {cs ps : Array Value} (h : PrAt w wr Bg cs Bp ps) (hg : wr.grownBy wx none) : PrAt w wx Bg cs Bp ps :=
  ⟨h.ph.kept hg, (hg.block Bp (Array.getElem?_eq_some_iff.1 h.box).1 (by simp)).trans h.box⟩
theorem PrAt.cells {w wr : World} {Bg Bp : Nat} {cs : Array Value} {v0 v1 v2 : Value} (h : PrAt w wr Bg cs Bp #[v0, v1, v2]) : wr.cell? ⟨Bp, 0, none⟩ = some v0 ∧ wr.cell? ⟨Bp, 1, none⟩ = some v1 ∧ wr.cell? ⟨Bp, 2, none⟩ = some v2 := by
  refine ⟨?_, ?_, ?_⟩ <;> rw [cell_of_row _ _ _ _ _ _ h.box] <;> rfl
theorem PrAt.made {w wr : World} {Bg : Nat} {cs ps : Array Value} (h : PhAt w wr Bg cs) : PrAt w (wr.alloc (.cells ps 56)) Bg cs wr.heap.size ps := ⟨h.kept (World.grownBy_alloc _ _ none), heap_alloc_last wr _⟩

end Go.Proofs.Ytkcdipnobgggkab

/-
  The document's fits and Valid.
-/
namespace Go.Proofs.Ytkcdipnobgggkab
open Go.RowKit

attribute [local go_sem] Oper.semAt_some

theorem mem_idx (l : List Int) (x : Int) : x ∈ l ↔ ∃ j, j < l.length ∧ l.getD j 0 = x := by
  constructor
  · intro h
    obtain ⟨j, hj, rfl⟩ := List.getElem_of_mem h
    exact ⟨j, hj, by simp [List.getD, hj]⟩
  · rintro ⟨j, hj, rfl⟩
    have : l.getD j 0 = l[j] := by simp [List.getD, hj]
    rw [this]; exact List.getElem_mem _

theorem PhAt.lt {w wr : World} {Bg : Nat} {cs : Array Value} (h : PhAt w wr Bg cs) : Bg < wr.heap.size := (Array.getElem?_eq_some_iff.1 h.box).1
theorem PhAt.keptRow {w wr wx : World} {cs : Array Value} {q : Nat} (h : PhAt w wr w.heap.size cs) (hg : wr.grownBy wx (some q)) (hq : w.heap.size + 1 ≤ q) : PhAt w wx w.heap.size cs :=
  ⟨grown_new h.grown hg (by omega), (hg.block _ h.lt (by simp; omega)).trans h.box⟩

end Go.Proofs.Ytkcdipnobgggkab

namespace Go.Proofs.Ytkcdipnobgggkab
open Go.RowKit

attribute [local go_sem] Oper.semAt_some

end Go.Proofs.Ytkcdipnobgggkab

/-
  The document's Valid of any grammar.
-/
namespace Go.Proofs.Ytkcdipnobgggkab
open Go.RowKit

attribute [local go_sem] Oper.semAt_some

end Go.Proofs.Ytkcdipnobgggkab
