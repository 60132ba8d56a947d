/-
  What a builder's memory is: two tables of names, the terminals' levels, the sides, the productions, the start symbol.
-/
import Derived.Test.YtkbpnafahimeiaaNames
import Derived.Deep.MidRow
import Derived.Deep.WholeRow
import Derived.Maps.OwnSet
import Derived.ArgAppend
import Derived.Below
namespace Go.Proofs.Ytkbpnafahimeiaa
open Go.RowKit Go.Maps

/-- A production by handles. -/
structure PR where
  left : Int
  right : List Int
  level : Int

/-- A builder as it is told. -/
structure BS where
  terms : List ByteArray
  nons : List ByteArray
  lev : Nat → Int
  sides : List Int
  prods : List PR
  start : Int
  /-- (A mark of the proof's own: the blocks that its lists may lie in.) -/
  P : Nat → Prop := fun _ => True

/-- A text's number in a table, counted from k on; 0 if it is not there. -/
def numFrom : List ByteArray → ByteArray → Nat → Nat
  | [], _, _ => 0
  | x :: r, s, k => if x.data.toList = s.data.toList then k else numFrom r s (k + 1)
def numOf (l : List ByteArray) (s : ByteArray) : Nat := numFrom l s 1

theorem bytes_ext {x s : ByteArray} (h : x.data.toList = s.data.toList) : x = s := by
  cases x; cases s; congr 1; exact Array.ext' h

theorem numFrom_zero_iff (s : ByteArray) : ∀ (l : List ByteArray) (k : Nat), 0 < k → (numFrom l s k = 0 ↔ s ∉ l)
  | [], k, _ => by simp [numFrom]
  | x :: r, k, hk => by
    unfold numFrom
    split
    · next h => have e := bytes_ext h; subst e; simp; omega
    · next h =>
      rw [numFrom_zero_iff s r (k + 1) (by omega)]
      have : ¬ s = x := fun e => h (by rw [e])
      simp [this]
theorem numFrom_le (s : ByteArray) : ∀ (l : List ByteArray) (k : Nat), numFrom l s k < k + l.length ∨ numFrom l s k = 0
  | [], k => .inr rfl
  | x :: r, k => by
    unfold numFrom
    split
    · left; simp
    · have := numFrom_le s r (k + 1); simp; omega
theorem numFrom_snoc_in (x s : ByteArray) : ∀ (l : List ByteArray) (k : Nat), s ∈ l → numFrom (l ++ [x]) s k = numFrom l s k
  | [], k, h => by cases h
  | y :: r, k, hs => by
    simp only [List.cons_append]
    unfold numFrom
    split
    · rfl
    · next h =>
      have : ¬ s = y := fun e => h (by rw [e])
      exact numFrom_snoc_in x s r (k + 1) (by simpa [this] using hs)
theorem numFrom_snoc_out (x s : ByteArray) : ∀ (l : List ByteArray) (k : Nat), s ∉ l → numFrom (l ++ [x]) s k = if x.data.toList = s.data.toList then k + l.length else 0
  | [], k, _ => by unfold numFrom; simp [numFrom]
  | y :: r, k, hs => by
    simp only [List.cons_append]
    unfold numFrom
    split
    · next h => exact absurd (by simp [bytes_ext h]) hs
    · rw [numFrom_snoc_out x s r (k + 1) (fun h => hs (by simp [h]))]
      split
      · simp; omega
      · rfl
theorem numOf_nil (s : ByteArray) : numOf [] s = 0 := rfl
theorem numOf_le (l : List ByteArray) (s : ByteArray) : numOf l s ≤ l.length := by
  have := numFrom_le s l 1; unfold numOf; omega
theorem numOf_zero_iff {l : List ByteArray} {s : ByteArray} : numOf l s = 0 ↔ s ∉ l := numFrom_zero_iff s l 1 (by omega)
theorem numOf_zero {l : List ByteArray} {s : ByteArray} (h : s ∉ l) : numOf l s = 0 := numOf_zero_iff.2 h
theorem numOf_pos {l : List ByteArray} {s : ByteArray} (h : s ∈ l) : 0 < numOf l s := Nat.pos_of_ne_zero fun e => numOf_zero_iff.1 e h
theorem numOf_snoc_same {l : List ByteArray} {x : ByteArray} (hx : x ∉ l) : numOf (l ++ [x]) x = l.length + 1 := by
  unfold numOf; rw [numFrom_snoc_out _ _ _ _ hx, if_pos rfl]; omega
theorem numOf_snoc_other {l : List ByteArray} {x s : ByteArray} (h : s ≠ x) : numOf (l ++ [x]) s = numOf l s := by
  unfold numOf
  by_cases hs : s ∈ l
  · exact numFrom_snoc_in x s l 1 hs
  · rw [numFrom_snoc_out x s l 1 hs, if_neg (fun e => h (bytes_ext e).symm)]
    exact (numOf_zero hs).symm

noncomputable abbrev strR : Value → Option (DataW Unit × List MemPlace) := plainElem Try.prog 3

/-- A map that numbers the texts of a list. -/
def MapIs (w : World) (v : Value) (l : List ByteArray) : Prop :=
  (v = .map none ∧ l = []) ∨ ∃ B n, ∃ D : DataW Unit, v = .map (some B) ∧ n ≤ l.length ∧ w.ownsMap Try.prog 9 strR B n D ∧ ∀ s : ByteArray, D.atKey (.string s.data.toList) (.lit (.int .i64 0)) = .lit (.int .i64 (numOf l s))

def StrsIn (w : World) (v : Value) (l : List ByteArray) : Prop := w.ownsRow 0 9 1 v l.length (l.map Value.string)
def IntsIn (w : World) (v : Value) (l : List Int) : Prop := w.ownsRow 0 3 1 v l.length (l.map (Value.int .i64))
/-- The three cells of a production, its right side's slice r. -/
def prL (p : PR) (r : Value) : List Value := [.int .i64 p.left, r, .int .i64 p.level]
def ProdsIn (w : World) (v : Value) (ps : List PR) : Prop :=
  ∃ rs : List Value, rs.length = ps.length ∧ w.ownsRow 0 52 3 v ps.length ((ps.zip rs).flatMap fun x => prL x.1 x.2) ∧ ∀ i, i < ps.length → IntsIn w (rs.getD i undef) (ps.getD i ⟨0, [], 0⟩).right

/-- The cells of a builder. -/
def BRow (w : World) (b : Nat) (c : Nat → Value) : Prop := w.heap[b]? = some (.cells ((List.range 72).map c).toArray 69 (0, 0))

/-- Its lists lie in blocks of which S.P holds; of all blocks to come it holds. -/
def Foot (w : World) (S : BS) (c : Nat → Value) : Prop :=
  (∀ g, w.heap.size ≤ g → S.P g) ∧ (∀ i, i = 1 ∨ i = 3 ∨ i = 69 ∨ i = 70 → ∀ g, (c i).ownBlock = some g → S.P g) ∧
  ∀ gp k v g, (c 70).ownBlock = some gp → k < S.prods.length * 3 → w.cell? ⟨gp, k, none⟩ = some v → v.ownBlock = some g → S.P g

structure BCells (w : World) (S : BS) (c : Nat → Value) : Prop where
  tm : MapIs w (c 0) S.terms
  tl : StrsIn w (c 1) S.terms
  nm : MapIs w (c 2) S.nons
  nl : StrsIn w (c 3) S.nons
  lv : ∀ i, i < 65 → c (4 + i) = .int .i64 (S.lev i)
  sd : IntsIn w (c 69) S.sides
  pr : ProdsIn w (c 70) S.prods
  st : c 71 = .int .i64 S.start
  ft : Foot w S c

/-- What always holds of a builder. -/
structure BS.OK (S : BS) : Prop where
  syms : S.terms.length + S.nons.length ≤ 64
  tnames : ∀ s ∈ S.terms, isTextB s = true
  nnames : ∀ s ∈ S.nons, isNameB s = true
  tnd : S.terms.Nodup
  nnd : S.nons.Nodup
  sides : S.sides.length ≤ 64
  sdv : ∀ x ∈ S.sides, 1 ≤ x ∧ x ≤ 3
  prods : S.prods.length ≤ 96
  lev : ∀ i, 0 ≤ S.lev i ∧ S.lev i ≤ S.sides.length
  lev0 : S.lev 0 = 0
  levT : ∀ h, S.terms.length < h → S.lev h = 0
  has : ∀ i, i < S.sides.length → ∃ h, 1 ≤ h ∧ h ≤ S.terms.length ∧ S.lev h = (i : Int) + 1
  pl : ∀ p ∈ S.prods, -(S.nons.length : Int) ≤ p.left ∧ p.left < 0
  pr : ∀ p ∈ S.prods, ∀ h ∈ p.right, (0 < h ∧ h ≤ S.terms.length) ∨ (h < 0 ∧ -(S.nons.length : Int) ≤ h)
  plen : ∀ p ∈ S.prods, p.right.length ≤ 17592186044416
  pv : ∀ p ∈ S.prods, 0 ≤ p.level ∧ p.level ≤ S.sides.length
  st : S.start = 0 ∨ (-(S.nons.length : Int) ≤ S.start ∧ S.start < 0)

def BAt (w : World) (b : Nat) (S : BS) : Prop := S.OK ∧ ∃ c, BRow w b c ∧ BCells w S c

/-! ### What keeps -/
theorem grown_refl (w : World) (row : Option Nat) : w.grownBy w row := ⟨rfl, rfl, rfl, Nat.le_refl _, fun _ _ _ => rfl⟩
theorem grown_trans {w w1 w2 : World} {row : Option Nat} (h : w.grownBy w1 row) (k : w1.grownBy w2 row) : w.grownBy w2 row :=
  ⟨k.os.trans h.os, k.tape.trans h.tape, k.output.trans h.output, Nat.le_trans h.size k.size, fun i hi hne => (k.block i (Nat.lt_of_lt_of_le hi h.size) hne).trans (h.block i hi hne)⟩
theorem grown_but {w w1 : World} (row : Option Nat) (h : w.grownBy w1 none) : w.grownBy w1 row := ⟨h.os, h.tape, h.output, h.size, fun i hi _ => h.block i hi (by simp)⟩
theorem grown_below {w w1 : World} {B b : Nat} (h : w.grownBy w1 (some b)) (hB : B ≤ w.heap.size) (hb : B ≤ b) : Below B w w1 := ⟨h.os, h.tape, h.output, h.size, fun k hk => h.block k (by omega) (by simp; omega)⟩
theorem grown_below0 {w w1 : World} (h : w.grownBy w1 none) : Below w.heap.size w w1 := ⟨h.os, h.tape, h.output, h.size, fun k hk => h.block k hk (by simp)⟩
theorem below_grown {w w1 : World} (h : Below w.heap.size w w1) : w.grownBy w1 none := ⟨h.os, h.tape, h.output, h.size, fun k hk _ => h.block k hk⟩
theorem grown_setCell {w : World} (b o : Nat) (v : Value) : w.grownBy (w.setCell ⟨b, o, none⟩ v) (some b) :=
  ⟨rfl, rfl, rfl, by simp [World.setCell], fun k _ hne => Below.heap_setCell _ _ _ _ (fun e => hne (by simp [e]))⟩
/-- What a new block beyond w does not touch. -/
theorem grown_new {w w1 w2 : World} {b : Nat} (h : w.grownBy w1 none) (k : w1.grownBy w2 (some b)) (hb : w.heap.size ≤ b) : w.grownBy w2 none :=
  ⟨k.os.trans h.os, k.tape.trans h.tape, k.output.trans h.output, Nat.le_trans h.size k.size, fun i hi _ => (k.block i (Nat.lt_of_lt_of_le hi h.size) (by simp; omega)).trans (h.block i hi (by simp))⟩

/-- Block b of w is no row of numbers, texts, productions, and no map. -/
def Apart (w : World) (row : Option Nat) : Prop := ∀ b, row = some b → ∃ cs, w.heap[b]? = some (.cells cs 69 (0, 0))

theorem Apart.none (w : World) : Apart w none := fun _ h => by cases h
theorem BRow.apart {w : World} {b : Nat} {c : Nat → Value} (h : BRow w b c) : Apart w (some b) := fun b' h' => by cases h'; exact ⟨_, h⟩

theorem owns_apart {w : World} {e size n : Nat} {v : Value} {xs : List Value} {row : Option Nat} (h : w.ownsRow 0 e size v n xs) (he : e ≠ 69) (ha : Apart w row) : v.ownBlock = none ∨ v.ownBlock ≠ row := by
  rcases h.2 with ⟨rfl, _⟩ | ⟨g, cap, cur, rfl, _, hg, _⟩
  · exact .inl rfl
  · right
    intro hh
    obtain ⟨cs, hcs⟩ := ha g hh.symm
    rw [hg] at hcs
    simp at hcs
    exact he hcs.2
theorem map_apart {w : World} {B n : Nat} {D : DataW Unit} {row : Option Nat} (h : w.ownsMap Try.prog 9 strR B n D) (ha : Apart w row) : some B ≠ row := by
  intro hh
  obtain ⟨cs, hcs⟩ := ha B hh.symm
  obtain ⟨es, clock, hb, _⟩ := h
  rw [hb] at hcs
  cases hcs

theorem MapIs.kept {w w' : World} {v : Value} {l : List ByteArray} {row : Option Nat} (h : MapIs w v l) (hg : w.grownBy w' row) (ha : Apart w row) : MapIs w' v l := by
  rcases h with h | ⟨B, n, D, hv, hn, ho, hat⟩
  · exact .inl h
  · exact .inr ⟨B, n, D, hv, hn, ho.kept hg (map_apart ho ha), hat⟩
theorem StrsIn.kept {w w' : World} {v : Value} {l : List ByteArray} {row : Option Nat} (h : StrsIn w v l) (hg : w.grownBy w' row) (ha : Apart w row) : StrsIn w' v l :=
  World.ownsRow.kept h hg (owns_apart h (by decide) ha)
theorem IntsIn.kept {w w' : World} {v : Value} {l : List Int} {row : Option Nat} (h : IntsIn w v l) (hg : w.grownBy w' row) (ha : Apart w row) : IntsIn w' v l :=
  World.ownsRow.kept h hg (owns_apart h (by decide) ha)
theorem ProdsIn.kept {w w' : World} {v : Value} {l : List PR} {row : Option Nat} (h : ProdsIn w v l) (hg : w.grownBy w' row) (ha : Apart w row) : ProdsIn w' v l := by
  obtain ⟨rs, h1, h2, h3⟩ := h
  exact ⟨rs, h1, World.ownsRow.kept h2 hg (owns_apart h2 (by decide) ha), fun i hi => (h3 i hi).kept hg ha⟩

theorem own_cell {w : World} {e n g k : Nat} {v : Value} {xs : List Value} (h : w.ownsRow 0 e 3 v n xs) (hv : v.ownBlock = some g) (hk : k < n * 3) : ∃ u, xs[k]? = some u ∧ w.cell? ⟨g, k, none⟩ = some u := by
  have hk' : k < xs.length := by rw [h.1]; exact hk
  refine ⟨xs[k], List.getElem?_eq_getElem hk', ?_⟩
  have := World.ownsRow.cells h hv k _ (List.getElem?_eq_getElem hk')
  rw [Addr.add_mid, Nat.zero_add] at this
  exact this
/-- What lies in the row of the productions. -/
theorem foot_rights {w : World} {S : BS} {c : Nat → Value} {e : Nat} {xs : List Value} (hf : Foot w S c) (ho : w.ownsRow 0 e 3 (c 70) S.prods.length xs) : ∀ u ∈ xs, ∀ g, u.ownBlock = some g → S.P g := by
  intro u hu g hg
  obtain ⟨k, hk, rfl⟩ := List.getElem_of_mem hu
  have hl := ho.1
  rcases ho.2 with ⟨hv, h0⟩ | ⟨gp, cap, cur, hv, _⟩
  · rw [hl, h0] at hk; simp at hk
  · have hb : (c 70).ownBlock = some gp := by rw [hv]; rfl
    obtain ⟨u', h1, h2⟩ := own_cell ho hb (k := k) (by rw [← hl]; exact hk)
    rw [List.getElem?_eq_getElem hk] at h1
    cases h1
    exact hf.2.2 gp k _ g hb (by rw [← hl]; exact hk) h2 hg
/-- A step that leaves the productions. -/
theorem foot_of {w w' : World} {S S' : BS} {c c' : Nat → Value} {row : Option Nat} (hf : Foot w S c) (hp : ProdsIn w (c 70) S.prods) (hg : w.grownBy w' row) (ha : Apart w row) (hP : S'.P = S.P) (hn : S'.prods.length = S.prods.length) (h70 : c' 70 = c 70)
    (hc : ∀ i, i = 1 ∨ i = 3 ∨ i = 69 → c' i = c i ∨ ∀ g, (c' i).ownBlock = some g → w.heap.size ≤ g) : Foot w' S' c' := by
  refine ⟨fun g h => by rw [hP]; exact hf.1 g (Nat.le_trans hg.size h), fun i hi g h => ?_, fun gp k v g h1 h2 h3 h4 => ?_⟩
  · rw [hP]
    by_cases e : i = 70
    · rw [e, h70] at h; exact hf.2.1 70 (by simp) g h
    · rcases hc i (by omega) with e1 | e1
      · rw [e1] at h; exact hf.2.1 i hi g h
      · exact hf.1 g (e1 g h)
  · rw [hP]
    rw [h70] at h1
    rw [hn] at h2
    obtain ⟨rs, _, ho, _⟩ := hp
    obtain ⟨u, e1, e2⟩ := own_cell ho h1 h2
    have e3 := hg.cell e2 (by
      rcases owns_apart ho (by decide) ha with h | h
      · rw [h] at h1; cases h1
      · rw [h1] at h; exact h)
    rw [e3] at h3
    cases h3
    exact hf.2.2 gp k _ g h1 h2 e2 h4
/-- A step that lays the productions anew. -/
theorem foot_prods {w w' : World} {S S' : BS} {c c' : Nat → Value} {row : Option Nat} {B e n : Nat} {xs : List Value} (hf : Foot w S c) (hg : w.grownBy w' row) (hP : S'.P = S.P) (hc : ∀ i, i = 1 ∨ i = 3 ∨ i = 69 → c' i = c i)
    (hv : ∀ g, (c' 70).ownBlock = some g → w.heap.size ≤ g) (ho : w'.ownsRow B e 3 (c' 70) n xs) (hn : S'.prods.length = n) (hx : ∀ u ∈ xs, ∀ g, u.ownBlock = some g → S.P g) : Foot w' S' c' := by
  refine ⟨fun g h => by rw [hP]; exact hf.1 g (Nat.le_trans hg.size h), fun i hi g h => ?_, fun gp k v g h1 h2 h3 h4 => ?_⟩
  · rw [hP]
    by_cases e : i = 70
    · rw [e] at h; exact hf.1 g (hv g h)
    · rw [hc i (by omega)] at h; exact hf.2.1 i hi g h
  · rw [hP]
    rw [hn] at h2
    have ho' : w'.ownsRow 0 e 3 (c' 70) n xs := ⟨ho.1, by
      rcases ho.2 with h' | ⟨g, cap, cur, hv, _, rest⟩
      · exact .inl h'
      · exact .inr ⟨g, cap, cur, hv, Nat.zero_le _, rest⟩⟩
    obtain ⟨u, e1, e2⟩ := own_cell ho' h1 h2
    rw [e2] at h3
    cases h3
    exact hx _ (List.mem_of_getElem? e1) g h4
theorem BCells.kept {w w' : World} {S : BS} {c : Nat → Value} {row : Option Nat} (h : BCells w S c) (hg : w.grownBy w' row) (ha : Apart w row) : BCells w' S c :=
  ⟨h.tm.kept hg ha, h.tl.kept hg ha, h.nm.kept hg ha, h.nl.kept hg ha, h.lv, h.sd.kept hg ha, h.pr.kept hg ha, h.st, foot_of h.ft h.pr hg ha rfl rfl rfl (fun _ _ => .inl rfl)⟩
theorem BRow.lt {w : World} {b : Nat} {c : Nat → Value} (h : BRow w b c) : b < w.heap.size := (Array.getElem?_eq_some_iff.1 h).1
theorem BRow.kept {w w' : World} {b : Nat} {c : Nat → Value} {row : Option Nat} (h : BRow w b c) (hg : w.grownBy w' row) (hne : some b ≠ row) : BRow w' b c := (hg.block b h.lt hne).trans h
theorem BAt.kept {w w' : World} {b : Nat} {S : BS} (h : BAt w b S) (hg : w.grownBy w' none) : BAt w' b S := by
  obtain ⟨ho, c, hr, hc⟩ := h
  exact ⟨ho, c, hr.kept hg (by simp), hc.kept hg (Apart.none _)⟩
theorem BAt.lt {w : World} {b : Nat} {S : BS} (h : BAt w b S) : b < w.heap.size := by obtain ⟨_, c, hr, _⟩ := h; exact hr.lt

theorem BRow.cell {w : World} {b : Nat} {c : Nat → Value} (h : BRow w b c) (i : Nat) (hi : i < 72) : w.cell? ⟨b, i, none⟩ = some (c i) := by
  rw [cell_of_row w b i _ _ _ h]; simp [hi]
theorem BRow.free {w : World} {b : Nat} {c : Nat → Value} (h : BRow w b c) (i : Nat) : w.frozen? ⟨b, i, none⟩ = false := frozen_of_row w b i _ _ h
/-- One cell turned. -/
def putC (c : Nat → Value) (i : Nat) (v : Value) : Nat → Value := fun j => if j = i then v else c j
theorem putC_same (c : Nat → Value) (i : Nat) (v : Value) : putC c i v i = v := by simp [putC]
theorem putC_other (c : Nat → Value) {i j : Nat} (v : Value) (h : j ≠ i) : putC c i v j = c j := by simp [putC, h]
theorem BRow.set {w : World} {b : Nat} {c : Nat → Value} (h : BRow w b c) (i : Nat) (v : Value) (hi : i < 72) : BRow (w.setCell ⟨b, i, none⟩ v) b (putC c i v) := by
  unfold BRow
  rw [heap_setCell_same w b i _ _ _ h]
  congr 2
  apply Array.ext'
  rw [Array.toList_setIfInBounds]
  apply List.ext_getElem?
  intro k
  rw [List.getElem?_set]
  by_cases hk : k < 72
  · by_cases e : i = k
    · subst e; simp [hi, putC]
    · rw [if_neg e]; simp [hk, putC, Ne.symm e]
  · rw [if_neg (by omega)]; simp [hk]

end Go.Proofs.Ytkbpnafahimeiaa
