/-
  The program's builder and the document's side by side, each in its own part of the memory, and the box that holds both.
-/
import Derived.Test.YtkbpnafahimeiaaRbGram
namespace Go.Proofs.Ytkbpnafahimeiaa
open Go.RowKit

/-- What is to be kept: the blocks of K are in w as they are in X. -/
structure Frm (K : Nat → Prop) (X w : World) : Prop where
  os : w.os = X.os
  tape : w.tape = X.tape
  output : w.output = X.output
  lt : ∀ g, K g → g < w.heap.size
  eq : ∀ g, K g → w.heap[g]? = X.heap[g]?
theorem Frm.refl {K : Nat → Prop} {X : World} (h : ∀ g, K g → g < X.heap.size) : Frm K X X := ⟨rfl, rfl, rfl, h, fun _ _ => rfl⟩
theorem Frm.grown {K : Nat → Prop} {X w w' : World} {row : Option Nat} (h : Frm K X w) (hg : w.grownBy w' row) (hr : ∀ g, row = some g → ¬ K g) : Frm K X w' :=
  ⟨hg.os.trans h.os, hg.tape.trans h.tape, hg.output.trans h.output, fun g hk => Nat.lt_of_lt_of_le (h.lt g hk) hg.size, fun g hk => (hg.block g (h.lt g hk) (fun e => hr g e.symm hk)).trans (h.eq g hk)⟩
theorem Frm.kept {K : Nat → Prop} {X w w' : World} (h : Frm K X w) (hg : w.grownBy w' none) : Frm K X w' := h.grown hg (fun _ e => by cases e)
theorem Frm.off {K : Nat → Prop} {X w w' : World} {Q : Nat → Prop} (h : Frm K X w) (hg : GrownOff w w' Q) (hq : ∀ g, Q g → ¬ K g) : Frm K X w' :=
  ⟨hg.os.trans h.os, hg.tape.trans h.tape, hg.output.trans h.output, fun g hk => Nat.lt_of_lt_of_le (h.lt g hk) hg.size, fun g hk => by
    rcases hg.block g (h.lt g hk) with ⟨q, _⟩ | h1
    · exact absurd hk (hq g q)
    · exact h1.trans (h.eq g hk)⟩
theorem Frm.whole {X w : World} (h : Frm (fun g => g < X.heap.size) X w) : X.grownBy w none :=
  ⟨h.os, h.tape, h.output, Nat.le_of_not_lt fun hlt => absurd (h.lt _ hlt) (Nat.lt_irrefl _), fun i hi _ => h.eq i hi⟩

/-- S1: what the program's builder holds; S2: what the document's holds; P, Q: their parts of the memory; K: none of it lies there; x: the box. -/
structure Two (w : World) (K : Nat → Prop) (x b r : Nat) (S1 S2 : BS) (P Q : Nat → Prop) : Prop where
  pb : BAt w b { S1 with P := P }
  rb : RAt w r S2 Q
  apart : ∀ g, g < w.heap.size → P g → ¬ Q g
  lowQ : ∀ g, Q g → ¬ K g
  lowP : ∀ g, P g → ¬ K g
  lowB : ¬ K b
  ltK : ∀ g, K g → g < w.heap.size
  xQ : ¬ Q x
  xb : x ≠ b
  xlt : x < w.heap.size
  box : w.heap[x]? = some (.cells #[.pointer (some ⟨b, 0, none⟩), .pointer (some ⟨r, 0, none⟩)] 35 (0, 0))

/-- A call of the program's builder. -/
theorem Two.prog {w w' : World} {K : Nat → Prop} {x b r : Nat} {S1 S2 S1' : BS} {P Q : Nat → Prop} (h : Two w K x b r S1 S2 P Q) (hB : BAt w' b { S1' with P := P }) (hg : w.grownBy w' (some b)) :
    Two w' K x b r S1' S2 P (fun g => (Q g ∧ g < w.heap.size) ∨ w'.heap.size ≤ g) where
  pb := hB
  rb := h.rb.beside hg h.pb.2.choose_spec.1.apart
  apart := fun g hlt hP hQ => by
    rcases hQ with ⟨hq, hl⟩ | hl
    · exact h.apart g hl hP hq
    · omega
  lowQ := fun g hQ => by
    rcases hQ with ⟨hq, _⟩ | hl
    · exact h.lowQ g hq
    · intro hk; have := hg.size; have := h.ltK g hk; omega
  lowP := h.lowP
  lowB := h.lowB
  ltK := fun g hk => Nat.lt_of_lt_of_le (h.ltK g hk) hg.size
  xQ := fun hQ => by
    rcases hQ with ⟨hq, _⟩ | hl
    · exact h.xQ hq
    · have := hg.size; have := h.xlt; omega
  xb := h.xb
  xlt := Nat.lt_of_lt_of_le h.xlt hg.size
  box := (hg.block x h.xlt (by have := h.xb; simp; exact this)).trans h.box

/-- A call of the document's. -/
theorem Two.doc {w w' : World} {K : Nat → Prop} {x b r : Nat} {S1 S2 S2' : BS} {P Q : Nat → Prop} (h : Two w K x b r S1 S2 P Q) (hR : RAt w' r S2' Q) (hg : GrownOff w w' Q) :
    Two w' K x b r S1 S2' (fun g => (P g ∧ g < w.heap.size) ∨ w'.heap.size ≤ g) Q where
  pb := h.pb.off hg h.apart
  rb := hR
  apart := fun g hlt hP => by
    rcases hP with ⟨hp, hl⟩ | hl
    · exact h.apart g hl hp
    · omega
  lowQ := h.lowQ
  lowP := fun g hP => by
    rcases hP with ⟨hp, _⟩ | hl
    · exact h.lowP g hp
    · intro hk; have := hg.size; have := h.ltK g hk; omega
  lowB := h.lowB
  ltK := fun g hk => Nat.lt_of_lt_of_le (h.ltK g hk) hg.size
  xQ := h.xQ
  xb := h.xb
  xlt := Nat.lt_of_lt_of_le h.xlt hg.size
  box := by
    rcases hg.block x h.xlt with ⟨hq, _⟩ | h1
    · exact absurd hq h.xQ
    · exact h1.trans h.box

/-- Behind whatever lays new memory alone. -/
theorem Two.kept {w w' : World} {K : Nat → Prop} {x b r : Nat} {S1 S2 : BS} {P Q : Nat → Prop} (h : Two w K x b r S1 S2 P Q) (hg : w.grownBy w' none) :
    Two w' K x b r S1 S2 (fun g => (P g ∧ g < w.heap.size) ∨ w'.heap.size ≤ g) Q := h.doc (h.rb.kept0 hg) (GrownOff.of_none hg)

/-- Behind a change of a block that is none of its own. -/
theorem RAt.outside {w w' : World} {r gl : Nat} {S : BS} {Q : Nat → Prop} (h : RAt w r S Q) (hg : w.grownBy w' (some gl)) (hn : ¬ Q gl) : RAt w' r S Q := by
  obtain ⟨h1, h2, vt, vn, vl, vr, h3, h4⟩ := h
  have ne : ∀ v : Value, (∀ g, v.ownBlock = some g → Q g) → v.ownBlock = none ∨ v.ownBlock ≠ some gl := fun v hv => .inr (fun e => hn (hv gl e))
  obtain ⟨rs, e1, e2, e3⟩ := h4.rl
  exact ⟨fun g hg' => h1 g (Nat.le_trans hg.size hg'), h2, vt, vn, vl, vr, h3.keptOff hg (fun e => hn (by cases e; exact h2)), h4.tl.kept hg (ne _ h4.qt), h4.nl.kept hg (ne _ h4.qn), h4.ll.kept hg (ne _ h4.ql),
    ⟨rs, e1, e2.kept hg (ne _ h4.qr), fun i hi => ⟨World.ownsRow.kept (e3 i hi).1 hg (ne _ (fun g h => ((e3 i hi).2 g h).1)), (e3 i hi).2⟩⟩, h4.qt, h4.qn, h4.ql, h4.qr⟩

/-- Behind whatever lays new memory alone: what is new belongs to neither. -/
theorem Two.fresh {w w' : World} {K : Nat → Prop} {x b r : Nat} {S1 S2 : BS} {P Q : Nat → Prop} (h : Two w K x b r S1 S2 P Q) (hg : w.grownBy w' none) :
    Two w' K x b r S1 S2 (fun g => (P g ∧ g < w.heap.size) ∨ w'.heap.size ≤ g) (fun g => (Q g ∧ g < w.heap.size) ∨ w'.heap.size ≤ g) where
  pb := (h.kept hg).pb
  rb := h.rb.beside (grown_but (some b) hg) h.pb.2.choose_spec.1.apart
  apart := fun g hlt hP hQ => by
    rcases hP with ⟨hp, hl⟩ | hl
    · rcases hQ with ⟨hq, _⟩ | hl'
      · exact h.apart g hl hp hq
      · omega
    · omega
  lowQ := fun g hQ => by
    rcases hQ with ⟨hq, _⟩ | hl
    · exact h.lowQ g hq
    · intro hk; have := hg.size; have := h.ltK g hk; omega
  lowP := fun g hP => by
    rcases hP with ⟨hp, _⟩ | hl
    · exact h.lowP g hp
    · intro hk; have := hg.size; have := h.ltK g hk; omega
  lowB := h.lowB
  ltK := fun g hk => Nat.lt_of_lt_of_le (h.ltK g hk) hg.size
  xQ := fun hQ => by
    rcases hQ with ⟨hq, _⟩ | hl
    · exact h.xQ hq
    · have := hg.size; have := h.xlt; omega
  xb := h.xb
  xlt := Nat.lt_of_lt_of_le h.xlt hg.size
  box := (hg.block x h.xlt (by simp)).trans h.box

/-- Behind a change of a block that belongs to neither. -/
theorem Two.spoil {w w' : World} {K : Nat → Prop} {x b r gl e : Nat} {cs : Array Value} {S1 S2 : BS} {P Q : Nat → Prop} (h : Two w K x b r S1 S2 P Q) (hg : w.grownBy w' (some gl)) (hb : w.heap[gl]? = some (.cells cs e (0, 0))) (he : e ≠ 69) (hP : ¬ P gl) (hQ : ¬ Q gl) (hx : x ≠ gl) :
    Two w' K x b r S1 S2 (fun g => (P g ∧ g < w.heap.size) ∨ w'.heap.size ≤ g) Q where
  pb := h.pb.off (GrownOff.of_box (Q := fun g => g = gl) hg hb he rfl) (fun g _ hp e => hP (e ▸ hp))
  rb := h.rb.outside hg hQ
  apart := fun g hlt hp => by
    rcases hp with ⟨hp, hl⟩ | hl
    · exact h.apart g hl hp
    · omega
  lowQ := h.lowQ
  lowP := fun g hP => by
    rcases hP with ⟨hp, _⟩ | hl
    · exact h.lowP g hp
    · intro hk; have := hg.size; have := h.ltK g hk; omega
  lowB := h.lowB
  ltK := fun g hk => Nat.lt_of_lt_of_le (h.ltK g hk) hg.size
  xQ := h.xQ
  xb := h.xb
  xlt := Nat.lt_of_lt_of_le h.xlt hg.size
  box := (hg.block x h.xlt (by simp; exact hx)).trans h.box

/-- Seen from a world ahead of all of it. -/
theorem Two.grownP {X w w' : World} {K : Nat → Prop} {x b r : Nat} {S1 S2 : BS} {P Q : Nat → Prop} (h : Two w K x b r S1 S2 P Q) (hX : Frm K X w) (hg : w.grownBy w' (some b)) : Frm K X w' := hX.grown hg (fun g e => by cases e; exact h.lowB)
theorem Two.grownD {X w w' : World} {K : Nat → Prop} {x b r : Nat} {S1 S2 : BS} {P Q : Nat → Prop} (h : Two w K x b r S1 S2 P Q) (hX : Frm K X w) (hg : GrownOff w w' Q) : Frm K X w' := hX.off hg h.lowQ
/-- What is to be kept may be chosen anew. -/
theorem Two.rekey {w : World} {K K' : Nat → Prop} {x b r : Nat} {S1 S2 : BS} {P Q : Nat → Prop} (h : Two w K x b r S1 S2 P Q) (hk : ∀ g, K' g → g < w.heap.size ∧ ¬ P g ∧ ¬ Q g ∧ g ≠ b) : Two w K' x b r S1 S2 P Q :=
  ⟨h.pb, h.rb, h.apart, fun g hq hk' => (hk g hk').2.2.1 hq, fun g hp hk' => (hk g hk').2.1 hp, fun hb => (hk b hb).2.2.2 rfl, fun g hk' => (hk g hk').1, h.xQ, h.xb, h.xlt, h.box⟩

theorem BS.term_P (S : BS) (P : Nat → Prop) (s : ByteArray) : ({ S with P := P } : BS).term s = ((S.term s).1, (S.term s).2.1, { (S.term s).2.2 with P := P }) := by
  unfold BS.term
  by_cases h1 : isTextB s = true
  · rw [if_pos h1, if_pos h1]
    by_cases h2 : numOf S.terms s = 0 ∧ S.full = false
    · rw [if_pos h2, if_pos (show numOf ({ S with P := P } : BS).terms s = 0 ∧ ({ S with P := P } : BS).full = false from h2)]; rfl
    · rw [if_neg h2, if_neg (show ¬ (numOf ({ S with P := P } : BS).terms s = 0 ∧ ({ S with P := P } : BS).full = false) from h2)]; rfl
  · rw [if_neg h1, if_neg h1]
theorem BS.non_P (S : BS) (P : Nat → Prop) (s : ByteArray) : ({ S with P := P } : BS).non s = ((S.non s).1, (S.non s).2.1, { (S.non s).2.2 with P := P }) := by
  unfold BS.non
  by_cases h1 : isNameB s = true
  · rw [if_pos h1, if_pos h1]
    by_cases h2 : numOf S.nons s = 0 ∧ S.full = false
    · rw [if_pos h2, if_pos (show numOf ({ S with P := P } : BS).nons s = 0 ∧ ({ S with P := P } : BS).full = false from h2)]; rfl
    · rw [if_neg h2, if_neg (show ¬ (numOf ({ S with P := P } : BS).nons s = 0 ∧ ({ S with P := P } : BS).full = false) from h2)]; rfl
  · rw [if_neg h1, if_neg h1]
theorem BS.rule_P (S : BS) (P : Nat → Prop) (left : Int) (right : List Int) : ({ S with P := P } : BS).rule left right = ((S.rule left right).1, (S.rule left right).2.1, { (S.rule left right).2.2 with P := P }) := by
  unfold BS.rule
  by_cases h1 : S.isN left = true ∧ S.good right = true
  · rw [if_pos h1, if_pos (show ({ S with P := P } : BS).isN left = true ∧ ({ S with P := P } : BS).good right = true from h1)]
    by_cases h2 : 96 ≤ S.prods.length
    · rw [if_pos h2, if_pos (show 96 ≤ ({ S with P := P } : BS).prods.length from h2)]
    · rw [if_neg h2, if_neg (show ¬ 96 ≤ ({ S with P := P } : BS).prods.length from h2)]; rfl
  · rw [if_neg h1, if_neg (show ¬ (({ S with P := P } : BS).isN left = true ∧ ({ S with P := P } : BS).good right = true) from h1)]
theorem levGo_P (S : BS) (P : Nat → Prop) (L : Int) (terms : List Int) : ∀ lv, levGo ({ S with P := P } : BS) L lv terms = levGo S L lv terms := by
  induction terms with
  | nil => intro lv; rfl
  | cons t ts ih =>
    intro lv
    show (if S.isT t = true ∧ lv t.toNat = 0 then levGo ({ S with P := P } : BS) L (updL lv t.toNat L) ts else none) = (if S.isT t = true ∧ lv t.toNat = 0 then levGo S L (updL lv t.toNat L) ts else none)
    rw [ih]
theorem BS.level_P (S : BS) (P : Nat → Prop) (side : Int) (terms : List Int) : ({ S with P := P } : BS).level side terms = ((S.level side terms).1, (S.level side terms).2.1, { (S.level side terms).2.2 with P := P }) := by
  have e := levGo_P S P (S.sides.length + 1) terms S.lev
  unfold BS.level
  by_cases h1 : (1 ≤ side ∧ side ≤ 3) ∧ terms ≠ []
  · rw [if_pos h1, if_pos h1]
    show (match levGo ({ S with P := P } : BS) (S.sides.length + 1) S.lev terms with | some lev => _ | none => _) = _
    rw [e]
    cases levGo S (S.sides.length + 1) S.lev terms <;> rfl
  · rw [if_neg h1, if_neg h1]
theorem BS.grade_P (S : BS) (P : Nat → Prop) (l : Int) (hs : List Int) : ({ S with P := P } : BS).grade l hs = ((S.grade l hs).1, { (S.grade l hs).2 with P := P }) := by
  unfold BS.grade
  by_cases h1 : 0 ≤ l ∧ l ≤ S.sides.length
  · rw [if_pos h1, if_pos (show 0 ≤ l ∧ l ≤ ({ S with P := P } : BS).sides.length from h1)]
    show (match gradeGo l S.prods hs with | some ps => _ | none => _) = _
    cases gradeGo l S.prods hs <;> rfl
  · rw [if_neg h1, if_neg (show ¬ (0 ≤ l ∧ l ≤ ({ S with P := P } : BS).sides.length) from h1)]
theorem BS.startA_P (S : BS) (P : Nat → Prop) (h : Int) : ({ S with P := P } : BS).startA h = ((S.startA h).1, { (S.startA h).2 with P := P }) := by
  unfold BS.startA
  by_cases h1 : S.isN h = true
  · rw [if_pos h1, if_pos (show ({ S with P := P } : BS).isN h = true from h1)]
  · rw [if_neg h1, if_neg (show ¬ ({ S with P := P } : BS).isN h = true from h1)]

end Go.Proofs.Ytkbpnafahimeiaa
