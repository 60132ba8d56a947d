import Derived.Test.YtgmljpkenipgjaaProg
import Derived.WalkKit
import Derived.WalkSpells
import Derived.Deep.QuietTactic
import Derived.BigQuiet

/-
  Which texts may be a terminal's, which are names: the program's own tests.
-/
namespace Go.Proofs.Ytgmljpkenipgjaa
open Go.RowKit

/-- May a byte stand in a terminal's text? -/
def textB (n : Nat) : Bool := !(decide (n < 32) || decide (126 < n) || decide (n = 39))
def letterB (n : Nat) : Bool := (decide (65 ≤ n) && decide (n ≤ 90)) || (decide (97 ≤ n) && decide (n ≤ 122)) || decide (n = 95)
def digitB (n : Nat) : Bool := decide (48 ≤ n) && decide (n ≤ 57)
def nameB (i n : Nat) : Bool := letterB n || (decide (0 < i) && digitB n)
/-- The byte at a place. -/
def chr (s : ByteArray) (i : Nat) : Nat := (s.data.toList.getD i 0).toNat
def lenOK (s : ByteArray) : Bool := decide (1 ≤ s.size) && decide (s.size ≤ 16)
def isTextB (s : ByteArray) : Bool := lenOK s && (List.range s.size).all (fun i => textB (chr s i))
def isNameB (s : ByteArray) : Bool := lenOK s && (List.range s.size).all (fun i => nameB i (chr s i))

end Go.Proofs.Ytgmljpkenipgjaa

namespace Go.Proofs.Ytgmljpkenipgjaa
open Go.RowKit

/-- A world of which p holds. -/
structure WBox (p : World → Prop) where
  w : World
  ok : p w

end Go.Proofs.Ytgmljpkenipgjaa

/-
  pack: rows of edges laid over one another, pure: the document's way.
-/
namespace Go.Proofs.Ytgmljpkenipgjaa.Pk

/-- An edge: its place, its value. -/
abbrev Ed := Int × Int

/-- A row: at most 256 edges, their places below 256, none twice. -/
def IsRow (l : List Ed) : Prop := l.length ≤ 256 ∧ (∀ e ∈ l, 0 ≤ e.1 ∧ e.1 < 256) ∧ (l.map (·.1)).Nodup
/-- Are the first k edges in order: places below 256, none twice? -/
def RowTo (l : List Ed) (k : Nat) : Prop := (∀ e ∈ l.take k, 0 ≤ e.1 ∧ e.1 < 256) ∧ ((l.take k).map (·.1)).Nodup
theorem RowTo.zero (l : List Ed) : RowTo l 0 := ⟨fun e h => by simp at h, by simp⟩
theorem take_snoc {l : List Ed} {k : Nat} (hk : k < l.length) : l.take (k + 1) = l.take k ++ [l.getD k (0, 0)] := by
  rw [List.take_succ_eq_append_getElem hk, List.getD_eq_getElem?_getD, List.getElem?_eq_getElem hk]; rfl
theorem RowTo.step {l : List Ed} {k : Nat} (hk : k < l.length) : RowTo l (k + 1) ↔ RowTo l k ∧ (0 ≤ (l.getD k (0, 0)).1 ∧ (l.getD k (0, 0)).1 < 256) ∧ (l.getD k (0, 0)).1 ∉ (l.take k).map (·.1) := by
  unfold RowTo
  rw [take_snoc hk, List.map_append, List.nodup_append]
  simp only [List.mem_append, List.mem_singleton, List.map_cons, List.map_nil]
  constructor
  · rintro ⟨h1, h2, _, h4⟩
    refine ⟨⟨fun e h => h1 e (.inl h), h2⟩, h1 _ (.inr rfl), fun h => ?_⟩
    exact h4 _ h _ rfl rfl
  · rintro ⟨⟨h1, h2⟩, h3, h4⟩
    refine ⟨fun e h => ?_, h2, by simp, fun a ha b hb => ?_⟩
    · rcases h with h | rfl
      · exact h1 e h
      · exact h3
    · rintro rfl
      subst hb
      exact h4 ha
theorem RowTo.all (l : List Ed) : RowTo l l.length ↔ (∀ e ∈ l, 0 ≤ e.1 ∧ e.1 < 256) ∧ (l.map (·.1)).Nodup := by unfold RowTo; rw [List.take_length]

/-- Nobody owns what a row needs at a base. -/
def Fits (ow : List Int) (l : List Ed) (b : Nat) : Prop := ∀ e ∈ l, ¬ (b + e.1.toNat < ow.length ∧ 0 ≤ ow.getD (b + e.1.toNat) 0)
def fitsB (ow : List Int) (l : List Ed) (b : Nat) : Bool := l.all fun e => !(decide (b + e.1.toNat < ow.length) && decide (0 ≤ ow.getD (b + e.1.toNat) 0))
theorem fitsB_iff (ow : List Int) (l : List Ed) (b : Nat) : fitsB ow l b = true ↔ Fits ow l b := by
  unfold fitsB Fits
  rw [List.all_eq_true]
  have key : ∀ e : Ed, (!(decide (b + e.1.toNat < ow.length) && decide (0 ≤ ow.getD (b + e.1.toNat) 0))) = true ↔ ¬ (b + e.1.toNat < ow.length ∧ 0 ≤ ow.getD (b + e.1.toNat) 0) := fun e => by
    rw [Bool.not_eq_true', Bool.and_eq_false_iff, decide_eq_false_iff_not, decide_eq_false_iff_not]
    exact ⟨fun h h2 => h.elim (fun h3 => h3 h2.1) (fun h3 => h3 h2.2), fun h => Classical.byCases (fun h1 => .inr fun h2 => h ⟨h1, h2⟩) .inl⟩
  exact ⟨fun h e he => (key e).1 (h e he), fun h e he => (key e).2 (h e he)⟩
theorem fits_end (ow : List Int) (l : List Ed) (b : Nat) (h : ow.length ≤ b) : Fits ow l b := fun e _ h2 => by omega
/-- The least base from b on, d tries. -/
def baseF (ow : List Int) (l : List Ed) : Nat → Nat → Nat
  | 0, b => b
  | d + 1, b => if fitsB ow l b = true then b else baseF ow l d (b + 1)
def baseOf (ow : List Int) (l : List Ed) : Nat := baseF ow l ow.length 0
theorem baseF_spec (ow : List Int) (l : List Ed) : ∀ d b, ow.length ≤ b + d → Fits ow l (baseF ow l d b) ∧ b ≤ baseF ow l d b ∧ baseF ow l d b ≤ b + d ∧ ∀ c, b ≤ c → c < baseF ow l d b → ¬ Fits ow l c
  | 0, b, h => ⟨fits_end _ _ _ h, Nat.le_refl _, Nat.le_refl _, fun c h1 h2 => by unfold baseF at h2; omega⟩
  | d + 1, b, h => by
    unfold baseF
    by_cases hf : Fits ow l b
    · rw [if_pos ((fitsB_iff ow l b).2 hf)]
      exact ⟨hf, Nat.le_refl _, by omega, fun c h1 h2 => by omega⟩
    · rw [if_neg (fun h => hf ((fitsB_iff ow l b).1 h))]
      obtain ⟨h1, h2, h3, h4⟩ := baseF_spec ow l d (b + 1) (by omega)
      refine ⟨h1, by omega, by omega, fun c hc1 hc2 => ?_⟩
      by_cases e : c = b
      · rw [e]; exact hf
      · exact h4 c (by omega) hc2
theorem baseOf_fits (ow : List Int) (l : List Ed) : Fits ow l (baseOf ow l) := (baseF_spec ow l ow.length 0 (by omega)).1
theorem baseOf_le (ow : List Int) (l : List Ed) : baseOf ow l ≤ ow.length := by have := (baseF_spec ow l ow.length 0 (by omega)).2.2.1; unfold baseOf; omega
theorem baseOf_least (ow : List Int) (l : List Ed) (c : Nat) (h : c < baseOf ow l) : ¬ Fits ow l c := (baseF_spec ow l ow.length 0 (by omega)).2.2.2 c (Nat.zero_le _) h
theorem baseOf_eq {ow : List Int} {l : List Ed} {b : Nat} (h : Fits ow l b) (hl : ∀ c, c < b → ¬ Fits ow l c) : baseOf ow l = b := by
  refine Nat.le_antisymm (Nat.le_of_not_lt fun h1 => baseOf_least ow l b h1 h) (Nat.le_of_not_lt fun h1 => hl _ h1 (baseOf_fits ow l))

/-- A list, grown to a length. -/
def pad (z : Int) (l : List Int) (n : Nat) : List Int := l ++ List.replicate (n - l.length) z
theorem pad_len (z : Int) (l : List Int) (n : Nat) : (pad z l n).length = max l.length n := by unfold pad; simp; omega
theorem pad_same (z : Int) (l : List Int) (n : Nat) (h : n ≤ l.length) : pad z l n = l := by unfold pad; rw [Nat.sub_eq_zero_of_le h]; simp
theorem pad_snoc (z : Int) (l : List Int) (n : Nat) (h : l.length ≤ n) : pad z l (n + 1) = pad z l n ++ [z] := by
  unfold pad
  rw [show n + 1 - l.length = (n - l.length) + 1 by omega, List.replicate_succ', ← List.append_assoc]
/-- An edge of row i is laid at base b. -/
def layE (i b : Nat) (s : List Int × List Int) (e : Ed) : List Int × List Int := ((pad (-1) s.1 (b + e.1.toNat + 1)).set (b + e.1.toNat) i, (pad 0 s.2 (b + e.1.toNat + 1)).set (b + e.1.toNat) e.2)
def layR (i b : Nat) (s : List Int × List Int) (l : List Ed) : List Int × List Int := l.foldl (layE i b) s

/-- Rows under way: bases, owners, values. -/
structure St where
  bs : List Int
  ow : List Int
  va : List Int
/-- Row i is laid. -/
def layRow (s : St) (i : Nat) (l : List Ed) : St :=
  let b := baseOf s.ow l
  ⟨s.bs.set i b, (layR i b (s.ow, s.va) l).1, (layR i b (s.ow, s.va) l).2⟩
/-- Of the first k rows those of n edges are laid. -/
def layN (Q : Nat → List Ed) (n : Nat) (s : St) : Nat → St
  | 0 => s
  | k + 1 => if (Q k).length = n then layRow (layN Q n s k) k (Q k) else layN Q n s k
/-- Those of more than 256 - d edges are laid, of N rows. -/
def layD (Q : Nat → List Ed) (N : Nat) : Nat → St
  | 0 => ⟨List.replicate N 0, [], []⟩
  | d + 1 => layN Q (256 - d) (layD Q N d) N
/-- All are laid. -/
def lay (Q : Nat → List Ed) (N : Nat) : St := layD Q N 256

/-- What At tells. -/
def atF (bs va ow : List Int) (row place : Int) : Int × Bool :=
  if 0 ≤ row ∧ row < bs.length ∧ 0 ≤ place ∧ 0 ≤ bs.getD row.toNat 0 ∧ bs.getD row.toNat 0 < (min va.length ow.length : Nat) ∧ place < (min va.length ow.length : Nat) - bs.getD row.toNat 0 ∧ ow.getD (bs.getD row.toNat 0 + place).toNat 0 = row then (va.getD (bs.getD row.toNat 0 + place).toNat 0, true) else (0, false)

end Go.Proofs.Ytgmljpkenipgjaa.Pk

/-
  pack: the document's way of laying, its lengths, step by step, pure.
-/
namespace Go.Proofs.Ytgmljpkenipgjaa.Pk

theorem layE_len {i b : Nat} {s : List Int × List Int} (e : Ed) (h : s.1.length = s.2.length) : (layE i b s e).1.length = max s.1.length (b + e.1.toNat + 1) ∧ (layE i b s e).2.length = max s.1.length (b + e.1.toNat + 1) := by
  unfold layE
  simp only [List.length_set, pad_len]
  exact ⟨trivial, by rw [h]⟩
theorem layR_snoc (i b : Nat) (s : List Int × List Int) {l : List Ed} {k : Nat} (hk : k < l.length) : layR i b s (l.take (k + 1)) = layE i b (layR i b s (l.take k)) (l.getD k (0, 0)) := by
  rw [take_snoc hk]
  unfold layR
  rw [List.foldl_append]
  rfl
theorem layR_len (i b : Nat) : ∀ (l : List Ed) (s : List Int × List Int), s.1.length = s.2.length → (∀ e ∈ l, 0 ≤ e.1 ∧ e.1 < 256) → (layR i b s l).1.length = (layR i b s l).2.length ∧ s.1.length ≤ (layR i b s l).1.length ∧ (layR i b s l).1.length ≤ max s.1.length (b + 256)
  | [], s, h, _ => ⟨h, Nat.le_refl _, Nat.le_max_left _ _⟩
  | e :: l, s, h, hp => by
    have h0 := hp e (List.mem_cons_self ..)
    obtain ⟨h1, h2⟩ := layE_len (i := i) (b := b) e h
    obtain ⟨g1, g2, g3⟩ := layR_len i b l (layE i b s e) (by rw [h1, h2]) (fun x hx => hp x (List.mem_cons_of_mem _ hx))
    have h3 : e.1.toNat < 256 := by omega
    refine ⟨g1, ?_, ?_⟩
    · have : s.1.length ≤ (layE i b s e).1.length := by rw [h1]; exact Nat.le_max_left _ _
      exact Nat.le_trans this g2
    · refine Nat.le_trans g3 ?_
      rw [h1]
      omega

/-- Rows in order under way: as long, and not long. -/
def StOK (N m : Nat) (s : St) : Prop := s.bs.length = N ∧ s.ow.length = s.va.length ∧ s.ow.length ≤ m * 256
theorem StOK.row {N m i : Nat} {s : St} {l : List Ed} (h : StOK N m s) (hl : ∀ e ∈ l, 0 ≤ e.1 ∧ e.1 < 256) : StOK N (m + 1) (layRow s i l) := by
  obtain ⟨h1, h2, h3⟩ := h
  have hb := baseOf_le s.ow l
  obtain ⟨g1, g2, g3⟩ := layR_len i (baseOf s.ow l) l (s.ow, s.va) h2 hl
  unfold layRow
  refine ⟨by simpa using h1, g1, ?_⟩
  show (layR i (baseOf s.ow l) (s.ow, s.va) l).1.length ≤ (m + 1) * 256
  refine Nat.le_trans g3 ?_
  simp only []
  omega
theorem StOK.more {N m m' : Nat} {s : St} (h : StOK N m s) (hm : m ≤ m') : StOK N m' s := ⟨h.1, h.2.1, Nat.le_trans h.2.2 (Nat.mul_le_mul_right _ hm)⟩
theorem StOK.n {Q : Nat → List Ed} {N n m : Nat} {s : St} (hQ : ∀ i, i < N → ∀ e ∈ Q i, 0 ≤ e.1 ∧ e.1 < 256) (h : StOK N m s) : ∀ k, k ≤ N → StOK N (m + k) (layN Q n s k)
  | 0, _ => h
  | k + 1, hk => by
    have h1 := StOK.n (n := n) hQ h k (by omega)
    unfold layN
    split
    · exact h1.row (hQ k (by omega))
    · exact h1.more (by omega)
theorem StOK.start (N : Nat) : StOK N 0 ⟨List.replicate N 0, [], []⟩ := ⟨by simp, rfl, by simp⟩
theorem StOK.d {Q : Nat → List Ed} {N : Nat} (hQ : ∀ i, i < N → ∀ e ∈ Q i, 0 ≤ e.1 ∧ e.1 < 256) : ∀ d, StOK N (d * N) (layD Q N d)
  | 0 => by rw [Nat.zero_mul]; exact StOK.start N
  | d + 1 => by
    have h := StOK.n (n := 256 - d) hQ (StOK.d hQ d) N (Nat.le_refl _)
    rw [Nat.succ_mul]
    exact h
theorem layN_in (Q : Nat → List Ed) (n : Nat) (s : St) (k : Nat) (h : (Q k).length = n) : layN Q n s (k + 1) = layRow (layN Q n s k) k (Q k) := by
  show (if (Q k).length = n then _ else _) = _
  rw [if_pos h]
theorem layN_out (Q : Nat → List Ed) (n : Nat) (s : St) (k : Nat) (h : ¬ (Q k).length = n) : layN Q n s (k + 1) = layN Q n s k := by
  show (if (Q k).length = n then _ else _) = _
  rw [if_neg h]

/-- Laid by hand: what the first k bases under way tell. -/
theorem baseOf_next {ow : List Int} {l : List Ed} {b : Nat} (hl : ∀ c, c < b → ¬ Fits ow l c) (h : fitsB ow l b = false) : ∀ c, c < b + 1 → ¬ Fits ow l c := fun c hc => by
  by_cases e : c = b
  · subst e
    intro h2
    rw [(fitsB_iff _ _ _).2 h2] at h
    cases h
  · exact hl c (by omega)
theorem base_le {ow : List Int} {l : List Ed} {b : Nat} (hl : ∀ c, c < b → ¬ Fits ow l c) : b ≤ ow.length := Nat.le_of_not_lt fun h => hl _ h (fits_end _ _ _ (Nat.le_refl _))

end Go.Proofs.Ytgmljpkenipgjaa.Pk
