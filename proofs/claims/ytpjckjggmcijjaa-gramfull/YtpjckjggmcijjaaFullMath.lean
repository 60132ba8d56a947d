/-
  The names of GramFull.
-/
import Derived.Test.YtpjckjggmcijjaaAwakeWalk
namespace Go.Proofs.Ytpjckjggmcijjaa

/-- The i-th name: n and two letters. -/
def nm (i : Nat) : ByteArray := ⟨#[110, UInt8.ofNat (97 + i / 26), UInt8.ofNat (97 + i % 26)]⟩
theorem nm_text : ∀ i, i < 64 → isTextB (nm i) = true := by decide
theorem nm_name : ∀ i, i < 64 → isNameB (nm i) = true := by decide
theorem nm_inj {i j : Nat} (hi : i < 64) (hj : j < 64) (h : nm i = nm j) : i = j := by
  have h1 : chr (nm i) 1 = chr (nm j) 1 := by rw [h]
  have h2 : chr (nm i) 2 = chr (nm j) 2 := by rw [h]
  have e1 : ∀ i, i < 64 → chr (nm i) 1 = 97 + i / 26 := by decide
  have e2 : ∀ i, i < 64 → chr (nm i) 2 = 97 + i % 26 := by decide
  rw [e1 i hi, e1 j hj] at h1
  rw [e2 i hi, e2 j hj] at h2
  omega

/-- The builder behind k names of GramFull, of which n + 1 are nonterminals'. -/
def FS (n k : Nat) : BS := { terms := (List.range' (n + 1) (k - (n + 1))).map nm, nons := (List.range (min k (n + 1))).map nm, lev := fun _ => 0, sides := [], prods := [], start := 0 }
theorem fs_zero (n : Nat) : FS n 0 = BS.zero := by simp [FS, BS.zero]

theorem nm_notin_nons {n k : Nat} (hk : k < 64) : nm k ∉ (List.range (min k (n + 1))).map nm := by
  intro h
  obtain ⟨j, hj, e⟩ := List.mem_map.1 h
  have hj' : j < min k (n + 1) := by simpa using hj
  have := nm_inj (by omega) hk e
  omega
theorem nm_notin_terms {n k : Nat} (hk : k < 64) : nm k ∉ (List.range' (n + 1) (k - (n + 1))).map nm := by
  intro h
  obtain ⟨j, hj, e⟩ := List.mem_map.1 h
  have hj' : n + 1 ≤ j ∧ j < n + 1 + (k - (n + 1)) := by simpa using hj
  have := nm_inj (by omega) hk e
  omega
theorem fs_full {n k : Nat} (hk : k < 64) : (FS n k).full = false := by
  simp [BS.full, FS]; omega
theorem fs_fullT {n : Nat} (hn : n < 64) : (FS n 64).full = true := by
  simp [BS.full, FS]; omega

theorem numbered_new {l : List ByteArray} {s : ByteArray} (h : numOf l s = 0) : numbered false l s = (l.length + 1, 0) := by simp [numbered, h]
theorem numbered_full {l : List ByteArray} {s : ByteArray} (h : numOf l s = 0) : numbered true l s = (0, 11) := by simp [numbered, h]
theorem numbered_old {l : List ByteArray} {s : ByteArray} {b : Bool} (h : numOf l s ≠ 0) : numbered b l s = (numOf l s, 0) := by simp [numbered, h]

theorem fs_non {n k : Nat} (hk : k ≤ n) (hn : n < 64) : (FS n k).non (nm k) = (-1 - (k : Int), 0, FS n (k + 1)) := by
  have h1 := nm_name k (by omega)
  have h2 : numOf (FS n k).nons (nm k) = 0 := numOf_zero (nm_notin_nons (by omega))
  have h3 := fs_full (n := n) (k := k) (by omega)
  have hl : (FS n k).nons.length = k := by simp [FS]; omega
  have e : (FS n k).addN (nm k) = FS n (k + 1) := by
    unfold BS.addN FS
    congr 1
    · rw [show k + 1 - (n + 1) = 0 by omega, show k - (n + 1) = 0 by omega]
    · rw [show min k (n + 1) = k by omega, show min (k + 1) (n + 1) = k + 1 by omega, List.range_succ]
      simp
  unfold BS.non
  rw [if_pos h1, h3, numbered_new h2, if_pos ⟨h2, rfl⟩, hl, e]
  congr 1
  show -(((k + 1 : Nat)) : Int) = _
  omega

theorem fs_term {n k : Nat} (hn : n < k) (hk : k < 64) : (FS n k).term (nm k) = ((k : Int) - n, 0, FS n (k + 1)) := by
  have h1 := nm_text k (by omega)
  have h2 : numOf (FS n k).terms (nm k) = 0 := numOf_zero (nm_notin_terms (by omega))
  have h3 := fs_full (n := n) (k := k) (by omega)
  have hl : (FS n k).terms.length = k - (n + 1) := by simp [FS]
  have e : (FS n k).addT (nm k) = FS n (k + 1) := by
    unfold BS.addT FS
    congr 1
    · rw [show k + 1 - (n + 1) = k - (n + 1) + 1 by omega, List.range'_concat]
      simp
      congr 1
      omega
    · rw [show min k (n + 1) = n + 1 by omega, show min (k + 1) (n + 1) = n + 1 by omega]
  unfold BS.term
  rw [if_pos h1, h3, numbered_new h2, if_pos ⟨h2, rfl⟩, hl, e]
  congr 1
  show ((k - (n + 1) + 1 : Nat) : Int) = _
  omega

def moreB : ByteArray := ⟨#[109, 111, 114, 101]⟩
theorem more_not (l : List Nat) : moreB ∉ l.map nm := by
  intro h
  obtain ⟨j, _, e⟩ := List.mem_map.1 h
  have : (nm j).size = moreB.size := by rw [e]
  exact absurd this (by show ¬ (3 = 4); decide)
theorem fs_more_non {n : Nat} (hn : n < 64) : (FS n 64).non moreB = (0, 11, FS n 64) := by
  have h2 : numOf (FS n 64).nons moreB = 0 := numOf_zero (more_not _)
  unfold BS.non
  rw [if_pos (by decide), fs_fullT hn, numbered_full h2, if_neg (by simp)]
  rfl
theorem fs_more_term {n : Nat} (hn : n < 64) : (FS n 64).term moreB = (0, 11, FS n 64) := by
  have h2 : numOf (FS n 64).terms moreB = 0 := numOf_zero (more_not _)
  unfold BS.term
  rw [if_pos (by decide), fs_fullT hn, numbered_full h2, if_neg (by simp)]
  rfl
theorem fs_again {n : Nat} (_hn : n < 64) : (FS n 64).non (nm 0) = (-1, 0, FS n 64) := by
  have e : (FS n 64).nons = nm 0 :: (List.range' 1 (min 63 n)).map nm := by
    show (List.range (min 64 (n + 1))).map nm = _
    rw [show min 64 (n + 1) = min 63 n + 1 by omega, List.range_eq_range', List.range'_succ]
    rfl
  have h2 : numOf (FS n 64).nons (nm 0) = 1 := by rw [e]; unfold numOf numFrom; rw [if_pos rfl]
  unfold BS.non
  rw [if_pos (by decide), numbered_old (by omega), if_neg (by omega), h2]
  rfl

/-- And behind m productions. -/
def FR (n m : Nat) : BS := { FS n 64 with prods := (List.range m).map fun i => ⟨-1 - ((i % (n + 1) : Nat) : Int), [], 0⟩ }
theorem fr_zero (n : Nat) : FR n 0 = FS n 64 := by simp [FR, FS]
theorem fr_isN {n m i : Nat} (hi : i ≤ n) (hn : n < 64) : (FR n m).isN (-1 - (i : Int)) = true := by
  have hl : (FR n m).nons.length = n + 1 := by simp [FR, FS]; omega
  unfold BS.isN
  rw [hl]
  simp
  omega
theorem fr_rule {n m : Nat} (hn : n < 64) (hm : m < 96) : (FR n m).rule (-1 - ((m % (n + 1) : Nat) : Int)) [] = ((m : Int), 0, FR n (m + 1)) := by
  have h1 := fr_isN (n := n) (m := m) (i := m % (n + 1)) (by have := Nat.mod_lt m (show 0 < n + 1 by omega); omega) hn
  have hl : (FR n m).prods.length = m := by simp [FR]
  have e : (FR n m).addP ⟨-1 - ((m % (n + 1) : Nat) : Int), [], (FR n m).levOf []⟩ = FR n (m + 1) := by
    unfold BS.addP FR
    congr 1
    rw [List.range_succ]
    simp
    rfl
  unfold BS.rule
  rw [if_pos ⟨h1, rfl⟩, hl, if_neg (by omega), e]
theorem fr_over {n : Nat} (hn : n < 64) : (FR n 96).rule (-1) [] = (0, 11, FR n 96) := by
  have h1 := fr_isN (n := n) (m := 96) (i := 0) (by omega) hn
  have hl : (FR n 96).prods.length = 96 := by simp [FR]
  unfold BS.rule
  rw [if_pos ⟨h1, rfl⟩, hl, if_pos (by omega)]
theorem fr_last {n : Nat} (hn : n < 64) : (FR n 95).rule (-1) [] = (95, 0, ((FR n 95).rule (-1) []).2.2) := by
  have h1 := fr_isN (n := n) (m := 95) (i := 0) (by omega) hn
  have hl : (FR n 95).prods.length = 95 := by simp [FR]
  unfold BS.rule
  rw [if_pos ⟨h1, rfl⟩, hl, if_neg (by omega)]
  rfl

end Go.Proofs.Ytpjckjggmcijjaa
