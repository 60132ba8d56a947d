import Derived.Test.YtmkimeojcpadpaaQjhnaajieiplk

/-
  reach, pure: what rounds come to, as least sets; sets of bits against marks of nonterminals.
-/
namespace Go.Proofs.Ytmkimeojcpadpaa

section
variable {σ : Type} {step : Nat → σ → σ} {chg : Nat → σ → Bool}
theorem rnd_inv {n : Nat} (P : σ → Prop) (hP : ∀ k s, k < n → P s → P (step k s)) (s : σ) (h : P s) : ∀ j, j ≤ n → P (rnd step j s)
  | 0, _ => h
  | j + 1, hj => hP j _ (by omega) (rnd_inv P hP s h j (by omega))
theorem itr_inv {n : Nat} (P : σ → Prop) (hP : ∀ k s, k < n → P s → P (step k s)) (s : σ) (h : P s) : ∀ t, P (itr step n t s)
  | 0 => h
  | t + 1 => rnd_inv P hP _ (itr_inv P hP s h t) n (Nat.le_refl _)
theorem Fix.inv {n : Nat} {s0 F : σ} (hF : Fix step chg n s0 F) (P : σ → Prop) (hP : ∀ k s, k < n → P s → P (step k s)) (h : P s0) : P F := by
  obtain ⟨t, rfl, _⟩ := hF
  exact itr_inv P hP s0 h t
theorem rchg_each (h : ∀ k s, chg k s = false → step k s = s) (s : σ) : ∀ n, rchg step chg n s = false → ∀ k, k < n → chg k s = false
  | 0, _, k, hk => by omega
  | n + 1, hn, k, hk => by
    simp only [rchg, Bool.or_eq_false_iff] at hn
    by_cases e : k = n
    · subst e
      have := hn.2
      rwa [rnd_same step chg h s k hn.1] at this
    · exact rchg_each h s n hn.1 k (by omega)
theorem Fix.stay {n : Nat} {s0 F : σ} (hF : Fix step chg n s0 F) (h : ∀ k s, chg k s = false → step k s = s) (k : Nat) (hk : k < n) : chg k F = false := by
  obtain ⟨t, rfl, hc⟩ := hF
  exact rchg_each h _ n hc k hk
end

/-- A set of bits: all terminals, and the marked nonterminals. -/
def bitsN (tn nn m : Nat) (f : Nat → Bool) : Prop := ∀ i, m.testBit i = (decide (i < tn) || (decide (i < tn + nn) && f (i - tn)))

/-- The bits of a row. -/
def rowB (N : Nat) (l : List Int) : Nat := (B.addS N 0 l).1
theorem rowB_bit (N : Nat) (l : List Int) (i : Nat) : (rowB N l).testBit i = (decide (i < N) && l.contains (i : Int)) := by
  unfold rowB
  rw [addS_bit]
  simp

theorem cov_fits {tn nn m : Nat} {f : Nat → Bool} (hm : bitsN tn nn m f) (l : List Int) (hl : ∀ x ∈ l, (0 : Int) ≤ x ∧ x < ((tn + nn : Nat) : Int)) :
    fitsB tn f l = true ↔ ∀ i, (rowB (tn + nn) l).testBit i = true → m.testBit i = true := by
  rw [fitsB_iff]
  constructor
  · intro h i hi
    rw [rowB_bit] at hi
    simp at hi
    rw [hm i]
    by_cases ht : i < tn
    · simp [ht]
    · have := h i hi.2 (by omega)
      have e : ((i : Int) - (tn : Int)).toNat = i - tn := by omega
      rw [e] at this
      simp [ht, hi.1, this]
  · intro h x hx hxt
    obtain ⟨h0, h1⟩ := hl x hx
    obtain ⟨y, rfl⟩ := Int.eq_ofNat_of_zero_le h0
    have := h y (by rw [rowB_bit]; simp [hx]; omega)
    rw [hm y] at this
    have e : ((y : Int) - (tn : Int)).toNat = y - tn := by omega
    rw [e]
    have ht : ¬ y < tn := by omega
    simp [ht] at this
    exact this.2

theorem addS_one2 (N m : Nat) (x : Int) : (B.addS N m [x]).2 = if (B.inB N x && !B.hasB m x) = true then 1 else 0 := by
  unfold B.addS
  simp only [List.foldl_cons, List.foldl_nil]
  unfold B.addStep
  by_cases h : (B.inB N x && !B.hasB m x) = true
  · rw [if_pos h, if_pos h]
  · rw [if_neg h, if_neg h]

/-- A nonterminal more. -/
theorem add_bits {tn nn m : Nat} {f : Nat → Bool} (hm : bitsN tn nn m f) (v : Nat) (hv : v < nn) : bitsN tn nn (B.addS (tn + nn) m [((tn + v : Nat) : Int)]).1 (mark f v true) ∧ (B.addS (tn + nn) m [((tn + v : Nat) : Int)]).2 = (!f v).toNat := by
  constructor
  · intro i
    rw [addS_bit, hm i]
    by_cases e : i = tn + v
    · subst e
      simp [mark, hv]
    · have e2 : ¬ (i : Int) = ((tn + v : Nat) : Int) := by omega
      by_cases ht : i < tn
      · simp [ht]
      · have e3 : ¬ i - tn = v := by omega
        simp [mark, e3, ht]
        intro _ h4; omega
  · rw [addS_one2]
    have h1 : B.inB (tn + nn) ((tn + v : Nat) : Int) = true := by simp [B.inB]; omega
    have h2 : B.hasB m ((tn + v : Nat) : Int) = f v := by
      unfold B.hasB
      have e : (((tn + v : Nat) : Int)).toNat = tn + v := by omega
      have a1 : decide ((0 : Int) ≤ ((tn + v : Nat) : Int)) = true := decide_eq_true (by omega)
      have a2 : decide (tn + v < tn) = false := decide_eq_false (by omega)
      have a3 : decide (tn + v < tn + nn) = true := decide_eq_true (by omega)
      have a4 : tn + v - tn = v := by omega
      rw [e, hm (tn + v), a1, a2, a3, a4]
      simp
    rw [h1, h2]
    cases f v <;> rfl

end Go.Proofs.Ytmkimeojcpadpaa

/-
  reach, pure: a grammar that may be; what is useful, by the program's rounds and by the document's.
-/
namespace Go.Proofs.Ytmkimeojcpadpaa

/-- What the marks lean on of a grammar that may be. -/
structure MayOK (tn nn n : Nat) (st : Int) (L : Nat → Int) (R : Nat → List Int) (cl : Bool) : Prop where
  t0 : 0 < tn
  tmax : tn ≤ 65
  n0 : 0 < nn
  nmax : nn ≤ 65
  pmax : n ≤ 97
  p0 : 0 < n
  left : ∀ k, k < n → (tn : Int) ≤ L k ∧ L k < ((tn + nn : Nat) : Int)
  right : ∀ k, k < n → ∀ x ∈ R k, (0 : Int) < x ∧ x < ((tn + nn : Nat) : Int)
  start : (tn : Int) ≤ st ∧ st < ((tn + nn : Nat) : Int)
  added : cl = true → L 0 = tn ∧ R 0 = [st]

theorem mayOK_valid {ts : List (ByteArray × Int)} {ns : List ByteArray} {lv : List Int} {st : Int} {n : Nat} {L : Nat → Int} {R : Nat → List Int} {V : Nat → Int} (h : validOK ts ns lv st n L R V) : MayOK ts.length ns.length n st L R false := by
  have hf := (fits_holds ts ns lv st n L R V).2 h.1
  have hs := hf.start
  unfold isNonI at hs
  refine ⟨hf.terms.1.1, hf.tn, by omega, by have := hf.nn; omega, by have := hf.pn; omega, by have := hf.p1; omega, fun k hk => ?_, fun k hk x hx => ?_, by omega, by simp⟩
  · have := (hf.prods k (Nat.zero_le _) hk).1
    unfold isNonI at this
    omega
  · have := (hf.prods k (Nat.zero_le _) hk).2.2 x hx
    unfold isSymI isNonI at this
    have := hf.terms.1.1
    omega

theorem mayOK_closed {ts : List (ByteArray × Int)} {ns : List ByteArray} {lv : List Int} {st : Int} {n : Nat} {L : Nat → Int} {R : Nat → List Int} {V : Nat → Int} (h : closedOK ts ns lv st n L R V) : MayOK ts.length ns.length n st L R true := by
  obtain ⟨ha, hf⟩ := h
  have hs := hf.start
  unfold isNonI at hs
  refine ⟨hf.terms.1.1, hf.tn, ha.nn, by have := hf.nn; omega, by have := hf.pn; omega, ha.pn, fun k hk => ?_, fun k hk x hx => ?_, by omega, fun _ => ⟨ha.left, ha.right⟩⟩
  · by_cases h0 : k = 0
    · subst h0
      have := ha.left
      have := ha.nn
      omega
    · have := (hf.prods k (by omega) hk).1
      unfold isNonI at this
      omega
  · by_cases h0 : k = 0
    · subst h0
      rw [ha.right] at hx
      simp at hx
      have := hf.terms.1.1
      omega
    · have := (hf.prods k (by omega) hk).2.2 x hx
      unfold isSymI isNonI at this
      have := hf.terms.1.1
      omega

theorem name_ne {s : ByteArray} (h : isNameB s = true) : s ≠ ⟨#[]⟩ := by
  rintro rfl
  exact absurd h (by decide)

/-- A grammar isn't both; the first name says which. -/
theorem valid_name {ts : List (ByteArray × Int)} {ns : List ByteArray} {lv : List Int} {st : Int} {n : Nat} {L : Nat → Int} {R : Nat → List Int} {V : Nat → Int} (h : validOK ts ns lv st n L R V) : ns.getD 0 ⟨#[]⟩ ≠ ⟨#[]⟩ := by
  have hf := (fits_holds ts ns lv st n L R V).2 h.1
  have hm := mayOK_valid h
  exact name_ne (hf.nons 0 (Nat.le_refl _) hm.n0).1

section
variable (tn nn : Nat) (L : Nat → Int) (R : Nat → List Int) (may : Nat → Bool)

/-- The document's step: what stands in a useful one's row is useful. -/
def goD (k : Nat) (f : Nat → Bool) : Bool := f (L k - tn).toNat && fitsB tn may (R k)
def stD (k : Nat) (f : Nat → Bool) : Nat → Bool := if goD tn L R may k f = true then (fun i => f i || (R k).contains ((tn + i : Nat) : Int)) else f
def chD (k : Nat) (f : Nat → Bool) : Bool := goD tn L R may k f && (R k).any fun x => decide ((tn : Int) ≤ x) && !f (x - tn).toNat

/-- The program's step, over the bits of symbols. -/
def goU (k : Nat) (u : Nat) : Bool := B.hasB u (L k) && fitsB tn may (R k)
def stU (k : Nat) (u : Nat) : Nat := if goU tn L R may k u = true then u ||| (rowB (tn + nn) (R k) &&& (2 ^ (tn + nn) - 1)) else u
def adU (k : Nat) (u : Nat) : Nat := if goU tn L R may k u = true then B.cnt (u ||| (rowB (tn + nn) (R k) &&& (2 ^ (tn + nn) - 1))) - B.cnt u else 0
end

section
variable {tn nn : Nat} {L : Nat → Int} {R : Nat → List Int} {may : Nat → Bool}
theorem rowB_and (N : Nat) (l : List Int) : rowB N l &&& (2 ^ N - 1) = rowB N l := by
  apply Nat.eq_of_testBit_eq
  intro i
  rw [Nat.testBit_and, Nat.testBit_two_pow_sub_one, rowB_bit]
  cases decide (i < N) <;> simp

theorem stD_same (k : Nat) (f : Nat → Bool) (h : chD tn L R may k f = false) : stD tn L R may k f = f := by
  unfold stD
  by_cases hg : goD tn L R may k f = true
  · rw [if_pos hg]
    unfold chD at h
    rw [hg, Bool.true_and, List.any_eq_false] at h
    funext i
    by_cases hc : (R k).contains ((tn + i : Nat) : Int) = true
    · have hm : ((tn + i : Nat) : Int) ∈ R k := by simpa using hc
      have h1 := h _ hm
      have e : (((tn + i : Nat) : Int) - (tn : Int)).toNat = i := by omega
      rw [e] at h1
      simp at h1
      have := h1 (by omega)
      rw [this]; simp
    · rw [Bool.not_eq_true] at hc
      rw [hc, Bool.or_false]
  · rw [if_neg hg]

theorem cnt_or_le (a b : Nat) : B.cnt a ≤ B.cnt (a ||| b) := (pc_or 1024 a b).1
theorem adU_same {N : Nat} (hN : tn + nn = N) (h1 : N ≤ 1024) (k : Nat) (u : Nat) (h : adU tn nn L R may k u = 0) : stU tn nn L R may k u = u := by
  unfold adU at h
  unfold stU
  by_cases hg : goU tn L R may k u = true
  · rw [if_pos hg] at h ⊢
    rw [rowB_and] at h ⊢
    have hle := cnt_or_le u (rowB (tn + nn) (R k))
    have he := (pc_or 1024 u (rowB (tn + nn) (R k))).2.1 (show B.pc 1024 _ = B.pc 1024 u by unfold B.cnt at h hle; omega)
    apply Nat.eq_of_testBit_eq
    intro i
    rw [Nat.testBit_or]
    by_cases hi : (rowB (tn + nn) (R k)).testBit i = true
    · have hlt : i < 1024 := by
        rw [rowB_bit] at hi
        simp at hi
        omega
      rw [he i hlt hi, hi]; rfl
    · rw [Bool.not_eq_true] at hi
      rw [hi, Bool.or_false]
  · rw [if_neg hg]
theorem stU_mu (k : Nat) (u : Nat) : (1024 - B.cnt (stU tn nn L R may k u)) + adU tn nn L R may k u ≤ 1024 - B.cnt u := by
  unfold adU stU
  by_cases hg : goU tn L R may k u = true
  · rw [if_pos hg, if_pos hg]
    have h1 := cnt_or_le u (rowB (tn + nn) (R k) &&& (2 ^ (tn + nn) - 1))
    have h2 := cnt_le (u ||| (rowB (tn + nn) (R k) &&& (2 ^ (tn + nn) - 1)))
    omega
  · rw [if_neg hg, if_neg hg]; omega
theorem stU_bit (k u i : Nat) : (stU tn nn L R may k u).testBit i = (u.testBit i || (goU tn L R may k u && (decide (i < tn + nn) && (R k).contains (i : Int)))) := by
  unfold stU
  by_cases hg : goU tn L R may k u = true
  · rw [if_pos hg, hg, rowB_and, Nat.testBit_or, rowB_bit, Bool.true_and]
  · rw [if_neg hg]
    rw [Bool.not_eq_true] at hg
    rw [hg, Bool.false_and, Bool.or_false]

/-- Where the rounds begin. -/
def startU (root : Nat) (p : Bool) : Nat := if p = true then 2 ^ root else 0
def startD (s : Nat) (cl p : Bool) : Nat → Bool := fun i => p && (decide (i = s) || (cl && decide (i = 0)))

theorem used_same {n : Nat} {st : Int} {cl : Bool} (hM : MayOK tn nn n st L R cl) {F : Nat → Bool} {U root : Nat} {p : Bool} (hp : p = may (st - tn).toNat) (hroot : (root : Int) = if cl = true then (tn : Int) else st)
    (hF : Fix (stD tn L R may) (chD tn L R may) n (startD (st - tn).toNat cl p) F) (hU : Fix (stU tn nn L R may) (fun k u => decide (0 < adU tn nn L R may k u)) n (startU root p) U) :
    ∀ i, i < nn → U.testBit (tn + i) = F i := by
  have h1024 : tn + nn ≤ 1024 := by have := hM.tmax; have := hM.nmax; omega
  have hFs := fun k hk => hF.stay (fun k s => stD_same k s) k hk
  have hUs := fun k hk => hU.stay (fun k s h => adU_same rfl h1024 k s (by have := of_decide_eq_false h; omega)) k hk
  have hF0 : ∀ i, startD (st - tn).toNat cl p i = true → F i = true := by
    refine hF.inv (fun f => ∀ i, startD (st - tn).toNat cl p i = true → f i = true) (fun k f _ hf i hi => ?_) (fun i hi => hi)
    unfold stD
    split
    · show (f i || _) = true
      rw [hf i hi]; rfl
    · exact hf i hi
  have hU0 : ∀ i, (startU root p).testBit i = true → U.testBit i = true := by
    refine hU.inv (fun u => ∀ i, (startU root p).testBit i = true → u.testBit i = true) (fun k u _ hu i hi => ?_) (fun i hi => hi)
    rw [stU_bit, hu i hi]; rfl
  have hUr : p = true → U.testBit root = true := fun h => hU0 root (by unfold startU; rw [if_pos h, Nat.testBit_two_pow]; simp)
  have hUst : ∀ k, k < n → goU tn L R may k U = true → ∀ x ∈ R k, U.testBit x.toNat = true := by
    intro k hk hg x hx
    have h0 : adU tn nn L R may k U = 0 := by have := of_decide_eq_false (hUs k hk); omega
    have he := adU_same rfl h1024 k U h0
    obtain ⟨h1, h2⟩ := hM.right k hk x hx
    have hb := stU_bit (tn := tn) (nn := nn) (L := L) (R := R) (may := may) k U x.toNat
    rw [he, hg, Bool.true_and] at hb
    have e : ((x.toNat : Nat) : Int) = x := by omega
    rw [e] at hb
    have hlt : x.toNat < tn + nn := by omega
    rw [hb]
    simp [hlt, hx]
  have hA : ∀ i, U.testBit i = true → i < tn ∨ F (i - tn) = true := by
    refine hU.inv (fun u => ∀ i, u.testBit i = true → i < tn ∨ F (i - tn) = true) (fun k u hk hu i hi => ?_) (fun i hi => ?_)
    · rw [stU_bit, Bool.or_eq_true] at hi
      rcases hi with hi | hi
      · exact hu i hi
      · rw [Bool.and_eq_true, Bool.and_eq_true] at hi
        obtain ⟨hg, _, hc⟩ := hi
        unfold goU at hg
        rw [Bool.and_eq_true] at hg
        obtain ⟨hl1, hl2⟩ := hM.left k hk
        have hlb : u.testBit (L k).toNat = true := by
          have := hg.1
          unfold B.hasB at this
          rw [Bool.and_eq_true] at this
          exact this.2
        have hl : F (L k - tn).toNat = true := by
          rcases hu _ hlb with h | h
          · omega
          · have e : (L k).toNat - tn = (L k - tn).toNat := by omega
            rwa [e] at h
        by_cases ht : i < tn
        · exact .inl ht
        · right
          have hs := hFs k hk
          unfold chD goD at hs
          rw [hl, hg.2, Bool.true_and, Bool.true_and, List.any_eq_false] at hs
          have hx : (i : Int) ∈ R k := by simpa using hc
          have h3 := hs _ hx
          have e : ((i : Int) - (tn : Int)).toNat = i - tn := by omega
          rw [e] at h3
          simp at h3
          exact h3 (by omega)
    · unfold startU at hi
      split at hi
      · rename_i hpt
        rw [Nat.testBit_two_pow] at hi
        have e : root = i := by simpa using hi
        subst e
        right
        refine hF0 _ ?_
        unfold startD
        rw [hpt, Bool.true_and]
        by_cases hc : cl = true
        · rw [if_pos hc] at hroot
          have : root - tn = 0 := by omega
          simp [hc, this]
        · rw [if_neg hc] at hroot
          have : root - tn = (st - tn).toNat := by omega
          simp [this]
      · simp at hi
  have hB : ∀ i, F i = true → i < nn → U.testBit (tn + i) = true := by
    refine hF.inv (fun f => ∀ i, f i = true → i < nn → U.testBit (tn + i) = true) (fun k f hk hf i hi hin => ?_) (fun i hi hin => ?_)
    · unfold stD at hi
      split at hi
      · rename_i hg
        rw [Bool.or_eq_true] at hi
        rcases hi with hi | hi
        · exact hf i hi hin
        · unfold goD at hg
          rw [Bool.and_eq_true] at hg
          obtain ⟨hl1, hl2⟩ := hM.left k hk
          have hl := hf _ hg.1 (by omega)
          have hgu : goU tn L R may k U = true := by
            unfold goU B.hasB
            have e : tn + (L k - tn).toNat = (L k).toNat := by omega
            rw [e] at hl
            rw [hl, hg.2]
            simp; omega
          have hx : ((tn + i : Nat) : Int) ∈ R k := by simpa using hi
          have := hUst k hk hgu _ hx
          have e9 : (((tn + i : Nat) : Int)).toNat = tn + i := by omega
          rwa [e9] at this
      · exact hf i hi hin
    · unfold startD at hi
      rw [Bool.and_eq_true] at hi
      obtain ⟨hpt, hi⟩ := hi
      have hr := hUr hpt
      obtain ⟨hs1, hs2⟩ := hM.start
      by_cases hc : cl = true
      · rw [if_pos hc] at hroot
        have e : root = tn := by omega
        subst e
        obtain ⟨ha1, ha2⟩ := hM.added hc
        have hgu : goU root L R may 0 U = true := by
          unfold goU B.hasB
          rw [ha1]
          have e : ((root : Nat) : Int).toNat = root := by omega
          rw [e, hr, ha2]
          have : fitsB root may [st] = true := by
            rw [fitsB_iff]
            intro x hx _
            have : x = st := by simpa using hx
            rw [this, ← hp]; exact hpt
          rw [this]; simp
        have hst := hUst 0 hM.p0 hgu st (by rw [ha2]; simp)
        simp [hc] at hi
        rcases hi with hi | hi
        · have e2 : root + i = st.toNat := by omega
          rw [e2]; exact hst
        · rw [hi]; exact hr
      · rw [if_neg hc] at hroot
        simp [hc] at hi
        have e2 : tn + i = root := by omega
        rw [e2]; exact hr
  intro i hi
  rw [Bool.eq_iff_iff]
  constructor
  · intro h
    rcases hA _ h with h1 | h1
    · omega
    · have e : tn + i - tn = i := by omega
      rwa [e] at h1
  · exact fun h => hB i h hi
end

end Go.Proofs.Ytmkimeojcpadpaa

/-
  reach, pure: the document's rounds of Used.
-/
namespace Go.Proofs.Ytmkimeojcpadpaa
open Go.RowKit Go.Maps Go.Shelf

theorem un_mono {f g : Nat → Bool} : ∀ n, (∀ i, i < n → f i = true → g i = true) → un n g ≤ un n f
  | 0, _ => Nat.le_refl _
  | n + 1, h => by
    have ih := un_mono n fun i hi => h i (by omega)
    have := h n (by omega)
    simp only [un]
    cases hf : f n with
    | true => rw [this hf]; simpa using ih
    | false => cases g n <;> simp <;> omega
theorem un_lt {f g : Nat → Bool} {x : Nat} : ∀ n, (∀ i, i < n → f i = true → g i = true) → x < n → f x = false → g x = true → un n g + 1 ≤ un n f
  | 0, _, hx, _, _ => by omega
  | n + 1, h, hx, h1, h2 => by
    by_cases e : x = n
    · subst e
      have ih := un_mono x fun i hi => h i (by omega)
      simp only [un, h1, h2]
      simp; omega
    · have ih := un_lt n (fun i hi => h i (by omega)) (by omega) h1 h2
      have h3 := h n (by omega)
      simp only [un]
      cases hf : f n with
      | true => rw [h3 hf]; simpa using ih
      | false => cases g n <;> simp <;> omega

section
variable (tn : Nat)
/-- While a row's nonterminals are marked: after j symbols. -/
def inJ (f : Nat → Bool) (l : List Int) (j : Nat) : Nat → Bool := fun i => f i || (l.take j).contains ((tn + i : Nat) : Int)
def chJ (f : Nat → Bool) (l : List Int) (j : Nat) : Bool := (l.take j).any fun x => decide ((tn : Int) ≤ x) && !f (x - tn).toNat
end
section
variable {tn : Nat} {f : Nat → Bool} {l : List Int} {j : Nat}
theorem inJ_zero : inJ tn f l 0 = f := by funext i; simp [inJ]
theorem chJ_zero : chJ tn f l 0 = false := rfl
theorem take_succ' (hj : j < l.length) : l.take (j + 1) = l.take j ++ [l.getD j 0] := by
  rw [List.take_add_one, List.getElem?_eq_getElem hj]
  simp [List.getD, hj]
theorem inJ_term (hj : j < l.length) (h : l.getD j 0 < (tn : Int)) : inJ tn f l (j + 1) = inJ tn f l j ∧ chJ tn f l (j + 1) = chJ tn f l j := by
  constructor
  · funext i
    unfold inJ
    rw [take_succ' hj]
    have e : ¬ ((tn + i : Nat) : Int) = l.getD j 0 := by omega
    have e2 : (((tn + i : Nat) : Int) == l.getD j 0) = false := by simpa using e
    rw [List.contains_eq_any_beq, List.contains_eq_any_beq, List.any_append]
    simp only [List.any_cons, List.any_nil, e2, Bool.or_false]
  · unfold chJ
    rw [take_succ' hj, List.any_append]
    have e : decide ((tn : Int) ≤ l.getD j 0) = false := decide_eq_false (by omega)
    simp only [List.any_cons, List.any_nil, e, Bool.false_and, Bool.or_false]
theorem inJ_had (hj : j < l.length) {v : Nat} (hv : l.getD j 0 = ((tn + v : Nat) : Int)) (h : inJ tn f l j v = true) : inJ tn f l (j + 1) = inJ tn f l j ∧ chJ tn f l (j + 1) = chJ tn f l j := by
  constructor
  · funext i
    by_cases e : i = v
    · subst e
      rw [h]
      unfold inJ at h ⊢
      rw [take_succ' hj]
      rw [List.contains_eq_any_beq, List.any_append, ← List.contains_eq_any_beq]
      rcases (Bool.or_eq_true _ _).mp h with h | h
      · rw [h]; rfl
      · rw [h]; simp
    · unfold inJ
      rw [take_succ' hj, hv]
      have e2 : (((tn + i : Nat) : Int) == ((tn + v : Nat) : Int)) = false := by simp; omega
      rw [List.contains_eq_any_beq, List.contains_eq_any_beq, List.any_append]
      simp only [List.any_cons, List.any_nil, e2, Bool.or_false]
  · unfold chJ
    rw [take_succ' hj, List.any_append, hv]
    have e1 : (((tn + v : Nat) : Int) - (tn : Int)).toNat = v := by omega
    simp only [List.any_cons, List.any_nil, Bool.or_false, e1]
    cases hf : f v with
    | true => simp
    | false =>
      have hc : (l.take j).contains ((tn + v : Nat) : Int) = true := by
        unfold inJ at h; rw [hf, Bool.false_or] at h; exact h
      have hm : ((tn + v : Nat) : Int) ∈ l.take j := by simpa using hc
      have : ((l.take j).any fun x => decide ((tn : Int) ≤ x) && !f (x - tn).toNat) = true := List.any_eq_true.2 ⟨_, hm, by rw [e1, hf]; simp; omega⟩
      rw [this]; rfl
theorem inJ_new (hj : j < l.length) {v : Nat} (hv : l.getD j 0 = ((tn + v : Nat) : Int)) (h : inJ tn f l j v = false) : inJ tn f l (j + 1) = mark (inJ tn f l j) v true ∧ chJ tn f l (j + 1) = true := by
  constructor
  · funext i
    unfold mark
    by_cases e : i = v
    · subst e
      rw [if_pos rfl]
      unfold inJ
      rw [take_succ' hj, hv, List.contains_eq_any_beq, List.any_append]
      simp
    · rw [if_neg e]
      unfold inJ
      rw [take_succ' hj, hv]
      have e2 : (((tn + i : Nat) : Int) == ((tn + v : Nat) : Int)) = false := by simp; omega
      rw [List.contains_eq_any_beq, List.contains_eq_any_beq, List.any_append]
      simp only [List.any_cons, List.any_nil, e2, Bool.or_false]
  · unfold chJ
    rw [take_succ' hj, List.any_append, hv]
    have e1 : (((tn + v : Nat) : Int) - (tn : Int)).toNat = v := by omega
    have hf : f v = false := by
      unfold inJ at h
      exact (Bool.or_eq_false_iff.1 h).1
    have e3 : decide ((tn : Int) ≤ ((tn + v : Nat) : Int)) = true := decide_eq_true (by omega)
    simp only [List.any_cons, List.any_nil, e1, hf, e3, Bool.not_false, Bool.and_true, Bool.or_false, Bool.or_true]
theorem inJ_all : inJ tn f l l.length = fun i => f i || l.contains ((tn + i : Nat) : Int) := by funext i; simp [inJ]
theorem chJ_all : chJ tn f l l.length = l.any fun x => decide ((tn : Int) ≤ x) && !f (x - tn).toNat := by simp [chJ]
end

theorem un_stD (tn nn : Nat) (L : Nat → Int) (R : Nat → List Int) (may : Nat → Bool) (f : Nat → Bool) (k : Nat) (hR : ∀ x ∈ R k, (0 : Int) < x ∧ x < ((tn + nn : Nat) : Int)) : un nn (stD tn L R may k f) + (chD tn L R may k f).toNat ≤ un nn f := by
  cases hc : chD tn L R may k f with
  | false => rw [stD_same k f hc]; simp
  | true =>
    unfold chD at hc
    rw [Bool.and_eq_true, List.any_eq_true] at hc
    obtain ⟨hg, x, hx, hx2⟩ := hc
    rw [Bool.and_eq_true, decide_eq_true_eq, Bool.not_eq_true'] at hx2
    have hb := hR x hx
    have e : stD tn L R may k f = fun i => f i || (R k).contains ((tn + i : Nat) : Int) := by unfold stD; rw [if_pos hg]
    rw [e]
    refine un_lt (x := (x - tn).toNat) nn (fun i _ hi => by rw [hi]; rfl) (by omega) hx2.2 ?_
    have e2 : ((tn + (x - tn).toNat : Nat) : Int) = x := by omega
    rw [e2]
    simp [hx]
theorem un_rndD (tn nn : Nat) (L : Nat → Int) (R : Nat → List Int) (may : Nat → Bool) (f : Nat → Bool) : ∀ n, (∀ k, k < n → ∀ x ∈ R k, (0 : Int) < x ∧ x < ((tn + nn : Nat) : Int)) → un nn (rnd (stD tn L R may) n f) + (rchg (stD tn L R may) (chD tn L R may) n f).toNat ≤ un nn f
  | 0, _ => by simp [rnd, rchg]
  | n + 1, h => by
    have ih := un_rndD tn nn L R may f n fun k hk => h k (by omega)
    have h2 := un_stD tn nn L R may (rnd (stD tn L R may) n f) n (h n (by omega))
    simp only [rnd, rchg]
    cases hc : chD tn L R may n (rnd (stD tn L R may) n f) with
    | false => rw [Bool.or_false]; rw [hc] at h2; simp at h2; omega
    | true => rw [Bool.or_true]; rw [hc] at h2; simp at h2 ⊢; omega

end Go.Proofs.Ytmkimeojcpadpaa

/-
  reach: rulesOf.
-/
namespace Go.Proofs.Ytmkimeojcpadpaa
open Go.RowKit Go.Maps Go.Shelf

attribute [local go_sem] Oper.semAt_some

/-- A row of cells, whole in block k. -/
def ValAt (w : World) (k len : Nat) (t : TypeId) (c : Nat → Value) : Prop := w.heap[k]? = some (.cells ((List.range len).map c).toArray t (0, 0))
section
variable {w w' : World} {k len : Nat} {t : TypeId} {c : Nat → Value}
theorem ValAt.cell (h : ValAt w k len t c) (i : Nat) (hi : i < len) : w.cell? ⟨k, i, none⟩ = some (c i) := by
  rw [cell_of_row _ _ _ _ _ _ h]; simp [hi]
theorem ValAt.free (h : ValAt w k len t c) (i : Nat) : w.frozen? ⟨k, i, none⟩ = false := frozen_of_row _ _ _ _ _ h
theorem ValAt.lt (h : ValAt w k len t c) : k < w.heap.size := (Array.getElem?_eq_some_iff.1 h).1
theorem ValAt.kept (h : ValAt w k len t c) (hg : w.grownBy w' none) : ValAt w' k len t c := (hg.block k h.lt (by simp)).trans h
theorem ValAt.at {b : Nat} (h : ValAt w k len t c) (hg : w.grownBy w' (some b)) (hne : k ≠ b) : ValAt w' k len t c := (hg.block k h.lt (by simpa using hne)).trans h
/-- The cells with one turned. -/
def put (c : Nat → Value) (x : Nat) (v : Value) : Nat → Value := fun i => if i = x then v else c i
theorem ValAt.set (h : ValAt w k len t c) (x : Nat) (v : Value) : ValAt (w.setCell ⟨k, x, none⟩ v) k len t (put c x v) := by
  unfold ValAt
  rw [heap_setCell_same _ _ _ _ _ _ h]
  congr 2
  apply Array.ext'
  apply List.ext_getElem?
  intro i
  simp only [Array.toList_setIfInBounds, List.getElem?_set, List.getElem?_map]
  by_cases hi : i < len
  · by_cases e : x = i
    · subst e; simp [hi, put]
    · have e2 : ¬ i = x := fun h => e h.symm
      simp [e, e2, hi, put]
  · by_cases e : x = i
    · subst e; simp [hi]
    · simp [e, hi]
theorem ValAt.of_cells {cs : List Value} (h : w.heap[k]? = some (.cells cs.toArray t (0, 0))) : ValAt w k cs.length t (fun i => cs.getD i undef) := by
  unfold ValAt
  rw [h]
  congr 2
  apply Array.ext'
  apply List.ext_getElem?
  intro i
  by_cases hi : i < cs.length
  · simp [hi, List.getD]
  · simp [hi]
theorem made_vals {w w1 : World} {B e s n : Nat} {xs : List Value} (h : w1.ownsRow B e s (.slice (some ⟨w.heap.size, 0, none⟩) n n) n xs) : ∃ c, ValAt w1 w.heap.size (n * s) e c := by
  rcases h.2 with ⟨h', _⟩ | ⟨g, cap, cur, hv, _, hh, _, _, hs, ht⟩
  · cases h'
  · simp only [Value.slice.injEq, Option.some.injEq, Addr.mk.injEq, and_true, true_and] at hv
    obtain ⟨rfl, rfl⟩ := hv
    have h2 := ValAt.of_cells (w := w1) (k := w.heap.size) (t := e) (cs := cur.toList) (by simpa using hh)
    have e3 : cur.toList.length = n * s := by simp; omega
    rw [e3] at h2
    exact ⟨_, h2⟩
end

theorem infoRule4 : (Try.prog.info? 78).map (fun i => (i.zero, i.size, i.bytes)) = some (some (.agg #[.int .i64 0, .slice none 0 0, .int .i64 0, .pointer none]), 4, 48) := by kernel_rfl

/-- While rules are made: the grammar's box, the row. -/
structure RuAt (w wr : World) (cs : Array Value) (kb n : Nat) (c : Nat → Value) : Prop where
  ph : PhAt w wr w.heap.size cs
  row : ValAt wr kb (n * 4) 78 c
  lo : w.heap.size + 1 ≤ kb
/-- What the first k rules are. -/
def RuIs (w wr : World) (N k : Nat) (L : Nat → Int) (R : Nat → List Int) (ra : Nat → Option Addr) (rc : Nat → Nat) (V : Nat → Int) (q : Nat → Nat) (c : Nat → Value) : Prop :=
  ∀ j, j < k → c (j * 4) = .int .i64 (L j) ∧ c (j * 4 + 1) = .slice (ra j) (R j).length (rc j) ∧ c (j * 4 + 2) = .int .i64 (V j) ∧ c (j * 4 + 3) = .pointer (some ⟨q j, 0, none⟩) ∧ B.SetM wr (some ⟨q j, 0, none⟩) N (rowB N (R j)) ∧ w.heap.size + 1 ≤ q j
section
variable {w wr wx : World} {cs : Array Value} {kb n : Nat} {c : Nat → Value}
theorem RuIs.kept {N k : Nat} {L : Nat → Int} {R : Nat → List Int} {ra : Nat → Option Addr} {rc : Nat → Nat} {V : Nat → Int} {q : Nat → Nat} (h : RuIs w wr N k L R ra rc V q c) (hg : wr.grownBy wx none) : RuIs w wx N k L R ra rc V q c := fun j hj => by
  obtain ⟨h0, h1, h2, h3, h4, h5⟩ := h j hj
  exact ⟨h0, h1, h2, h3, SetM_kept h4 hg, h5⟩
theorem RuAt.kept (h : RuAt w wr cs kb n c) (hg : wr.grownBy wx none) : RuAt w wx cs kb n c := ⟨h.ph.kept hg, h.row.kept hg, h.lo⟩
theorem RuAt.store (h : RuAt w wr cs kb n c) (x : Nat) (v : Value) : RuAt w (wr.setCell ⟨kb, x, none⟩ v) cs kb n (put c x v) :=
  ⟨h.ph.keptRow (grown_setCell _ _ _) h.lo, h.row.set x v, h.lo⟩

theorem RuAt.push {N k b : Nat} {L : Nat → Int} {R : Nat → List Int} {ra : Nat → Option Addr} {rc : Nat → Nat} {V : Nat → Int} {q : Nat → Nat} (h : RuAt w wr cs kb n c) (hI : RuIs w wr N k L R ra rc V q c) (hkb : kb = w.heap.size + 1) (hS : B.SetM wr (some ⟨b, 0, none⟩) N (rowB N (R k))) (hb : kb < b) :
    ∃ c', RuAt w ((((wr.setCell ⟨kb, k * 4, none⟩ (.int .i64 (L k))).setCell ⟨kb, k * 4 + 1, none⟩ (.slice (ra k) (R k).length (rc k))).setCell ⟨kb, k * 4 + 2, none⟩ (.int .i64 (V k))).setCell ⟨kb, k * 4 + 3, none⟩ (.pointer (some ⟨b, 0, none⟩))) cs kb n c' ∧
      RuIs w ((((wr.setCell ⟨kb, k * 4, none⟩ (.int .i64 (L k))).setCell ⟨kb, k * 4 + 1, none⟩ (.slice (ra k) (R k).length (rc k))).setCell ⟨kb, k * 4 + 2, none⟩ (.int .i64 (V k))).setCell ⟨kb, k * 4 + 3, none⟩ (.pointer (some ⟨b, 0, none⟩))) N (k + 1) L R ra rc V (fun j => if j = k then b else q j) c' := by
  refine ⟨put (put (put (put c (k * 4) (.int .i64 (L k))) (k * 4 + 1) (.slice (ra k) (R k).length (rc k))) (k * 4 + 2) (.int .i64 (V k))) (k * 4 + 3) (.pointer (some ⟨b, 0, none⟩)), ?_, ?_⟩
  · exact (((h.store (k * 4) _).store (k * 4 + 1) _).store (k * 4 + 2) _).store (k * 4 + 3) _
  · intro j hj
    by_cases e : j = k
    · subst e
      simp only [if_true]
      refine ⟨?_, ?_, ?_, ?_, ?_, by omega⟩
      · simp [put]
      · simp [put]
      · simp [put]
      · simp [put]
      · exact SetM_at (SetM_at (SetM_at (SetM_at hS (grown_setCell _ _ _) (by omega)) (grown_setCell _ _ _) (by omega)) (grown_setCell _ _ _) (by omega)) (grown_setCell _ _ _) (by omega)
    · obtain ⟨h0, h1, h2, h3, h4, h5⟩ := hI j (by omega)
      have hjk : j < k := by omega
      have hq : q j ≠ kb := by
        intro e9
        have := SetM_row h4
        have h10 := h.row
        unfold ValAt at h10
        unfold B.RowAt at this
        rw [e9, h10] at this
        simp at this
      simp only [if_neg e]
      refine ⟨?_, ?_, ?_, ?_, ?_, h5⟩
      · unfold put; rw [if_neg (by omega), if_neg (by omega), if_neg (by omega), if_neg (by omega)]; exact h0
      · unfold put; rw [if_neg (by omega), if_neg (by omega), if_neg (by omega), if_neg (by omega)]; exact h1
      · unfold put; rw [if_neg (by omega), if_neg (by omega), if_neg (by omega), if_neg (by omega)]; exact h2
      · unfold put; rw [if_neg (by omega), if_neg (by omega), if_neg (by omega), if_neg (by omega)]; exact h3
      · exact SetM_at (SetM_at (SetM_at (SetM_at h4 (grown_setCell _ _ _) hq) (grown_setCell _ _ _) hq) (grown_setCell _ _ _) hq) (grown_setCell _ _ _) hq
end

set_option maxRecDepth 100000 in
set_option maxHeartbeats 1000000 in
theorem rulesOf_any (ta na la pa : Option Addr) (tn nn ln n tc nc lc pc : Nat) (st : Int) (L : Nat → Int) (R : Nat → List Int) (ra : Nat → Option Addr) (rc : Nat → Nat) (V : Nat → Int) (w : World) (hP : ProdsAt w pa n L R ra rc V) (hn : n ≤ 97) (hz : tn + nn ≤ 1024) :
    Calls Try.prog 40 #[.agg #[.slice ta tn tc, .slice na nn nc, .slice la ln lc, .int .i64 st, .slice pa n pc]] w fun e w' => ∃ k q c, e = .returned (.slice (some ⟨k, 0, none⟩) n n) ∧ w.heap.size ≤ k ∧ ValAt w' k (n * 4) 78 c ∧ RuIs w w' (tn + nn) n L R ra rc V q c ∧ w.grownBy w' none := by
  have HP : Hid (ProdsAt w pa n L R ra rc V) := hP
  have HX0 : Hid (PhAt w (w.alloc (.cells #[.slice ta tn tc, .slice na nn nc, .slice la ln lc, .int .i64 st, .slice pa n pc] 27)) w.heap.size #[.slice ta tn tc, .slice na nn nc, .slice la ln lc, .int .i64 st, .slice pa n pc]) := ⟨World.grownBy_alloc _ _ none, heap_alloc_last w _⟩
  clear hP
  obtain ⟨i0, hi, hz0, hz1, hz2⟩ := info_parts infoRule4
  go_enter Try.func40, Try.ntmps40
  go_wp2_with (at_make; refine wpList_make_full _ rfl _ _ 48 rfl (w.heap.size + 1) 78 i0 (.agg #[.int .i64 0, .slice none 0 0, .int .i64 0, .pointer none]) 4 Try.underlying48 hi hz0 hz1 .i64 .i64 _ _ n rfl rfl (by simp) (by simp) (by rw [hz2]; omega) (by unfold maxLen; omega) (by simp) ?_)
  intro w1 hown hgrow
  have HR1 : Hid (∃ c, RuAt w w1 #[.slice ta tn tc, .slice na nn nc, .slice la ln lc, .int .i64 st, .slice pa n pc] (w.heap.size + 1) n c) := by
    obtain ⟨c, hc⟩ := made_vals (w := w.alloc (.cells #[.slice ta tn tc, .slice na nn nc, .slice la ln lc, .int .i64 st, .slice pa n pc] 27)) (w1 := w1) (B := w.heap.size + 1) (e := 78) (s := 4) (n := n) (by rw [World.size_alloc]; exact hown)
    exact ⟨c, HX0.out.kept hgrow, by simpa using hc, Nat.le_refl _⟩
  obtain ⟨c0, hc0⟩ := HR1.out
  have HRU : Hid (RuAt w w1 #[.slice ta tn tc, .slice na nn nc, .slice la ln lc, .int .i64 st, .slice pa n pc] (w.heap.size + 1) n c0) := hc0
  obtain ⟨k0, k1, k2, k3, k4⟩ := HRU.out.ph.cells
  clear hown hgrow HX0 HR1 hc0 hi hz0 hz1 hz2
  go_wp2_with fail
  go_loopg [4, 5, 13] n (fun gk a b i wr => ∃ (k : Nat) (q : Nat → Nat) (c : Nat → Value), k ≤ n ∧ gk = n - k ∧ i = .int .i64 k ∧ RuAt w wr #[.slice ta tn tc, .slice na nn nc, .slice la ln lc, .int .i64 st, .slice pa n pc] (w.heap.size + 1) n c ∧ RuIs w wr (tn + nn) k L R ra rc V q c)
  case atStart => exact ⟨0, fun _ => 0, c0, Nat.zero_le _, rfl, rfl, HRU.out, fun j hj => absurd hj (Nat.not_lt_zero j)⟩
  case round =>
    obtain ⟨k, q, c, hk, hgk, rfl, hA, hI⟩ := hrel
    have HGK : Hid (gk = n - k) := hgk
    have HA : Hid (RuAt w wr #[.slice ta tn tc, .slice na nn nc, .slice la ln lc, .int .i64 st, .slice pa n pc] (w.heap.size + 1) n c) := hA
    have HI : Hid (RuIs w wr (tn + nn) k L R ra rc V q c) := hI
    clear hgk hA hI HRU
    by_cases hlt : k < n
    · obtain ⟨bp, off, rfl, hcs⟩ : ∃ b off, pa = some ⟨b, off, none⟩ ∧ ∀ k, k < n → w.cell? ⟨b, off + k * 3, none⟩ = some (.int .i64 (L k)) ∧ w.cell? ⟨b, off + k * 3 + 1, none⟩ = some (.slice (ra k) (R k).length (rc k)) ∧ w.cell? ⟨b, off + k * 3 + 2, none⟩ = some (.int .i64 (V k)) ∧ IntsAt w (ra k) (R k) ∧ (ra k = none → rc k = 0) ∧ (R k).length ≤ 17592186044416 := by
        rcases HP.out with h | h
        · omega
        · exact h
      obtain ⟨h1, h2, h3, hI, _, hlen⟩ := hcs k hlt
      have c0 := HA.out.ph.grown.cell h1 (by simp)
      have c1 := HA.out.ph.grown.cell h2 (by simp)
      have c2 := HA.out.ph.grown.cell h3 (by simp)
      have hk0 : (0 : Int) ≤ (k : Int) := by omega
      have hk1 : (k : Int) < (n : Int) := by omega
      obtain ⟨l, hl⟩ : ∃ l, l = L k := ⟨_, rfl⟩
      obtain ⟨v, hv⟩ : ∃ v, v = V k := ⟨_, rfl⟩
      obtain ⟨a1, ha1⟩ : ∃ a1, a1 = ra k := ⟨_, rfl⟩
      obtain ⟨a2, ha2⟩ : ∃ a2, a2 = (R k).length := ⟨_, rfl⟩
      obtain ⟨a3, ha3⟩ : ∃ a3, a3 = rc k := ⟨_, rfl⟩
      rw [← hl] at c0
      rw [← ha1, ← ha2, ← ha3] at c1
      rw [← hv] at c2
      have HMO : Hid (∀ X, w.grownBy X none → Calls Try.prog 41 #[.agg #[.slice ta tn tc, .slice na nn nc, .slice la ln lc, .int .i64 st, .slice (some ⟨bp, off, none⟩) n pc], .slice a1 a2 a3] X fun e w' =>
          ∃ b, e = .returned (.agg #[.pointer (some ⟨b, 0, none⟩)]) ∧ X.heap.size ≤ b ∧ B.SetM w' (some ⟨b, 0, none⟩) (tn + nn) (rowB (tn + nn) (R k)) ∧ X.grownBy w' none) := fun X hX => by
        rw [ha1, ha2, ha3]
        exact marksOf_any ta na la (some ⟨bp, off, none⟩) (ra k) tn nn ln n tc nc lc pc (rc k) st (R k) X (hI.kept hX) hlen hz
      have HEQ : Hid (l = L k ∧ v = V k ∧ a1 = ra k ∧ a2 = (R k).length ∧ a3 = rc k) := ⟨hl, hv, ha1, ha2, ha3⟩
      have HGY : Hid (w.grownBy (wr.alloc (.cells #[.int .i64 l, .slice a1 a2 a3, .int .i64 v] 45)).drew none) := grown_trans (grown_trans HA.out.ph.grown (World.grownBy_alloc _ _ none)) (grown_drewN _ 1)
      have HAY : Hid (RuAt w (wr.alloc (.cells #[.int .i64 l, .slice a1 a2 a3, .int .i64 v] 45)).drew #[.slice ta tn tc, .slice na nn nc, .slice la ln lc, .int .i64 st, .slice (some ⟨bp, off, none⟩) n pc] (w.heap.size + 1) n c) := HA.out.kept (grown_trans (World.grownBy_alloc _ _ none) (grown_drewN _ 1))
      have HIY : Hid (RuIs w (wr.alloc (.cells #[.int .i64 l, .slice a1 a2 a3, .int .i64 v] 45)).drew (tn + nn) k L R ra rc V q c) := HI.out.kept (grown_trans (World.grownBy_alloc _ _ none) (grown_drewN _ 1))
      have HBY : Hid ((wr.alloc (.cells #[.int .i64 l, .slice a1 a2 a3, .int .i64 v] 45)).drew.heap[wr.heap.size]? = some (.cells #[.int .i64 l, .slice a1 a2 a3, .int .i64 v] 45 (0, 0))) := heap_alloc_last wr _
      obtain ⟨g0, g1, g2, g3, g4⟩ := HAY.out.ph.cells
      have p0 : (wr.alloc (.cells #[.int .i64 l, .slice a1 a2 a3, .int .i64 v] 45)).drew.cell? ⟨wr.heap.size, 0, none⟩ = some (.int .i64 l) := by rw [cell_of_row _ _ _ _ _ _ HBY.out]; rfl
      have p1 : (wr.alloc (.cells #[.int .i64 l, .slice a1 a2 a3, .int .i64 v] 45)).drew.cell? ⟨wr.heap.size, 1, none⟩ = some (.slice a1 a2 a3) := by rw [cell_of_row _ _ _ _ _ _ HBY.out]; rfl
      have p2 : (wr.alloc (.cells #[.int .i64 l, .slice a1 a2 a3, .int .i64 v] 45)).drew.cell? ⟨wr.heap.size, 2, none⟩ = some (.int .i64 v) := by rw [cell_of_row _ _ _ _ _ _ HBY.out]; rfl
      have HKS : Hid (∀ x, (wr.alloc (.cells #[.int .i64 l, .slice a1 a2 a3, .int .i64 v] 45)).drew.grownBy x none → (x.cell? ⟨wr.heap.size, 0, none⟩ = some (.int .i64 l) ∧ x.cell? ⟨wr.heap.size, 1, none⟩ = some (.slice a1 a2 a3) ∧ x.cell? ⟨wr.heap.size, 2, none⟩ = some (.int .i64 v)) ∧ x.cell? ⟨w.heap.size, 0, none⟩ = some (.slice ta tn tc) ∧ x.cell? ⟨w.heap.size, 1, none⟩ = some (.slice na nn nc) ∧ x.cell? ⟨w.heap.size, 2, none⟩ = some (.slice la ln lc) ∧ x.cell? ⟨w.heap.size, 3, none⟩ = some (.int .i64 st) ∧ x.cell? ⟨w.heap.size, 4, none⟩ = some (.slice (some ⟨bp, off, none⟩) n pc)) := fun x hx => ⟨⟨hx.cell p0 (by simp), hx.cell p1 (by simp), hx.cell p2 (by simp)⟩, hx.cell g0 (by simp), hx.cell g1 (by simp), hx.cell g2 (by simp), hx.cell g3 (by simp), hx.cell g4 (by simp)⟩
      have HGc : Hid ((wr.alloc (.cells #[.int .i64 l, .slice a1 a2 a3, .int .i64 v] 45)).drew.grownBy (wr.alloc (.cells #[.int .i64 l, .slice a1 a2 a3, .int .i64 v] 45)).drew none) := grown_refl _ _
      have hk4 : k * 4 + 3 < n * 4 := by omega
      have hne1 : w.heap.size + 1 < wr.heap.size := HA.out.row.lt
      have hne2 : wr.heap.size ≠ w.heap.size + 1 := by omega
      have hne3 : w.heap.size + 1 ≠ wr.heap.size := by omega
      clear hcs h1 h2 h3 hI hlen hl hv ha1 ha2 ha3 HA HI g0 g1 g2 g3 g4 p0 p1 p2
      go_wp2_with fail
      go_region_held3 (fun x => (x.cell? ⟨wr.heap.size, 0, none⟩ = some (.int .i64 l) ∧ x.cell? ⟨wr.heap.size, 1, none⟩ = some (.slice a1 a2 a3) ∧ x.cell? ⟨wr.heap.size, 2, none⟩ = some (.int .i64 v)) ∧ x.cell? ⟨w.heap.size, 0, none⟩ = some (.slice ta tn tc) ∧ x.cell? ⟨w.heap.size, 1, none⟩ = some (.slice na nn nc) ∧ x.cell? ⟨w.heap.size, 2, none⟩ = some (.slice la ln lc) ∧ x.cell? ⟨w.heap.size, 3, none⟩ = some (.int .i64 st) ∧ x.cell? ⟨w.heap.size, 4, none⟩ = some (.slice (some ⟨bp, off, none⟩) n pc)) (first | exact HKS.out _ HGc.out | go_keep)
        ((first
          | (go_at_call 41; refine calls_at (wr.alloc (.cells #[.int .i64 l, .slice a1 a2 a3, .int .i64 v] 45)).drew (by with_reducible rfl) ?_; refine Calls.mono (HMO.out _ HGY.out) ?_; rintro e w5 ⟨b5, rfl, hb5, hS5, hg5⟩; have HGc : Hid ((wr.alloc (.cells #[.int .i64 l, .slice a1 a2 a3, .int .i64 v] 45)).drew.grownBy w5 none) := hg5; have HS5 : Hid (B.SetM w5 (some ⟨b5, 0, none⟩) (tn + nn) (rowB (tn + nn) (R k))) := hS5; have HB5 : Hid ((wr.alloc (.cells #[.int .i64 l, .slice a1 a2 a3, .int .i64 v] 45)).drew.heap.size ≤ b5) := hb5; have r0 := (HAY.out.kept hg5).row.cell (k * 4) (by omega); have r1 := (HAY.out.kept hg5).row.cell (k * 4 + 1) (by omega); have r2 := (HAY.out.kept hg5).row.cell (k * 4 + 2) (by omega); have r3 := (HAY.out.kept hg5).row.cell (k * 4 + 3) (by omega); have f0 := (HAY.out.kept hg5).row.free (k * 4); have f1 := (HAY.out.kept hg5).row.free (k * 4 + 1); have f2 := (HAY.out.kept hg5).row.free (k * 4 + 2); have f3 := (HAY.out.kept hg5).row.free (k * 4 + 3); clear hg5 hS5 hb5)))
      go_wp2_with fail
      go_roundg (n - (k + 1))
      case measure => have := HGK.out; omega
      case rel =>
        obtain ⟨e1, e2, e3, e4, e5⟩ := HEQ.out
        subst e1 e2 e3 e4 e5
        obtain ⟨c', hA', hI'⟩ := RuAt.push (HAY.out.kept HGc.out) (HIY.out.kept HGc.out) rfl HS5.out (by have := HB5.out; have h9 := (HAY.out.row.lt); omega)
        exact ⟨k + 1, _, c', by omega, rfl, by go_num, hA', hI'⟩
    · have hkn : k = n := by omega
      subst hkn
      go_wp2_with fail
      go_ret
      exact ⟨w.heap.size + 1, q, c, rfl, by omega, HA.out.row, HI.out, HA.out.ph.grown⟩

end Go.Proofs.Ytmkimeojcpadpaa
