import Derived.Test.YtgmljpkenipgjaaQbcofglccpmfn
import Derived.Sort.LotA

/-
  pack: the library's stable sort, pure: what turning two neighbouring stretches about leaves, and what a merge in place comes to.
-/
namespace Go.Proofs.Ytgmljpkenipgjaa.Pk
open Go.Sort

theorem gE {d : Array Nat} {i j : Nat} (h : i = j) : d[i]! = d[j]! := by rw [h]

/-- Of those of which neither is less, the lesser number stands first. -/
def Stb (lt : Nat → Nat → Bool) (d : Array Nat) : Prop := ∀ i j, i < j → j < d.size → lt d[i]! d[j]! = false → lt d[j]! d[i]! = false → d[i]! < d[j]!

/-- What lies from s to m now lies behind what lay from m to e. -/
structure RotTo (s m e : Nat) (d d' : Array Nat) : Prop where
  size : d'.size = d.size
  out : ∀ k, k < s ∨ e ≤ k → d'[k]! = d[k]!
  fst : ∀ k, s ≤ k → k < s + (e - m) → d'[k]! = d[k + m - s]!
  snd : ∀ k, s + (e - m) ≤ k → k < e → d'[k]! = d[k + m - e]!

theorem RotTo.at {s m e : Nat} {d d' : Array Nat} (h : RotTo s m e d d') (k : Nat) : ∃ q, d'[k]! = d[q]! ∧ (((k < s ∨ e ≤ k) ∧ q = k) ∨ ((s ≤ k ∧ k < s + (e - m)) ∧ q = k + m - s) ∨ ((s + (e - m) ≤ k ∧ k < e) ∧ q = k + m - e)) := by
  by_cases h1 : k < s ∨ e ≤ k
  · exact ⟨k, h.out k h1, .inl ⟨h1, rfl⟩⟩
  · by_cases h2 : k < s + (e - m)
    · exact ⟨_, h.fst k (by omega) h2, .inr (.inl ⟨⟨by omega, h2⟩, rfl⟩)⟩
    · exact ⟨_, h.snd k (by omega) (by omega), .inr (.inr ⟨⟨by omega, by omega⟩, rfl⟩)⟩
theorem RotTo.none (s m : Nat) (d : Array Nat) : RotTo s m m d d := ⟨rfl, fun _ _ => rfl, fun k h1 h2 => by omega, fun k h1 h2 => gE (by omega)⟩
theorem RotTo.none' (s e : Nat) (d : Array Nat) : RotTo s s e d d := ⟨rfl, fun _ _ => rfl, fun k h1 h2 => gE (by omega), fun k h1 h2 => gE (by omega)⟩

theorem Stb.rot {lt : Nat → Nat → Bool} {s m e : Nat} {d d' : Array Nat} (h : Stb lt d) (hr : RotTo s m e d d') (hsm : s ≤ m) (hme : m ≤ e) (he : e ≤ d.size) (hx : ∀ x y, s ≤ x → x < m → m ≤ y → y < e → lt d[y]! d[x]! = true) : Stb lt d' := by
  intro i j hij hj h1 h2
  rw [hr.size] at hj
  obtain ⟨p, e1, c1⟩ := hr.at i
  obtain ⟨q, e2, c2⟩ := hr.at j
  rw [e1, e2] at h1 h2 ⊢
  by_cases hpq : p < q
  · exact h p q hpq (by omega) h1 h2
  · have := hx q p (by omega) (by omega) (by omega) (by omega)
    rw [this] at h1
    cases h1

theorem RotTo.swp {d : Array Nat} {j : Nat} (hj : j + 1 < d.size) : RotTo j (j + 1) (j + 2) d (swp d (j + 1) j) := by
  have g := swp_get d hj (show j < d.size by omega)
  refine ⟨swp_size _ _ _, fun k hk => ?_, fun k h1 h2 => ?_, fun k h1 h2 => ?_⟩
  · rw [g, if_neg (by omega), if_neg (by omega)]
  · rw [g, if_pos (by omega)]; exact gE (by omega)
  · rw [g, if_neg (by omega), if_pos (by omega)]; exact gE (by omega)
/-- The first of a stretch is on its way behind the others. -/
theorem RotTo.up {a k : Nat} {d x : Array Nat} (h : RotTo a (a + 1) (k + 1) d x) (hak : a ≤ k) (hk : k + 1 < d.size) : RotTo a (a + 1) (k + 2) d (Go.Sort.swp x k (k + 1)) := by
  have hs : k + 1 < x.size := by rw [h.size]; exact hk
  have g := swp_get x (show k < x.size by omega) hs
  refine ⟨by rw [swp_size, h.size], fun q hq => ?_, fun q h1 h2 => ?_, fun q h1 h2 => ?_⟩
  · rw [g, if_neg (by omega), if_neg (by omega)]; exact h.out q (by omega)
  · rw [g, if_neg (by omega)]
    by_cases e : q = k
    · rw [if_pos e, h.out (k + 1) (by omega)]; exact gE (by omega)
    · rw [if_neg e, h.fst q h1 (by omega)]
  · rw [g, if_pos (by omega)]
    by_cases e : a = k
    · rw [h.snd k (by omega) (by omega)]; exact gE (by omega)
    · rw [h.snd k (by omega) (by omega)]; exact gE (by omega)
/-- The last of a stretch is on its way ahead of the others. -/
theorem RotTo.down {m k : Nat} {d x : Array Nat} (h : RotTo (k + 1) m (m + 1) d x) (hkm : k + 1 ≤ m) (hm : m < d.size) : RotTo k m (m + 1) d (Go.Sort.swp x (k + 1) k) := by
  have hs : k + 1 < x.size := by rw [h.size]; omega
  have g := swp_get x hs (show k < x.size by omega)
  refine ⟨by rw [swp_size, h.size], fun q hq => ?_, fun q h1 h2 => ?_, fun q h1 h2 => ?_⟩
  · rw [g, if_neg (by omega), if_neg (by omega)]; exact h.out q (by omega)
  · rw [g, if_pos (by omega), h.fst (k + 1) (by omega) (by omega)]; exact gE (by omega)
  · rw [g, if_neg (by omega)]
    by_cases e : q = k + 1
    · rw [if_pos e, h.out k (by omega)]; exact gE (by omega)
    · rw [if_neg e, h.snd q (by omega) (by omega)]

/-- Two stretches of n are changed about. -/
structure SwTo (x y n : Nat) (d d' : Array Nat) : Prop where
  size : d'.size = d.size
  fst : ∀ k, x ≤ k → k < x + n → d'[k]! = d[k + y - x]!
  snd : ∀ k, y ≤ k → k < y + n → d'[k]! = d[k + x - y]!
  out : ∀ k, (k < x ∨ x + n ≤ k) → (k < y ∨ y + n ≤ k) → d'[k]! = d[k]!
theorem SwTo.zero (x y : Nat) (d : Array Nat) : SwTo x y 0 d d := ⟨rfl, fun k h1 h2 => by omega, fun k h1 h2 => by omega, fun _ _ _ => rfl⟩
theorem SwTo.step {x y n : Nat} {d d' : Array Nat} (h : SwTo x y n d d') (hxy : x + n < y) (hy : y + n < d.size) : SwTo x y (n + 1) d (Go.Sort.swp d' (x + n) (y + n)) := by
  have hs : y + n < d'.size := by rw [h.size]; exact hy
  have g := swp_get d' (show x + n < d'.size by omega) hs
  refine ⟨by rw [swp_size, h.size], fun k h1 h2 => ?_, fun k h1 h2 => ?_, fun k h1 h2 => ?_⟩
  · rw [g, if_neg (by omega)]
    by_cases e : k = x + n
    · rw [if_pos e, h.out (y + n) (by omega) (by omega)]; exact gE (by omega)
    · rw [if_neg e, h.fst k h1 (by omega)]
  · rw [g]
    by_cases e : k = y + n
    · rw [if_pos e, h.out (x + n) (by omega) (by omega)]; exact gE (by omega)
    · rw [if_neg e, if_neg (by omega), h.snd k h1 (by omega)]
  · rw [g, if_neg (by omega), if_neg (by omega)]; exact h.out k (by omega) (by omega)

/-- A step of the turning about: the first stretch is the longer one. -/
theorem RotTo.cutI {m i j : Nat} {d d1 d2 : Array Nat} (hij : j < i) (him : i ≤ m) (h1 : SwTo (m - i) m j d d1) (h2 : RotTo (m - (i - j)) m (m + j) d1 d2) : RotTo (m - i) m (m + j) d d2 := by
  refine ⟨by rw [h2.size, h1.size], fun k hk => ?_, fun k ha hb => ?_, fun k ha hb => ?_⟩
  · rw [h2.out k (by omega), h1.out k (by omega) (by omega)]
  · rw [h2.out k (by omega), h1.fst k (by omega) (by omega)]
  · by_cases e : k < m - (i - j) + j
    · rw [h2.fst k (by omega) (by omega), h1.snd _ (by omega) (by omega)]; exact gE (by omega)
    · rw [h2.snd k (by omega) (by omega), h1.out _ (by omega) (by omega)]
/-- The second stretch is the longer one. -/
theorem RotTo.cutJ {m i j : Nat} {d d1 d2 : Array Nat} (hij : i < j) (him : i ≤ m) (h1 : SwTo (m - i) (m + j - i) i d d1) (h2 : RotTo (m - i) m (m + (j - i)) d1 d2) : RotTo (m - i) m (m + j) d d2 := by
  refine ⟨by rw [h2.size, h1.size], fun k hk => ?_, fun k ha hb => ?_, fun k ha hb => ?_⟩
  · rw [h2.out k (by omega), h1.out k (by omega) (by omega)]
  · by_cases e : k < m - i + (j - i)
    · rw [h2.fst k (by omega) (by omega), h1.out _ (by omega) (by omega)]
    · rw [h2.snd k (by omega) (by omega), h1.fst _ (by omega) (by omega)]; exact gE (by omega)
  · rw [h2.out k (by omega), h1.snd k (by omega) (by omega)]; exact gE (by omega)
theorem RotTo.even {m i : Nat} {d d1 : Array Nat} (him : i ≤ m) (h1 : SwTo (m - i) m i d d1) : RotTo (m - i) m (m + i) d d1 :=
  ⟨h1.size, fun k hk => h1.out k (by omega) (by omega), fun k ha hb => by rw [h1.fst k (by omega) (by omega)], fun k ha hb => by rw [h1.snd k (by omega) (by omega)]; exact gE (by omega)⟩

/-- What a merge comes to: sorted, and those that are alike as they stood. -/
structure Merged (lt : Nat → Nat → Bool) (a b : Nat) (d d' : Array Nat) : Prop where
  perm : PermIn a b d d'
  sorted : SortedIn lt a b d'
  stb : Stb lt d'

theorem ins_stb {lt : Nat → Nat → Bool} (a : Nat) : ∀ (j : Nat) (d : Array Nat), j < d.size → Stb lt d → Stb lt (insInner lt a j d)
  | 0, d, _, h => by unfold insInner; exact h
  | j + 1, d, hj, h => by
    unfold insInner
    split
    · rename_i hc
      simp only [Bool.and_eq_true, decide_eq_true_eq] at hc
      refine ins_stb a j _ (by rw [swp_size]; omega) (h.rot (RotTo.swp hj) (by omega) (by omega) (by omega) fun x y h1 h2 h3 h4 => ?_)
      rw [show x = j by omega, show y = j + 1 by omega]
      exact hc.2
    · exact h
theorem insI_size {lt : Nat → Nat → Bool} (a : Nat) : ∀ (j : Nat) (d : Array Nat), (insInner lt a j d).size = d.size
  | 0, d => by unfold insInner; rfl
  | j + 1, d => by
    unfold insInner
    split
    · rw [insI_size a j, swp_size]
    · rfl
theorem insO_stb {lt : Nat → Nat → Bool} (a b : Nat) : ∀ (n i : Nat) (d : Array Nat), b - i = n → b ≤ d.size → Stb lt d → Stb lt (insOuter lt a b i d)
  | 0, i, d, hn, _, h => by rw [insOuter, if_neg (by omega)]; exact h
  | n + 1, i, d, hn, hb, h => by
    rw [insOuter, if_pos (by omega)]
    exact insO_stb a b n (i + 1) _ (by omega) (by rw [insI_size]; exact hb) (ins_stb a i d (by omega) h)
theorem ins_merged {lt : Nat → Nat → Bool} (hS : SWO lt) (d : Array Nat) (a b : Nat) (hab : a ≤ b) (hb : b ≤ d.size) (h : Stb lt d) : Merged lt a b d (insertionSort lt d a b) := by
  obtain ⟨h1, h2⟩ := insertionSort_holds (lt := lt) hS d a b hab hb
  exact ⟨h1, h2, insO_stb a b _ _ _ rfl hb h⟩

/-- The first stretch has one alone. -/
theorem merged_one {lt : Nat → Nat → Bool} (hS : SWO lt) {a i b : Nat} {d d' : Array Nat} (hai : a + 1 ≤ i) (hib : i ≤ b) (hb : b ≤ d.size) (hs : SortedIn lt (a + 1) b d) (hst : Stb lt d) (h1 : ∀ x, a + 1 ≤ x → x < i → lt d[x]! d[a]! = true) (h2 : ∀ x, i ≤ x → x < b → lt d[x]! d[a]! = false) (hr : RotTo a (a + 1) i d d') (hp : PermIn a b d d') : Merged lt a b d d' := by
  refine ⟨hp, fun x y hx hxy hy => ?_, hst.rot hr (by omega) hai (by omega) fun x y c1 c2 c3 c4 => by rw [show x = a by omega]; exact h1 y c3 c4⟩
  obtain ⟨p, e1, c1⟩ := hr.at x
  obtain ⟨q, e2, c2⟩ := hr.at y
  rw [e1, e2]
  by_cases hqa : q = a
  · rw [hqa]; exact hS.asymmA (h1 p (by omega) (by omega))
  · by_cases hpa : p = a
    · rw [hpa]; exact h2 q (by omega) (by omega)
    · exact hs p q (by omega) (by omega) (by omega)
/-- The second stretch has one alone. -/
theorem merged_last {lt : Nat → Nat → Bool} (hS : SWO lt) {a i m : Nat} {d d' : Array Nat} (hai : a ≤ i) (him : i ≤ m) (hb : m + 1 ≤ d.size) (hs : SortedIn lt a m d) (hst : Stb lt d) (h1 : ∀ x, a ≤ x → x < i → lt d[m]! d[x]! = false) (h2 : ∀ x, i ≤ x → x < m → lt d[m]! d[x]! = true) (hr : RotTo i m (m + 1) d d') (hp : PermIn a (m + 1) d d') : Merged lt a (m + 1) d d' := by
  refine ⟨hp, fun x y hx hxy hy => ?_, hst.rot hr him (by omega) hb fun x y c1 c2 c3 c4 => by rw [show y = m by omega]; exact h2 x c1 c2⟩
  obtain ⟨p, e1, c1⟩ := hr.at x
  obtain ⟨q, e2, c2⟩ := hr.at y
  rw [e1, e2]
  by_cases hqm : q = m
  · rw [hqm]; exact h1 p (by omega) (by omega)
  · by_cases hpm : p = m
    · rw [hpm]; exact hS.asymmA (h2 q (by omega) (by omega))
    · exact hs p q (by omega) (by omega) (by omega)

/-- Where two stretches are cut, so that what lies ahead of the middle comes to the left: from start on what mirrors is less. -/
structure CutAt (lt : Nat → Nat → Bool) (a m b mid s : Nat) (d : Array Nat) : Prop where
  lo : a ≤ s
  hi : s ≤ mid
  sm : s ≤ m
  me : m ≤ mid + m - s
  eb : mid + m - s ≤ b
  kept : ∀ x y, a ≤ x → x < s → mid + m - s ≤ y → y < b → lt d[y]! d[x]! = false
  turn : ∀ x y, s ≤ x → x < m → m ≤ y → y < mid + m - s → lt d[y]! d[x]! = true

theorem CutAt.halves {lt : Nat → Nat → Bool} {a m b mid s : Nat} {d d1 : Array Nat} (hS : SWO lt) (h : CutAt lt a m b mid s d) (h1 : SortedIn lt a m d) (h2 : SortedIn lt m b d) (hr : RotTo s m (mid + m - s) d d1) (hmb : mid ≤ b) :
    (∀ x y, a ≤ x → x < mid → mid ≤ y → y < b → lt d1[y]! d1[x]! = false) ∧ SortedIn lt a s d1 ∧ SortedIn lt s mid d1 ∧ SortedIn lt mid (mid + m - s) d1 ∧ SortedIn lt (mid + m - s) b d1 := by
  obtain ⟨c1, c2, c3, c4, c5, c6, c7⟩ := h
  refine ⟨fun x y hx hxm hy hyb => ?_, fun x y hx hxy hy => ?_, fun x y hx hxy hy => ?_, fun x y hx hxy hy => ?_, fun x y hx hxy hy => ?_⟩
  all_goals
    obtain ⟨p, e1, g1⟩ := hr.at x
    obtain ⟨q, e2, g2⟩ := hr.at y
    rw [e1, e2]
  · by_cases hp : p < s
    · by_cases hq : q < m
      · exact h1 p q (by omega) (by omega) hq
      · exact c6 p q (by omega) hp (by omega) (by omega)
    · by_cases hq : q < m
      · exact hS.asymmA (c7 q p (by omega) hq (by omega) (by omega))
      · exact h2 p q (by omega) (by omega) (by omega)
  · exact h1 p q (by omega) (by omega) (by omega)
  · exact h2 p q (by omega) (by omega) (by omega)
  · exact h1 p q (by omega) (by omega) (by omega)
  · exact h2 p q (by omega) (by omega) (by omega)

theorem perm_all {a b : Nat} {d d' : Array Nat} (p : Nat → Prop) (hb : b ≤ d.size) (h : PermIn a b d d') (hp : ∀ i, a ≤ i → i < b → p d[i]!) : ∀ i, a ≤ i → i < b → p d'[i]! := permIn_all d d' a b p hb h hp
/-- Both halves are merged. -/
theorem merged_halves {lt : Nat → Nat → Bool} {a b mid : Nat} {d d1 d2 d3 : Array Nat} (ham : a ≤ mid) (hmb : mid ≤ b) (hb : b ≤ d.size) (hp : PermIn a b d d1) (hx : ∀ x y, a ≤ x → x < mid → mid ≤ y → y < b → lt d1[y]! d1[x]! = false) (h2 : Merged lt a mid d1 d2) (h3 : Merged lt mid b d2 d3) : Merged lt a b d d3 := by
  have s1 : d1.size = d.size := hp.1
  have s2 : d2.size = d1.size := h2.perm.1
  have p2 : PermIn a b d1 d2 := permIn_mono d1 d2 a mid a b (Nat.le_refl _) hmb (by omega) h2.perm
  have p3 : PermIn a b d2 d3 := permIn_mono d2 d3 mid b a b ham (Nat.le_refl _) (by omega) h3.perm
  refine ⟨permIn_trans _ _ _ a b (permIn_trans _ _ _ a b hp p2) p3, fun x y hx1 hxy hyb => ?_, h3.stb⟩
  by_cases hym : y < mid
  · rw [h3.perm.2.1 x (by omega), h3.perm.2.1 y (by omega)]
    exact h2.sorted x y hx1 hxy hym
  · by_cases hxm : x < mid
    · rw [h3.perm.2.1 x (by omega)]
      refine perm_all (fun v => lt v d2[x]! = false) (by omega) h3.perm (fun i hi hib => ?_) y (by omega) hyb
      rw [h2.perm.2.1 i (by omega)]
      exact perm_all (fun v => lt d1[i]! v = false) (by omega) h2.perm (fun k hk hkb => hx k i hk hkb hi hib) x hx1 hxm
    · exact h3.sorted x y (by omega) hxy hyb
theorem Merged.refl {lt : Nat → Nat → Bool} {a b : Nat} {d : Array Nat} (h : SortedIn lt a b d) (hs : Stb lt d) : Merged lt a b d d := ⟨permIn_refl d a b, h, hs⟩

end Go.Proofs.Ytgmljpkenipgjaa.Pk

/-
  pack: the library's stable sort: runs, pure.
-/
namespace Go.Proofs.Ytgmljpkenipgjaa.Pk
open Go.Sort

theorem dvd_between {n a b : Nat} (h1 : n ∣ a) (h2 : n ∣ b) (h3 : a ≤ b) (h4 : b < a + n) : b = a := by
  have h5 : n ∣ b - a := Nat.dvd_sub h2 h1
  by_cases h6 : b - a = 0
  · omega
  · have := Nat.le_of_dvd (by omega) h5
    omega
theorem dvd_apart {n a b : Nat} (h1 : n ∣ a) (h2 : n ∣ b) (h3 : b < a) : b + n ≤ a := by
  by_cases h4 : a < b + n
  · have := dvd_between h2 h1 (by omega) h4
    omega
  · omega

theorem SortedIn.keep {lt : Nat → Nat → Bool} {x y a b : Nat} {d d' : Array Nat} (h : SortedIn lt x y d) (hp : PermIn a b d d') (ho : y ≤ a ∨ b ≤ x) : SortedIn lt x y d' := fun i j hi hij hj => by
  rw [hp.2.1 i (by omega), hp.2.1 j (by omega)]
  exact h i j hi hij hj

/-- Each stretch of bs, from the first on, is sorted. -/
def Runs (lt : Nat → Nat → Bool) (bs N : Nat) (d : Array Nat) : Prop := ∀ a, bs ∣ a → SortedIn lt a (min (a + bs) N) d
/-- Below a stretches of s are sorted, from there on those of bs. -/
structure Half (lt : Nat → Nat → Bool) (bs s N a : Nat) (d : Array Nat) : Prop where
  done : ∀ x, s ∣ x → x < a → SortedIn lt x (min (x + s) N) d
  left : ∀ x, bs ∣ x → a ≤ x → SortedIn lt x (min (x + bs) N) d

theorem Half.start {lt : Nat → Nat → Bool} {bs s N : Nat} {d : Array Nat} (h : Runs lt bs N d) : Half lt bs s N 0 d := ⟨fun x h1 h2 => by omega, fun x h1 h2 => h x h1⟩
theorem runs_one {lt : Nat → Nat → Bool} (N : Nat) (d : Array Nat) : Runs lt 1 N d := fun a h i j h1 h2 h3 => by omega
theorem Half.step {lt : Nat → Nat → Bool} {bs s N a : Nat} {d d' : Array Nat} (h : Half lt bs s N a d) (ha : s ∣ a) (hN : a + s ≤ N) (hs : 0 < s) (hm : Merged lt a (a + s) d d') : Half lt bs s N (a + s) d' := by
  refine ⟨fun x h1 h2 => ?_, fun x h1 h2 => ?_⟩
  · by_cases hx : x < a
    · have := dvd_apart ha h1 hx
      exact SortedIn.keep (h.done x h1 hx) hm.perm (by omega)
    · have : x = a := dvd_between ha h1 (by omega) (by omega)
      subst this
      rw [show min (x + s) N = x + s by omega]
      exact hm.sorted
  · exact SortedIn.keep (h.left x h1 (by omega)) hm.perm (by omega)
theorem Half.fin {lt : Nat → Nat → Bool} {bs s N a : Nat} {d d' : Array Nat} (h : Half lt bs s N a d) (ha : s ∣ a) (hN : N < a + s) (hm : Merged lt a N d d') : Runs lt s N d' := fun x hx => by
  by_cases hxa : x < a
  · have := dvd_apart ha hx hxa
    exact SortedIn.keep (h.done x hx hxa) hm.perm (by omega)
  · by_cases hxe : x = a
    · subst hxe
      rw [show min (x + s) N = N by omega]
      exact hm.sorted
    · intro i j h1 h2 h3
      have : a + s ≤ x := by
        by_cases h4 : x < a + s
        · exact absurd (dvd_between ha hx (by omega) h4) hxe
        · omega
      omega
theorem Half.last {lt : Nat → Nat → Bool} {bs s N a : Nat} {d : Array Nat} (h : Half lt bs s N a d) (hba : bs ∣ a) (hN : N ≤ a + bs) (hs : Stb lt d) : Merged lt a N d d := by
  have := h.left a hba (Nat.le_refl _)
  rw [show min (a + bs) N = N by omega] at this
  exact Merged.refl this hs
theorem Runs.all {lt : Nat → Nat → Bool} {bs N : Nat} {d : Array Nat} (h : Runs lt bs N d) (hN : N ≤ bs) : SortedIn lt 0 N d := by
  have := h 0 (Nat.dvd_zero _)
  rw [show min (0 + bs) N = N by omega] at this
  exact this
theorem Merged.wide {lt : Nat → Nat → Bool} {a b N : Nat} {d d' : Array Nat} (h : Merged lt a b d d') (hb : b ≤ N) (hN : N ≤ d.size) : PermIn 0 N d d' := permIn_mono d d' a b 0 N (by omega) hb hN h.perm

end Go.Proofs.Ytgmljpkenipgjaa.Pk
