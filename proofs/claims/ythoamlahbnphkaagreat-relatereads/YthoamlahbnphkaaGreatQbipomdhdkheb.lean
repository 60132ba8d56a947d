import Derived.Test.YthoamlahbnphkaaGreatQmjhdgmanfmoo
import Derived.Test.YthoamlahbnphkaaGreatQdiacnmnpkljc
import Derived.Test.YthoamlahbnphkaaGreatQbfdkoiaoanfi
import Derived.Deep.RegionHeld3

/-
  relate: what is handed out, pure.
-/
namespace Go.Proofs.YthoamlahbnphkaaGreat.J
open Go.RowKit Go.Maps Go.Shelf

theorem snoc_ind {α : Type} {P : List α → Prop} (h0 : P []) (h : ∀ l x, P l → P (l ++ [x])) (l : List α) : P l := by
  have key : ∀ m : List α, P m.reverse := fun m => by
    induction m with
    | nil => exact h0
    | cons x m ih => rw [List.reverse_cons]; exact h _ _ ih
  have := key l.reverse
  rwa [List.reverse_reverse] at this
theorem addL_mem (l : List Int) (x y : Int) : y ∈ addL l x ↔ y ∈ l ∨ y = x := by
  unfold addL
  by_cases h : l.getLast? = some x
  · rw [if_pos h]
    constructor
    · exact .inl
    · rintro (h1 | rfl)
      · exact h1
      · exact List.mem_of_getLast? h
  · rw [if_neg h, List.mem_append, List.mem_singleton]
theorem last_of_asc : ∀ (l : List Int), l.Pairwise (· < ·) → ∀ x, x ∈ l → (∀ y ∈ l, y ≤ x) → l.getLast? = some x
  | [], _, x, hx, _ => by cases hx
  | [a], _, x, hx, _ => by rw [List.mem_singleton.1 hx]; rfl
  | a :: b :: l, hp, x, hx, hy => by
    rw [List.getLast?_cons_cons]
    rw [List.pairwise_cons] at hp
    rcases List.mem_cons.1 hx with rfl | hx
    · have h1 := hp.1 b (List.mem_cons_self ..)
      have h2 := hy b (by simp)
      omega
    · exact last_of_asc (b :: l) hp.2 x hx fun y h => hy y (List.mem_cons_of_mem _ h)
theorem addL_asc {l : List Int} {x : Int} (h : l.Pairwise (· < ·)) (hx : ∀ y ∈ l, y ≤ x) : (addL l x).Pairwise (· < ·) := by
  unfold addL
  by_cases e : l.getLast? = some x
  · rw [if_pos e]; exact h
  · rw [if_neg e, List.pairwise_append]
    refine ⟨h, List.pairwise_singleton _ _, fun a ha b hb => ?_⟩
    rw [List.mem_singleton.1 hb]
    have h1 := hx a ha
    have h2 : a ≠ x := fun h2 => e (last_of_asc l h x (h2 ▸ ha) hx)
    omega
/-- Lists to which numbers were handed that do not fall: they rise, and have just those. -/
theorem foldQ_spec : ∀ (l : List (Nat × Int)), (l.Pairwise fun p q => p.1 = q.1 → p.2 ≤ q.2) → ∀ f, (∀ x, x ∈ foldQ (fun _ => []) l f ↔ (f, x) ∈ l) ∧ (foldQ (fun _ => []) l f).Pairwise (· < ·) := by
  refine snoc_ind (fun _ f => ⟨fun x => by simp [foldQ], List.Pairwise.nil⟩) (fun l p ih hp f => ?_)
  rw [List.pairwise_append] at hp
  obtain ⟨h1, h2⟩ := ih hp.1 f
  rw [foldQ_snoc]
  by_cases e : f = p.1
  · subst e
    rw [updL_same]
    refine ⟨fun x => ?_, addL_asc h2 fun y hy => hp.2.2 (p.1, y) ((h1 y).1 hy) p (List.mem_singleton.2 rfl) rfl⟩
    rw [addL_mem, h1, List.mem_append, List.mem_singleton]
    constructor
    · rintro (h | h)
      · exact .inl h
      · exact .inr (by rw [h])
    · rintro (h | h)
      · exact .inl h
      · exact .inr (by rw [← h])
  · rw [updL_other _ _ e]
    refine ⟨fun x => ?_, h2⟩
    rw [h1, List.mem_append, List.mem_singleton]
    constructor
    · exact .inl
    · rintro (h | h)
      · exact h
      · exact absurd (by rw [← h]) e

theorem idx_pairwise {L : List It} (h : L.Nodup) : L.Pairwise (fun x y => L.idxOf x < L.idxOf y) := by
  rw [List.pairwise_iff_getElem]
  intro i j hi hj hij
  rw [nodup_at L h i _ (List.getElem?_eq_getElem hi), nodup_at L h j _ (List.getElem?_eq_getElem hj)]
  exact hij
theorem trI_sub {tn : Nat} {es : List (List (Nat × Nat))} {b : Nat} : ∀ {N : Nat}, b < N → (trI tn (es.getD b []) b).Sublist (trT tn es N)
  | 0, h => absurd h (Nat.not_lt_zero _)
  | N + 1, h => by
    unfold trT
    by_cases e : b < N
    · exact (trI_sub e).trans (List.sublist_append_left _ _)
    · have e2 : b = N := by omega
      subst e2
      exact List.sublist_append_right _ _
theorem trI_in {tn : Nat} {l : List (Nat × Nat)} {i : Nat} {e : Nat × Nat} (he : e ∈ l) (h : tn ≤ e.1) : ((i : Int), (e.1 : Int)) ∈ trI tn l i := by
  unfold trI
  exact List.mem_map.2 ⟨e, List.mem_filter.2 ⟨he, by simpa using h⟩, rfl⟩
theorem rdE_asc {tn N : Nat} {es : List (List (Nat × Nat))} {F : Nat → Bool} {i b : Nat} (hnd : (trT tn es N).Nodup) (hb : b < N) : (rdE (trT tn es N) tn F i b (es.getD b [])).Pairwise fun p q => p.2 < q.2 := by
  have h1 := (idx_pairwise hnd).sublist (trI_sub (tn := tn) (es := es) hb)
  unfold trI at h1
  rw [List.pairwise_map] at h1
  unfold rdE
  rw [List.pairwise_map]
  have h2 : ((es.getD b []).filter fun x => decide (tn ≤ x.1) && F (x.1 - tn)).Sublist ((es.getD b []).filter fun x => decide (tn ≤ x.1)) := by
    have e : ((es.getD b []).filter fun x => decide (tn ≤ x.1) && F (x.1 - tn)) = ((es.getD b []).filter fun x => decide (tn ≤ x.1)).filter fun x => F (x.1 - tn) := by
      rw [List.filter_filter]
      exact congrArg (fun f => List.filter f (es.getD b [])) (funext fun x => Bool.and_comm _ _)
    rw [e]
    exact List.filter_sublist
  refine (h1.sublist h2).imp_of_mem fun {x y} hx hy h => ?_
  have m : ∀ z, z ∈ (es.getD b []).filter (fun x => decide (tn ≤ x.1) && F (x.1 - tn)) → ((b : Int), (z.1 : Int)) ∈ trT tn es N := fun z hz => by
    obtain ⟨k1, k2⟩ := List.mem_filter.1 hz
    simp only [Bool.and_eq_true, decide_eq_true_eq] at k2
    exact (trI_sub hb).subset (trI_in k1 k2.1)
  unfold nmF
  rw [if_pos (m x hx), if_pos (m y hy)]
  omega
theorem mem_rdE {tl : List It} {tn : Nat} {F : Nat → Bool} {i b : Nat} {l : List (Nat × Nat)} {p : Nat × Int} : p ∈ rdE tl tn F i b l ↔ p.1 = i ∧ ∃ e ∈ l, tn ≤ e.1 ∧ F (e.1 - tn) = true ∧ p.2 = nmF tl b e.1 := by
  unfold rdE
  rw [List.mem_map]
  constructor
  · rintro ⟨e, he, rfl⟩
    obtain ⟨h1, h2⟩ := List.mem_filter.1 he
    simp only [Bool.and_eq_true, decide_eq_true_eq] at h2
    exact ⟨rfl, e, h1, h2.1, h2.2, rfl⟩
  · rintro ⟨h0, e, h1, h2, h3, h4⟩
    refine ⟨e, List.mem_filter.2 ⟨h1, by simp [h2, h3]⟩, ?_⟩
    rw [← h0, ← h4]
theorem mem_rdT {es : List (List (Nat × Nat))} {tl : List It} {tn : Nat} {F : Nat → Bool} {p : Nat × Int} : ∀ {k : Nat}, p ∈ rdT es tl tn F k ↔ p.1 < k ∧ p ∈ rdE tl tn F p.1 (bhF es (tl.getD p.1 (0, 0))) (es.getD (bhF es (tl.getD p.1 (0, 0))) [])
  | 0 => by simp [rdT]
  | k + 1 => by
    rw [rdT, List.mem_append, mem_rdT]
    constructor
    · rintro (⟨h1, h2⟩ | h)
      · exact ⟨by omega, h2⟩
      · have e := (mem_rdE.1 h).1
        rw [e]
        exact ⟨Nat.lt_succ_self _, h⟩
    · rintro ⟨h1, h2⟩
      by_cases e : p.1 < k
      · exact .inl ⟨e, h2⟩
      · have e2 : p.1 = k := by omega
        rw [e2] at h2
        exact .inr h2
theorem rdT_asc {tn N : Nat} {es : List (List (Nat × Nat))} {F : Nat → Bool} (hnd : (trT tn es N).Nodup) (hb : ∀ k, k < (trT tn es N).length → bhF es ((trT tn es N).getD k (0, 0)) < N) : ∀ k, k ≤ (trT tn es N).length → (rdT es (trT tn es N) tn F k).Pairwise fun p q => p.1 = q.1 → p.2 ≤ q.2
  | 0, _ => List.Pairwise.nil
  | k + 1, hk => by
    rw [rdT, List.pairwise_append]
    refine ⟨rdT_asc hnd hb k (by omega), (rdE_asc (F := F) (i := k) hnd (hb k (by omega))).imp (S := fun (p q : Nat × Int) => p.1 = q.1 → p.2 ≤ q.2) fun h _ => Int.le_of_lt h, fun p hp q hq e => ?_⟩
    have h1 := (mem_rdT.1 hp).1
    have h2 := (mem_rdE.1 hq).1
    omega
/-- P11.1. -/
theorem reads_spec {tn N : Nat} {es : List (List (Nat × Nat))} {F : Nat → Bool} (hnd : (trT tn es N).Nodup) (hb : ∀ k, k < (trT tn es N).length → bhF es ((trT tn es N).getD k (0, 0)) < N) (i : Nat) (hi : i < (trT tn es N).length) :
    (foldQ (fun _ => []) (rdT es (trT tn es N) tn F (trT tn es N).length) i).Pairwise (· < ·) ∧ (∀ x ∈ foldQ (fun _ => []) (rdT es (trT tn es N) tn F (trT tn es N).length) i, 0 ≤ x ∧ x < ((trT tn es N).length : Int)) ∧ ∀ k q s : Nat, (trT tn es N)[k]? = some ((q : Int), (s : Int)) → ((k : Int) ∈ foldQ (fun _ => []) (rdT es (trT tn es N) tn F (trT tn es N).length) i ↔ q = bhF es ((trT tn es N).getD i (0, 0)) ∧ F (s - tn) = true) := by
  obtain ⟨h1, h2⟩ := foldQ_spec _ (rdT_asc (F := F) hnd hb _ (Nat.le_refl _)) i
  have at' : ∀ (b : Nat) (e : Nat × Nat), b < N → e ∈ es.getD b [] → tn ≤ e.1 → ∃ j : Nat, (trT tn es N)[j]? = some ((b : Int), (e.1 : Int)) ∧ nmF (trT tn es N) b e.1 = (j : Int) ∧ j < (trT tn es N).length := fun b e h3 h4 h5 => by
    obtain ⟨j, hj, h6⟩ := List.getElem_of_mem ((trI_sub h3).subset (trI_in h4 h5))
    have h7 : (trT tn es N)[j]? = some ((b : Int), (e.1 : Int)) := by rw [List.getElem?_eq_getElem hj, h6]
    exact ⟨j, h7, nmF_at hnd h7, hj⟩
  refine ⟨h2, fun x hx => ?_, fun k q s hk => ?_⟩
  · obtain ⟨_, h4⟩ := mem_rdT.1 ((h1 x).1 hx)
    obtain ⟨_, e, h5, h6, _, h7⟩ := mem_rdE.1 h4
    obtain ⟨j, _, h9, h10⟩ := at' _ e (hb i hi) h5 h6
    simp only at h7
    rw [h7, h9]
    omega
  · rw [h1, mem_rdT]
    constructor
    · rintro ⟨_, h4⟩
      obtain ⟨_, e, h5, h6, h8, h7⟩ := mem_rdE.1 h4
      obtain ⟨j, h9, h10, _⟩ := at' _ e (hb i hi) h5 h6
      simp only at h7
      rw [h10] at h7
      have h11 : k = j := by omega
      subst h11
      rw [hk] at h9
      simp only [Option.some.injEq, Prod.mk.injEq] at h9
      refine ⟨by omega, ?_⟩
      have : s = e.1 := by omega
      rw [this]; exact h8
    · rintro ⟨h3, h4⟩
      refine ⟨hi, mem_rdE.2 ⟨rfl, ?_⟩⟩
      obtain ⟨q', h5, e, h6, h7, h8⟩ := trT_mem (List.mem_of_getElem? hk)
      simp only [Prod.mk.injEq] at h8
      have e1 : q = q' := by omega
      have e2 : s = e.1 := by omega
      subst e1
      rw [← h3]
      refine ⟨e, h6, h7, by rw [← e2]; exact h4, ?_⟩
      rw [← e2]
      exact (nmF_at hnd hk).symm

/-- What is handed out of one way, from the place i on towards the beginning. -/
def inW (tl : List It) (tn : Nat) (F : Nat → Bool) (sf : Nat → Nat) (row : List Int) (zt : Int) : Nat → List (Nat × Int)
  | 0 => []
  | i + 1 => if row.getD i 0 < (tn : Int) then [] else ((nmF tl (sf i) (row.getD i 0).toNat).toNat, zt) :: (if F ((row.getD i 0).toNat - tn) then inW tl tn F sf row zt i else [])
theorem mem_inW {tl : List It} {tn : Nat} {F : Nat → Bool} {sf : Nat → Nat} {row : List Int} {zt : Int} {p : Nat × Int} : ∀ {i : Nat}, p ∈ inW tl tn F sf row zt i ↔ p.2 = zt ∧ ∃ j, j < i ∧ (tn : Int) ≤ row.getD j 0 ∧ p.1 = (nmF tl (sf j) (row.getD j 0).toNat).toNat ∧ ∀ m, j < m → m < i → (tn : Int) ≤ row.getD m 0 ∧ F ((row.getD m 0).toNat - tn) = true
  | 0 => by simp [inW]
  | i + 1 => by
    rw [inW]
    by_cases h : row.getD i 0 < (tn : Int)
    · rw [if_pos h]
      constructor
      · intro h1; cases h1
      · rintro ⟨_, j, h1, h2, _, h4⟩
        by_cases e : j = i
        · subst e; omega
        · have := (h4 i (by omega) (by omega)).1
          omega
    · rw [if_neg h, List.mem_cons]
      constructor
      · rintro (h1 | h1)
        · rw [h1]
          exact ⟨rfl, i, Nat.lt_succ_self _, by omega, rfl, fun m h2 h3 => by omega⟩
        · by_cases hF : F ((row.getD i 0).toNat - tn) = true
          · rw [if_pos hF] at h1
            obtain ⟨h2, j, h3, h4, h5, h6⟩ := mem_inW.1 h1
            refine ⟨h2, j, by omega, h4, h5, fun m h7 h8 => ?_⟩
            by_cases e : m = i
            · subst e; exact ⟨by omega, hF⟩
            · exact h6 m h7 (by omega)
          · rw [if_neg hF] at h1; cases h1
      · rintro ⟨h1, j, h2, h3, h4, h5⟩
        by_cases e : j = i
        · subst e
          left
          exact Prod.ext h4 h1
        · right
          rw [if_pos (h5 i (by omega) (by omega)).2]
          exact mem_inW.2 ⟨h1, j, by omega, h3, h4, fun m h7 h8 => h5 m h7 (by omega)⟩
/-- What is handed out of a transition, by the productions below p. -/
def inK (es : List (List (Nat × Nat))) (tl : List It) (tn : Nat) (F : Nat → Bool) (L : Nat → Int) (R : Nat → List Int) (k : Nat) : Nat → List (Nat × Int)
  | 0 => []
  | p + 1 => inK es tl tn F L R k p ++ (if L p = (tl.getD k (0, 0)).2 then inW tl tn F (stF es (tl.getD k (0, 0)).1.toNat (R p)) (R p) (k : Int) (R p).length else [])
/-- .. of the transitions below k, by n productions. -/
def inT (es : List (List (Nat × Nat))) (tl : List It) (tn : Nat) (F : Nat → Bool) (n : Nat) (L : Nat → Int) (R : Nat → List Int) : Nat → List (Nat × Int)
  | 0 => []
  | k + 1 => inT es tl tn F n L R k ++ inK es tl tn F L R k n
theorem mem_inK {es : List (List (Nat × Nat))} {tl : List It} {tn : Nat} {F : Nat → Bool} {L : Nat → Int} {R : Nat → List Int} {k : Nat} {x : Nat × Int} : ∀ {p : Nat}, x ∈ inK es tl tn F L R k p ↔ ∃ p', p' < p ∧ L p' = (tl.getD k (0, 0)).2 ∧ x ∈ inW tl tn F (stF es (tl.getD k (0, 0)).1.toNat (R p')) (R p') (k : Int) (R p').length
  | 0 => by simp [inK]
  | p + 1 => by
    rw [inK, List.mem_append, mem_inK]
    constructor
    · rintro (⟨p', h1, h2⟩ | h)
      · exact ⟨p', by omega, h2⟩
      · by_cases e : L p = (tl.getD k (0, 0)).2
        · rw [if_pos e] at h; exact ⟨p, Nat.lt_succ_self _, e, h⟩
        · rw [if_neg e] at h; cases h
    · rintro ⟨p', h1, h2, h3⟩
      by_cases e : p' = p
      · subst e; right; rw [if_pos h2]; exact h3
      · exact .inl ⟨p', by omega, h2, h3⟩
theorem mem_inT {es : List (List (Nat × Nat))} {tl : List It} {tn : Nat} {F : Nat → Bool} {n : Nat} {L : Nat → Int} {R : Nat → List Int} {x : Nat × Int} : ∀ {k : Nat}, x ∈ inT es tl tn F n L R k ↔ ∃ k', k' < k ∧ x.2 = (k' : Int) ∧ x ∈ inK es tl tn F L R k' n
  | 0 => by simp [inT]
  | k + 1 => by
    have snd : ∀ {y : Nat × Int} {k' : Nat}, y ∈ inK es tl tn F L R k' n → y.2 = (k' : Int) := fun h => by
      obtain ⟨p', _, _, h3⟩ := mem_inK.1 h
      exact (mem_inW.1 h3).1
    rw [inT, List.mem_append, mem_inT]
    constructor
    · rintro (⟨k', h1, h2⟩ | h)
      · exact ⟨k', by omega, h2⟩
      · exact ⟨k, Nat.lt_succ_self _, snd h, h⟩
    · rintro ⟨k', h1, h2, h3⟩
      by_cases e : k' = k
      · subst e; exact .inr h3
      · exact .inl ⟨k', by omega, h2, h3⟩
theorem inK_snd {es : List (List (Nat × Nat))} {tl : List It} {tn : Nat} {F : Nat → Bool} {n : Nat} {L : Nat → Int} {R : Nat → List Int} {k : Nat} {y : Nat × Int} (h : y ∈ inK es tl tn F L R k n) : y.2 = (k : Int) := by
  obtain ⟨p', _, _, h3⟩ := mem_inK.1 h
  exact (mem_inW.1 h3).1
theorem inT_asc {es : List (List (Nat × Nat))} {tl : List It} {tn : Nat} {F : Nat → Bool} {n : Nat} {L : Nat → Int} {R : Nat → List Int} : ∀ k, (inT es tl tn F n L R k).Pairwise fun p q => p.1 = q.1 → p.2 ≤ q.2
  | 0 => List.Pairwise.nil
  | k + 1 => by
    rw [inT, List.pairwise_append]
    refine ⟨inT_asc k, ?_, fun p hp q hq _ => ?_⟩
    · refine List.Pairwise.imp_of_mem (R := fun _ _ => True) (fun {p q} hp hq _ _ => ?_) (List.pairwise_of_forall (fun _ _ => trivial))
      rw [inK_snd hp, inK_snd hq]; exact Int.le_refl _
    · obtain ⟨k', h1, h2, _⟩ := mem_inT.1 hp
      rw [h2, inK_snd hq]
      omega
end Go.Proofs.YthoamlahbnphkaaGreat.J

/-
  trans: the ways of Rights and Lefts, pure (TRightsM, over fewer imports).
-/
namespace Go.Proofs.YthoamlahbnphkaaGreat.J
open Go.RowKit Go.Maps Go.Shelf

/-- A kernel of a state but the first has begun items alone. -/
def PB (n : Nat) (R : Nat → List Int) (j : Nat) (k : List It) : Prop := PJ n R j k ∧ (j = 0 ∨ ∀ x ∈ k, 0 < x.2)
theorem CLo_item {tn n : Nat} {L : Nat → Int} {R : Nat → List Int} {k : List It} (hk : ∀ x ∈ k, itB n R x = true) : ∀ x ∈ CLo tn n L R k, itB n R x = true := by
  unfold CLo
  by_cases hh : ∃ l, IsClo tn n L R k l ∧ l.length ≤ k.length + 13000
  · rw [dif_pos hh]
    have h1 := Classical.choose_spec hh
    exact fun x hx => ((h1.1.mem x).1 hx).item hk
  · rw [dif_neg hh]
    exact fun x hx => absurd hx (by simp)
theorem mem_GG {tn n : Nat} {L : Nat → Int} {R : Nat → List Int} {k : List It} {s : Nat} {x : It} : x ∈ GG tn n L R k s ↔ ∃ y ∈ CLo tn n L R k, aheadV R y = (s : Int) ∧ (y.1, y.2 + 1) = x := by
  unfold GG kerT
  rw [List.mem_map]
  constructor
  · rintro ⟨y, hy, rfl⟩
    obtain ⟨h1, h2⟩ := List.mem_filter.1 hy
    exact ⟨y, h1, by simpa using h2, rfl⟩
  · rintro ⟨y, hy, h, rfl⟩
    exact ⟨y, List.mem_filter.2 ⟨hy, by simpa using h⟩, rfl⟩
theorem PB.GG {tn n : Nat} {L : Nat → Int} {R : Nat → List Int} {i m : Nat} {k : List It} (s : Nat) (h : PB n R i k) (hm : i < m) : PB n R m (GG tn n L R k s) := by
  refine ⟨h.1.GG s hm, .inr fun x hx => ?_⟩
  obtain ⟨y, hy, _, rfl⟩ := mem_GG.1 hx
  have h1 := CLo_item h.1.1 y hy
  unfold itB at h1
  simp only [Bool.and_eq_true, decide_eq_true_eq] at h1
  simp only
  omega
section
variable {tn nn n : Nat} {L : Nat → Int} {R : Nat → List Int} {ks : List (List It)} {es : List (List (Nat × Nat))}
theorem edge_of (h : AutF (GG tn n L R) n R (tn + nn) ks es) {q s : Nat} (hq : q < ks.length) (hs : s < tn + nn) (hk : GG tn n L R (ks.getD q []) s ≠ []) : ∃ t : Nat, t < ks.length ∧ leadA es ((q : Int), (s : Int)) = some (t : Int) ∧ ks.getD t [] = GG tn n L R (ks.getD q []) s := by
  have h1 : s ∈ (es.getD q []).map Prod.fst := by rw [h.fst q hq]; exact mem_symsT.2 ⟨hs, hk⟩
  obtain ⟨e, he, rfl⟩ := List.mem_map.1 h1
  obtain ⟨t, h2, e', he', h3, h4⟩ := nextL_some he
  obtain ⟨_, h5, h6⟩ := h.snd q hq e' he'
  refine ⟨t, by rw [← h4]; exact h5, by rw [leadA_at es (by rw [h.len]; exact hq)]; exact h2, ?_⟩
  rw [← h4, h6, h3]
/-- An item that is not completed goes on. -/
theorem goes_on (h : AutF (GG tn n L R) n R (tn + nn) ks es) (hR : ∀ k, k < n → ∀ x ∈ R k, (0 : Int) < x ∧ x < ((tn + nn : Nat) : Int)) {q P d : Nat} (hq : q < ks.length) (hP : P < n) (hd : d < (R P).length) (hx : ((P : Int), (d : Int)) ∈ CLo tn n L R (ks.getD q [])) : ∃ t : Nat, t < ks.length ∧ leadA es ((q : Int), (R P).getD d 0) = some (t : Int) ∧ ((P : Int), ((d + 1 : Nat) : Int)) ∈ ks.getD t [] := by
  have hm : (R P).getD d 0 ∈ R P := by
    generalize R P = l at hd ⊢
    rw [List.getD_eq_getElem?_getD, List.getElem?_eq_getElem hd]; exact List.getElem_mem hd
  have h1 := hR P hP _ hm
  obtain ⟨s, hs⟩ : ∃ s : Nat, (R P).getD d 0 = (s : Int) := ⟨((R P).getD d 0).toNat, by omega⟩
  have ha : aheadV R ((P : Int), (d : Int)) = (s : Int) := by
    unfold aheadV
    rw [if_neg (by simp only [Int.toNat_natCast]; omega)]
    simp only [Int.toNat_natCast]
    exact hs
  have hg : ((P : Int), ((d + 1 : Nat) : Int)) ∈ GG tn n L R (ks.getD q []) s := mem_GG.2 ⟨_, hx, ha, by simp⟩
  obtain ⟨t, h2, h3, h4⟩ := edge_of (s := s) h hq (by rw [hs] at h1; omega) (fun e => by rw [e] at hg; cases hg)
  exact ⟨t, h2, by rw [hs]; exact h3, by rw [h4]; exact hg⟩
end
/-- The added nonterminal stands in no Right. -/
theorem no_added {ts : List (ByteArray × Int)} {ns : List ByteArray} {lv : List Int} {st : Int} {n : Nat} {L : Nat → Int} {R : Nat → List Int} {V : Nat → Int} (h : closedOK ts ns lv st n L R V) : ∀ k, k < n → ∀ x ∈ R k, x ≠ (ts.length : Int) := by
  obtain ⟨ha, hf⟩ := h
  have hs := hf.start
  unfold isNonI at hs
  intro k hk x hx
  by_cases h0 : k = 0
  · subst h0
    rw [ha.right] at hx
    simp at hx
    omega
  · have := (hf.prods k (by omega) hk).2.2 x hx
    unfold isSymI isNonI at this
    omega

end Go.Proofs.YthoamlahbnphkaaGreat.J

/-
  relate: what includes what, pure.
-/
namespace Go.Proofs.YthoamlahbnphkaaGreat.J
open Go.RowKit Go.Maps Go.Shelf

theorem nmF_range {l : List It} (h : 0 < l.length) (q s : Nat) : 0 ≤ nmF l q s ∧ nmF l q s < (l.length : Int) := by
  unfold nmF
  split
  · rename_i h1
    have := List.idxOf_lt_length_iff.2 h1
    omega
  · omega

section
variable {tn nn n : Nat} {L : Nat → Int} {R : Nat → List Int} {ks : List (List It)} {es : List (List (Nat × Nat))}
/-- The states of a Right, from one that has the production begun. -/
theorem right_st (h : AutF (GG tn n L R) n R (tn + nn) ks es) (hR : ∀ k, k < n → ∀ x ∈ R k, (0 : Int) < x ∧ x < ((tn + nn : Nat) : Int)) (hCl : ∀ q, q < ks.length → IsClo tn n L R (ks.getD q []) (CLo tn n L R (ks.getD q []))) {q P : Nat} (hq : q < ks.length) (hP : P < n) (hx : ((P : Int), (0 : Int)) ∈ CLo tn n L R (ks.getD q [])) : ∀ d, d ≤ (R P).length → stF es q (R P) d < ks.length ∧ wayF es (some (q : Int)) ((R P).take d) = some (stF es q (R P) d : Int) ∧ ((P : Int), (d : Int)) ∈ CLo tn n L R (ks.getD (stF es q (R P) d) [])
  | 0, _ => ⟨hq, rfl, hx⟩
  | d + 1, hd => by
    obtain ⟨h1, h2, h3⟩ := right_st h hR hCl hq hP hx d (by omega)
    obtain ⟨u, h4, h5, h6⟩ := goes_on h hR h1 hP (by omega) h3
    have hm : (R P).getD d 0 ∈ R P := by
      have hd' : d < (R P).length := by omega
      generalize R P = l at hd' ⊢
      rw [List.getD_eq_getElem?_getD, List.getElem?_eq_getElem hd']; exact List.getElem_mem hd'
    have h7 := hR P hP _ hm
    have e1 : stF es q (R P) (d + 1) = u := by
      rw [leadA_at es (by rw [h.len]; exact h1)] at h5
      rw [stF]
      unfold ldF
      rw [show (((R P).getD d 0).toNat : Int) = (R P).getD d 0 by omega, h5]
      rfl
    refine ⟨by rw [e1]; exact h4, ?_, by rw [e1]; exact ((hCl u h4).mem _).2 (Clo.base h6)⟩
    rw [wayF_take es (by omega), h2, e1]
    exact h5
/-- From a transition's state its productions are begun. -/
theorem tr_begun (h : AutF (GG tn n L R) n R (tn + nn) ks es) (hCl : ∀ q, q < ks.length → IsClo tn n L R (ks.getD q []) (CLo tn n L R (ks.getD q []))) {q s P : Nat} (hx : ((q : Int), (s : Int)) ∈ trT tn es ks.length) (hP : P < n) (hL : L P = (s : Int)) : q < ks.length ∧ ((P : Int), (0 : Int)) ∈ CLo tn n L R (ks.getD q []) := by
  obtain ⟨q', h1, e, h2, h3, h4⟩ := trT_mem hx
  simp only [Prod.mk.injEq] at h4
  have e1 : q = q' := by omega
  have e2 : s = e.1 := by omega
  subst e1
  refine ⟨h1, ?_⟩
  have h5 : e.1 ∈ (es.getD q []).map Prod.fst := List.mem_map.2 ⟨e, h2, rfl⟩
  rw [h.fst q h1] at h5
  obtain ⟨x, hx2⟩ := List.exists_mem_of_ne_nil _ (mem_symsT.1 h5).2
  obtain ⟨y, hy, h6, _⟩ := mem_GG.1 hx2
  refine ((hCl q h1).mem _).2 ((((hCl q h1).mem y).1 hy).step (by rw [h6]; omega) hP (by rw [h6, hL, e2]))
end

end Go.Proofs.YthoamlahbnphkaaGreat.J

/-
  relate: what includes hands out of one way.
-/
namespace Go.Proofs.YthoamlahbnphkaaGreat.J
open Go.RowKit Go.Maps Go.Shelf

attribute [local go_sem] Oper.semAt_some

theorem foldQ_cons (Q : Nat → List Int) (p : Nat × Int) (l : List (Nat × Int)) : foldQ Q (p :: l) = foldQ (updL Q p.1 (addL (Q p.1) p.2)) l := rfl
theorem prods_at {w : World} {a : Option Addr} {n : Nat} {L : Nat → Int} {R : Nat → List Int} {ra : Nat → Option Addr} {rc : Nat → Nat} {V : Nat → Int} (h : ProdsAt w a n L R ra rc V) (hn : 0 < n) : ∃ b off, a = some ⟨b, off, none⟩ ∧ ∀ k, k < n → w.cell? ⟨b, off + k * 3, none⟩ = some (.int .i64 (L k)) ∧ w.cell? ⟨b, off + k * 3 + 1, none⟩ = some (.slice (ra k) (R k).length (rc k)) ∧ w.cell? ⟨b, off + k * 3 + 2, none⟩ = some (.int .i64 (V k)) ∧ IntsAt w (ra k) (R k) := by
  rcases h with h | ⟨b, off, e, h⟩
  · omega
  · exact ⟨b, off, e, fun k hk => ⟨(h k hk).1, (h k hk).2.1, (h k hk).2.2.1, (h k hk).2.2.2.1⟩⟩

section
variable (ta na la pa sa xa l1 m1 : Option Addr) (tc nc lc pc sc xc lc1 mc1 : Nat) (n N T nb : Nat) (st : Int) (w : World) (tn nn ln : Nat)

set_option maxRecDepth 100000 in
set_option maxHeartbeats 4000000 in
theorem uincf_any (P : World) (B S bx kb ab hb tb : Nat) (ks : List (List It)) (es : List (List (Nat × Nat))) (kv ev : Nat → Value) (tl : List It) (F : Nat → Bool) (lb mb : Nat → Nat) (L : Nat → Int) (R : Nat → List Int) (ra : Nat → Option Addr) (rc : Nat → Nat) (V : Nat → Int) (hK : RlOK N T S tn nn ks es tl)
    (hR : RaAt B P nb nn S (.slice sa N sc) (.slice xa T xc) (.slice l1 N lc1) (.slice m1 N mc1) ks es kv ev tl F lb mb) (hPr : ProdsAt P pa n L R ra rc V) (k p q m : Nat) (hk : k < T) (hp : p < n) (hn : n ≤ 1000) (hm : m = (R p).length) (hm4 : m ≤ 10000) (hrow : ∀ x ∈ R p, 0 ≤ x ∧ x < (S : Int)) (hst : ∀ i, stF es q (R p) i < N)
    (hab : w.heap[ab]? = some (.cells #[.slice ta tn tc, .slice na nn nc, .slice la ln lc, .int .i64 st, .slice pa n pc, .slice (some ⟨nb, 0, none⟩) nn nn, .slice sa N sc, .slice xa T xc, .slice l1 N lc1, .slice m1 N mc1] 81 (0, 0))) (hhb : w.heap[hb]? = some (.cells #[.func (.func 57) #[] #[.pointer (some ⟨bx, 0, none⟩)]] 116 (0, 0)))
    (Q : Nat → List Int) (hQ : ∀ f, (Q f).length + m ≤ 10000000) (hL : LqT P w bx kb T Q tb (m + 1) (fun i => .int .i64 (stF es q (R p) i : Int))) :
    Calls Tryz.prog 60 #[.int .i64 (k : Int), .int .i64 (p : Int), .slice (some ⟨tb, 0, none⟩) (m + 1) (m + 1), .pointer (some ⟨ab, 0, none⟩), .pointer (some ⟨hb, 0, none⟩)] w fun e y => e = .returned (.tuple #[]) ∧ KeepH w y ∧ LqT P y bx kb T (foldQ Q (inW tl tn F (stF es q (R p)) (R p) (k : Int) m)) tb (m + 1) (fun i => .int .i64 (stF es q (R p) i : Int)) := by
  have HR : Hid (∀ X, P.grownBy X none → RaAt B X nb nn S (.slice sa N sc) (.slice xa T xc) (.slice l1 N lc1) (.slice m1 N mc1) ks es kv ev tl F lb mb) := fun X hX => hR.kept hX
  have HK := show Hid _ from hK
  have hnn := hK.hnn
  have HQ := show Hid _ from hQ
  have HL := show Hid _ from hL
  have HM := show Hid _ from hm
  have HRW := show Hid _ from hrow
  have HST := show Hid _ from hst
  have HHB := show Hid _ from hhb
  obtain ⟨pb, po, rfl, hps⟩ := prods_at hPr (by omega)
  obtain ⟨_, p1, _, pI⟩ := hps p hp
  rw [← hm] at p1
  have q1 : w.cell? ⟨pb, po + p * 3 + 1, none⟩ = some (.slice (ra p) m (rc p)) := hL.grown.cell p1 (by simp)
  have HRI : Hid (∀ X, P.grownBy X none → IntsAt X (ra p) (R p)) := fun X hX => pI.kept hX
  have a4 : w.cell? ⟨ab, 4, none⟩ = some (.slice (some ⟨pb, po, none⟩) n pc) := (av_cells hab).2.2.2.2.1
  obtain ⟨cs, hcs⟩ : ∃ cs : Array Value, cs = #[.slice ta tn tc, .slice na nn nc, .slice la ln lc, .int .i64 st, .slice (some ⟨pb, po, none⟩) n pc, .slice (some ⟨nb, 0, none⟩) nn nn, .slice sa N sc, .slice xa T xc, .slice l1 N lc1, .slice m1 N mc1] := ⟨_, rfl⟩
  rw [← hcs] at hab
  have HAB := show Hid _ from hab
  have HCS := show Hid _ from hcs
  obtain ⟨rap, hrap⟩ : ∃ x, x = ra p := ⟨_, rfl⟩
  obtain ⟨rcp, hrcp⟩ : ∃ x, x = rc p := ⟨_, rfl⟩
  rw [← hrap, ← hrcp] at q1
  rw [← hrap] at HRI
  have hp0 : (0 : Int) ≤ (p : Int) := by omega
  have hp1 : (p : Int) < (n : Int) := by omega
  have hmw : IntKind.i64.wrap ((m : Int) - 1) = (m : Int) - 1 := by rw [IntKind.wrap_i64]; omega
  clear hR hK hQ hL hm hrow hst hhb hab hcs hps p1 pI hPr hrap hrcp
  go_enter Tryz.func60, Tryz.ntmps60
  go_wp2_with fail
  go_loopg [9] m (fun gk v9 wr => ∃ (j : Nat), j ≤ m ∧ gk = j ∧ v9 = .int .i64 ((j : Int) - 1) ∧ KeepH w wr ∧ ∃ Qn, LqT P wr bx kb T Qn tb (m + 1) (fun i => .int .i64 (stF es q (R p) i : Int)) ∧ foldQ Qn (inW tl tn F (stF es q (R p)) (R p) (k : Int) j) = foldQ Q (inW tl tn F (stF es q (R p)) (R p) (k : Int) m) ∧ ∀ f, (Qn f).length + j ≤ 10000000)
  case atStart => exact ⟨m, Nat.le_refl _, rfl, rfl, .refl _, Q, HL.out, rfl, HQ.out⟩
  case round =>
    obtain ⟨j, hj, hgj, rfl, hkeep, Qn, hLn, hfn, hQn⟩ := hrel
    have HGJ : Hid (gk = j) := hgj
    have HKE : Hid (KeepH w wr) := hkeep
    have HLN : Hid (LqT P wr bx kb T Qn tb (m + 1) (fun i => .int .i64 (stF es q (R p) i : Int))) := hLn
    have HFN : Hid (foldQ Qn (inW tl tn F (stF es q (R p)) (R p) (k : Int) j) = foldQ Q (inW tl tn F (stF es q (R p)) (R p) (k : Int) m)) := hfn
    have HQN : Hid (∀ f, (Qn f).length + j ≤ 10000000) := hQn
    clear hgj hkeep hLn hfn hQn q1 a4 HL HQ
    generalize wr = Y at *
    have hA : (fun x => Y.grownBy x none) Y.drew := grown_drewN Y 1
    haveI hne : Nonempty (WBox (fun x => Y.grownBy x none)) := ⟨⟨_, hA⟩⟩
    have HABY : Hid (Y.heap[ab]? = some (.cells cs 81 (0, 0))) := HKE.out.at HAB.out (by decide) (by decide)
    have HHBY : Hid (Y.heap[hb]? = some (.cells #[.func (.func 57) #[] #[.pointer (some ⟨bx, 0, none⟩)]] 116 (0, 0))) := HKE.out.at HHB.out (by decide) (by decide)
    cases j with
    | zero =>
      have hd : decide ((0 : Int) ≤ (0 : Int) - 1) = false := by decide
      go_wp2_with fail
      refine wp_region_class (p := fun x => Y.grownBy x none) (by kernel_rfl) (by kernel_rfl) hA ?_
      repeat (go_big_quiet_step (fail))
      refine wpQuiet_nil ?_
      rintro _ ⟨s, rfl⟩
      go_wp2_with fail
      refine bodyPost_end (v := .tuple #[]) (by simp [results, Tryz.results60]) rfl ?_
      refine ⟨rfl, HKE.out.trans (.none_ s.ok), ?_⟩
      rw [← HFN.out]
      exact HLN.out.kept s.ok
    | succ j =>
      have e9 : ((j + 1 : Nat) : Int) - 1 = (j : Int) := by omega
      rw [e9]
      clear e9
      have hjl : j < (R p).length := by rw [← HM.out]; omega
      obtain ⟨sy, hsy⟩ : ∃ s : Nat, (R p).getD j 0 = (s : Int) := ⟨((R p).getD j 0).toNat, by have := HRW.out _ (getD_in (d := 0) hjl); omega⟩
      have hsyS : sy < S := by have := HRW.out _ (getD_in (d := 0) hjl); omega
      obtain ⟨rb, ro, rfl, hr0⟩ : ∃ rb ro, rap = some ⟨rb, ro, none⟩ ∧ ∀ X, P.grownBy X none → X.cell? ⟨rb, ro + j, none⟩ = some (.int .i64 (sy : Int)) := by
        rcases HRI.out P (grown_refl _ _) with h | ⟨rb, ro, e, h⟩
        · rw [h] at hjl; exact absurd hjl (by simp)
        · exact ⟨rb, ro, e, fun X hX => by rw [← hsy]; exact hX.cell (h j hjl) (by simp)⟩
      have HR0 := show Hid _ from hr0
      have HPY : Hid (P.grownBy Y none) := HLN.out.grown
      have HAC : Hid (∀ X, Y.grownBy X none → X.cell? ⟨ab, 0, none⟩ = some (.slice ta tn tc) ∧ X.cell? ⟨ab, 1, none⟩ = some (.slice na nn nc) ∧ X.cell? ⟨ab, 2, none⟩ = some (.slice la ln lc) ∧ X.cell? ⟨ab, 3, none⟩ = some (.int .i64 st) ∧ X.cell? ⟨ab, 4, none⟩ = some (.slice (some ⟨pb, po, none⟩) n pc) ∧ X.cell? ⟨ab, 5, none⟩ = some (.slice (some ⟨nb, 0, none⟩) nn nn) ∧ X.cell? ⟨ab, 6, none⟩ = some (.slice sa N sc) ∧ X.cell? ⟨ab, 7, none⟩ = some (.slice xa T xc) ∧ X.cell? ⟨ab, 8, none⟩ = some (.slice l1 N lc1) ∧ X.cell? ⟨ab, 9, none⟩ = some (.slice m1 N mc1)) := fun X hX => av_cells (by have h := box_kept HABY.out hX; rw [HCS.out] at h; exact h)
      have g0 := fun s : WBox (fun x => Y.grownBy x none) => (HAC.out s.w s.ok).1
      have g1 := fun s : WBox (fun x => Y.grownBy x none) => (HAC.out s.w s.ok).2.1
      have g2 := fun s : WBox (fun x => Y.grownBy x none) => (HAC.out s.w s.ok).2.2.1
      have g3 := fun s : WBox (fun x => Y.grownBy x none) => (HAC.out s.w s.ok).2.2.2.1
      have g4 := fun s : WBox (fun x => Y.grownBy x none) => (HAC.out s.w s.ok).2.2.2.2.1
      have g5 := fun s : WBox (fun x => Y.grownBy x none) => (HAC.out s.w s.ok).2.2.2.2.2.1
      have g6 := fun s : WBox (fun x => Y.grownBy x none) => (HAC.out s.w s.ok).2.2.2.2.2.2.1
      have g7 := fun s : WBox (fun x => Y.grownBy x none) => (HAC.out s.w s.ok).2.2.2.2.2.2.2.1
      have g8 := fun s : WBox (fun x => Y.grownBy x none) => (HAC.out s.w s.ok).2.2.2.2.2.2.2.2.1
      have g9 := fun s : WBox (fun x => Y.grownBy x none) => (HAC.out s.w s.ok).2.2.2.2.2.2.2.2.2
      have r0 := fun s : WBox (fun x => Y.grownBy x none) => HR0.out s.w (grown_trans HPY.out s.ok)
      obtain ⟨bt, hbt⟩ : ∃ b, b = decide ((sy : Int) < (tn : Int)) := ⟨_, rfl⟩
      have HBT := show Hid _ from hbt
      have K1 : Hid (∀ s : WBox (fun x => Y.grownBy x none), Calls Tryz.prog 61 #[.agg #[.slice ta tn tc, .slice na nn nc, .slice la ln lc, .int .i64 st, .slice (some ⟨pb, po, none⟩) n pc, .slice (some ⟨nb, 0, none⟩) nn nn, .slice sa N sc, .slice xa T xc, .slice l1 N lc1, .slice m1 N mc1], .int .i64 (sy : Int)] s.w fun e w' => e = .returned (.bool bt) ∧ ∃ s' : WBox (fun x => Y.grownBy x none), w' = s'.w) := fun s => calls_class ((uisTerm_any _ _ _ _ _ _ _ _ _ _ _ _ _ _ _ _ _ _ _ _ _ s.w _ _ _ (sy : Int) bt HBT.out).mono fun e w' h => ⟨h.1, grown_trans s.ok h.2⟩)
      have hj0 : (0 : Int) ≤ (j : Int) := by omega
      have hj1 : (j : Int) < (m : Int) := by omega
      have hjd : decide ((0 : Int) ≤ (j : Int)) = true := decide_eq_true hj0
      have HSY := show Hid _ from hsy
      clear hbt hr0 hsy
      go_wp2_with fail
      refine wp_region_class (p := fun x => Y.grownBy x none) (by kernel_rfl) (by kernel_rfl) hA ?_
      repeat (go_big_quiet_step (first | (go_at_call 61; rename_i s; with_reducible exact K1.out s)))
      refine wpQuiet_nil ?_
      rintro _ ⟨s, rfl⟩
      cases bt with
      | true =>
        have HIN : Hid (inW tl tn F (stF es q (R p)) (R p) (k : Int) (j + 1) = []) := by
          show _ = _
          rw [inW, if_pos (by rw [HSY.out]; exact of_decide_eq_true HBT.out.symm)]
        clear g0 g1 g2 g3 g4 g5 g6 g7 g8 g9 r0
        go_wp2_with fail
        refine bodyPost_end (v := .tuple #[]) (by simp [results, Tryz.results60]) rfl ?_
        refine ⟨rfl, HKE.out.trans (.none_ s.ok), ?_⟩
        rw [← HFN.out, HIN.out]
        exact HLN.out.kept s.ok
      | false =>
        clear g0 g1 g2 g3 g4 g5 g6 g7 g8 g9 r0
        have HGZ : Hid (Y.grownBy s.w none) := s.ok
        generalize s.w = Z at HGZ ⊢
        have HLZ : Hid (LqT P Z bx kb T Qn tb (m + 1) (fun i => .int .i64 (stF es q (R p) i : Int))) := HLN.out.kept HGZ.out
        have HAZ : Hid (Z.heap[ab]? = some (.cells cs 81 (0, 0))) := box_kept HABY.out HGZ.out
        have HHZ : Hid (Z.heap[hb]? = some (.cells #[.func (.func 57) #[] #[.pointer (some ⟨bx, 0, none⟩)]] 116 (0, 0))) := box_kept HHBY.out HGZ.out
        have HKZ : Hid (KeepH w Z) := HKE.out.trans (.none_ HGZ.out)
        obtain ⟨su, hsu⟩ : ∃ x, x = stF es q (R p) j := ⟨_, rfl⟩
        have hsuN : su < N := by rw [hsu]; exact HST.out j
        have hT0 : 0 < tl.length := by rw [← HK.out.hT]; omega
        obtain ⟨f, hf⟩ : ∃ f : Nat, nmF tl su sy = (f : Int) := ⟨(nmF tl su sy).toNat, by have := nmF_range hT0 su sy; omega⟩
        have hfT : f < T := by have h := nmF_range hT0 su sy; rw [hf, ← HK.out.hT] at h; omega
        obtain ⟨mg, rfl, _, _⟩ := (HR.out Z HLZ.out.grown).nmc HK.out hsuN hsyS
        have HNM : Hid (∀ X, P.grownBy X none → X.cell? ⟨mg, su, none⟩ = some (.slice (some ⟨mb su, 0, none⟩) S S) ∧ X.cell? ⟨mb su, sy, none⟩ = some (.int .i64 (f : Int))) := fun X hX => by
          obtain ⟨mg', h1, h2, h3⟩ := (HR.out X hX).nmc HK.out hsuN hsyS
          simp only [Option.some.injEq, Addr.mk.injEq, and_true] at h1
          rw [h1, ← hf]
          exact ⟨h2, h3⟩
        have HSX : Hid (∀ X : World, X.heap[ab]? = some (.cells cs 81 (0, 0)) → X.heap[hb]? = some (.cells #[.func (.func 57) #[] #[.pointer (some ⟨bx, 0, none⟩)]] 116 (0, 0)) → ∀ Qx, LqT P X bx kb T Qx tb (m + 1) (fun i => .int .i64 (stF es q (R p) i : Int)) → X.cell? ⟨hb, 0, none⟩ = some (.func (.func 57) #[] #[.pointer (some ⟨bx, 0, none⟩)]) ∧ X.cell? ⟨ab, 9, none⟩ = some (.slice (some ⟨mg, 0, none⟩) N mc1) ∧ X.cell? ⟨tb, j, none⟩ = some (.int .i64 (su : Int)) ∧ X.cell? ⟨rb, ro + j, none⟩ = some (.int .i64 (sy : Int)) ∧ X.cell? ⟨mg, su, none⟩ = some (.slice (some ⟨mb su, 0, none⟩) S S) ∧ X.cell? ⟨mb su, sy, none⟩ = some (.int .i64 (f : Int))) := fun X h1 h2 Qx h3 => by
          rw [HCS.out] at h1
          obtain ⟨h4, h5⟩ := HNM.out X h3.grown
          refine ⟨by rw [cell_of_row _ _ _ _ _ _ h2]; rfl, (av_cells h1).2.2.2.2.2.2.2.2.2, ?_, HR0.out X h3.grown, h4, h5⟩
          have h6 := h3.val.cell j (by omega)
          rw [hsu]
          exact h6
        have HKS : Hid (Z.cell? ⟨hb, 0, none⟩ = some (.func (.func 57) #[] #[.pointer (some ⟨bx, 0, none⟩)]) ∧ Z.cell? ⟨ab, 9, none⟩ = some (.slice (some ⟨mg, 0, none⟩) N mc1) ∧ Z.cell? ⟨tb, j, none⟩ = some (.int .i64 (su : Int)) ∧ Z.cell? ⟨rb, ro + j, none⟩ = some (.int .i64 (sy : Int)) ∧ Z.cell? ⟨mg, su, none⟩ = some (.slice (some ⟨mb su, 0, none⟩) S S) ∧ Z.cell? ⟨mb su, sy, none⟩ = some (.int .i64 (f : Int))) := HSX.out Z HAZ.out HHZ.out _ HLZ.out
        have HHA : Hid (Calls Tryz.prog 57 #[.int .i64 (f : Int), .int .i64 (k : Int), .pointer (some ⟨bx, 0, none⟩)] Z.drew fun e y => HandToldT P bx kb T tb (m + 1) (fun i => .int .i64 (stF es q (R p) i : Int)) Qn f (k : Int) Z.drew e y) := handT_any P Z.drew bx kb T tb (m + 1) _ Qn (HLZ.out.kept (grown_drewN Z 1)) f (k : Int) hfT (by have := HQN.out f; omega)
        have HAZ' : Hid (Z.drew.heap[ab]? = some (.cells cs 81 (0, 0))) := box_kept HAZ.out (grown_drewN Z 1)
        have HHZ' : Hid (Z.drew.heap[hb]? = some (.cells #[.func (.func 57) #[] #[.pointer (some ⟨bx, 0, none⟩)]] 116 (0, 0))) := box_kept HHZ.out (grown_drewN Z 1)
        have HKZ' : Hid (KeepH w Z.drew) := HKZ.out.trans (.none_ (grown_drewN Z 1))
        have HINC : Hid (inW tl tn F (stF es q (R p)) (R p) (k : Int) (j + 1) = (f, (k : Int)) :: (if F (sy - tn) then inW tl tn F (stF es q (R p)) (R p) (k : Int) j else [])) := by
          show _ = _
          rw [inW, HSY.out, if_neg (of_decide_eq_false HBT.out.symm), Int.toNat_natCast, ← hsu, hf, Int.toNat_natCast]
        have hsy0 : (0 : Int) ≤ (sy : Int) := by omega
        have hsy1 : (sy : Int) < (S : Int) := by omega
        have hsu0 : (0 : Int) ≤ (su : Int) := by omega
        have hsu1 : (su : Int) < (N : Int) := by omega
        have hj2 : (j : Int) < (m : Int) + 1 := by omega
        have hj3 : (j : Int) < ((m + 1 : Nat) : Int) := by omega
        clear hsu hf hT0 hA hne HAC K1
        go_wp2_with fail
        go_region_held3 (fun x' => x'.cell? ⟨hb, 0, none⟩ = some (.func (.func 57) #[] #[.pointer (some ⟨bx, 0, none⟩)]) ∧ x'.cell? ⟨ab, 9, none⟩ = some (.slice (some ⟨mg, 0, none⟩) N mc1) ∧ x'.cell? ⟨tb, j, none⟩ = some (.int .i64 (su : Int)) ∧ x'.cell? ⟨rb, ro + j, none⟩ = some (.int .i64 (sy : Int)) ∧ x'.cell? ⟨mg, su, none⟩ = some (.slice (some ⟨mb su, 0, none⟩) S S) ∧ x'.cell? ⟨mb su, sy, none⟩ = some (.int .i64 (f : Int))) (first | exact HKS.out | exact HKT.out | go_keep)
          ((first
            | (go_at_call 57; refine calls_at Z.drew (by with_reducible rfl) ?_; refine Calls.mono HHA.out ?_; rintro e w4 ⟨rfl, hk4, hl4⟩; have HA4 : Hid (w4.heap[ab]? = some (.cells cs 81 (0, 0))) := hk4.at HAZ'.out (by decide) (by decide); have HH4 : Hid (w4.heap[hb]? = some (.cells #[.func (.func 57) #[] #[.pointer (some ⟨bx, 0, none⟩)]] 116 (0, 0))) := hk4.at HHZ'.out (by decide) (by decide); have HL4 : Hid (LqT P w4 bx kb T (updL Qn f (addL (Qn f) (k : Int))) tb (m + 1) (fun i => .int .i64 (stF es q (R p) i : Int))) := hl4; have HK4 : Hid (KeepH w w4) := HKZ'.out.trans hk4; have HKT : Hid (w4.cell? ⟨hb, 0, none⟩ = some (.func (.func 57) #[] #[.pointer (some ⟨bx, 0, none⟩)]) ∧ w4.cell? ⟨ab, 9, none⟩ = some (.slice (some ⟨mg, 0, none⟩) N mc1) ∧ w4.cell? ⟨tb, j, none⟩ = some (.int .i64 (su : Int)) ∧ w4.cell? ⟨rb, ro + j, none⟩ = some (.int .i64 (sy : Int)) ∧ w4.cell? ⟨mg, su, none⟩ = some (.slice (some ⟨mb su, 0, none⟩) S S) ∧ w4.cell? ⟨mb su, sy, none⟩ = some (.int .i64 (f : Int))) := HSX.out w4 HA4.out HH4.out _ HL4.out; clear hk4 hl4)
            | fail))
        clear HKS HHA HAZ HHZ HKZ HAZ' HHZ' HKZ' HLZ HKT HSX
        have hA : (fun x => w4.grownBy x none) w4.drew := grown_drewN w4 1
        haveI hne : Nonempty (WBox (fun x => w4.grownBy x none)) := ⟨⟨_, hA⟩⟩
        have HAC4 : Hid (∀ X, w4.grownBy X none → X.cell? ⟨ab, 0, none⟩ = some (.slice ta tn tc) ∧ X.cell? ⟨ab, 1, none⟩ = some (.slice na nn nc) ∧ X.cell? ⟨ab, 2, none⟩ = some (.slice la ln lc) ∧ X.cell? ⟨ab, 3, none⟩ = some (.int .i64 st) ∧ X.cell? ⟨ab, 4, none⟩ = some (.slice (some ⟨pb, po, none⟩) n pc) ∧ X.cell? ⟨ab, 5, none⟩ = some (.slice (some ⟨nb, 0, none⟩) nn nn) ∧ X.cell? ⟨ab, 6, none⟩ = some (.slice sa N sc) ∧ X.cell? ⟨ab, 7, none⟩ = some (.slice xa T xc) ∧ X.cell? ⟨ab, 8, none⟩ = some (.slice l1 N lc1) ∧ X.cell? ⟨ab, 9, none⟩ = some (.slice (some ⟨mg, 0, none⟩) N mc1)) := fun X hX => av_cells (by have h := box_kept HA4.out hX; rw [HCS.out] at h; exact h)
        have g0 := fun s : WBox (fun x => w4.grownBy x none) => (HAC4.out s.w s.ok).1
        have g1 := fun s : WBox (fun x => w4.grownBy x none) => (HAC4.out s.w s.ok).2.1
        have g2 := fun s : WBox (fun x => w4.grownBy x none) => (HAC4.out s.w s.ok).2.2.1
        have g3 := fun s : WBox (fun x => w4.grownBy x none) => (HAC4.out s.w s.ok).2.2.2.1
        have g4 := fun s : WBox (fun x => w4.grownBy x none) => (HAC4.out s.w s.ok).2.2.2.2.1
        have g5 := fun s : WBox (fun x => w4.grownBy x none) => (HAC4.out s.w s.ok).2.2.2.2.2.1
        have g6 := fun s : WBox (fun x => w4.grownBy x none) => (HAC4.out s.w s.ok).2.2.2.2.2.2.1
        have g7 := fun s : WBox (fun x => w4.grownBy x none) => (HAC4.out s.w s.ok).2.2.2.2.2.2.2.1
        have g8 := fun s : WBox (fun x => w4.grownBy x none) => (HAC4.out s.w s.ok).2.2.2.2.2.2.2.2.1
        have g9 := fun s : WBox (fun x => w4.grownBy x none) => (HAC4.out s.w s.ok).2.2.2.2.2.2.2.2.2
        have r0 := fun s : WBox (fun x => w4.grownBy x none) => HR0.out s.w (grown_trans HL4.out.grown s.ok)
        obtain ⟨bv, hbv⟩ : ∃ b, b = (decide (tn ≤ sy) && F (sy - tn)) := ⟨_, rfl⟩
        have HBV := show Hid _ from hbv
        have K2 : Hid (∀ s : WBox (fun x => w4.grownBy x none), Calls Tryz.prog 58 #[.agg #[.slice ta tn tc, .slice na nn nc, .slice la ln lc, .int .i64 st, .slice (some ⟨pb, po, none⟩) n pc, .slice (some ⟨nb, 0, none⟩) nn nn, .slice sa N sc, .slice xa T xc, .slice l1 N lc1, .slice (some ⟨mg, 0, none⟩) N mc1], .int .i64 (sy : Int)] s.w fun e w' => e = .returned (.bool bv) ∧ ∃ s' : WBox (fun x => w4.grownBy x none), w' = s'.w) := fun s => calls_class ((uvan_any _ _ _ _ _ _ _ _ _ _ _ _ _ _ _ _ _ _ _ _ _ s.w _ _ _ F ((HR.out s.w (grown_trans HL4.out.grown s.ok)).nul) hnn sy (by rw [← HK.out.hS]; exact hsyS) bv HBV.out).mono fun e w' h => ⟨h.1, grown_trans s.ok h.2⟩)
        clear hbv
        go_wp2_with fail
        refine wp_region_class (p := fun x => w4.grownBy x none) (by kernel_rfl) (by kernel_rfl) hA ?_
        repeat (go_big_quiet_step (first | (go_at_call 58; rename_i s; with_reducible exact K2.out s)))
        refine wpQuiet_nil ?_
        rintro _ ⟨s4, rfl⟩
        clear g0 g1 g2 g3 g4 g5 g6 g7 g8 g9 r0 K2 HAC4
        cases bv with
        | false =>
          have HFI : Hid (F (sy - tn) = false) := by
            show _ = _
            have h := HBV.out
            rw [decide_eq_true (by have := of_decide_eq_false HBT.out.symm; omega), Bool.true_and] at h
            exact h.symm
          go_wp2_with fail
          refine bodyPost_ret (v := .tuple #[]) (by simp [results, Tryz.results60]) rfl ?_
          refine ⟨rfl, HK4.out.trans (.none_ s4.ok), ?_⟩
          rw [← HFN.out, HINC.out, HFI.out, foldQ_cons]
          exact HL4.out.kept s4.ok
        | true =>
          have HFI : Hid (F (sy - tn) = true) := by
            show _ = _
            have h := HBV.out
            rw [decide_eq_true (by have := of_decide_eq_false HBT.out.symm; omega), Bool.true_and] at h
            exact h.symm
          have hjw : IntKind.i64.wrap ((j : Int) - 1) = (j : Int) - 1 := by rw [IntKind.wrap_i64]; omega
          go_wp2_with fail
          go_roundg j
          all_goals first
            | (refine (show ∃ (j' : Nat), _ from ⟨j, by omega, rfl, by go_num, HK4.out.trans (.none_ s4.ok), updL Qn f (addL (Qn f) (k : Int)), HL4.out.kept s4.ok, ?_, fun f' => ?_⟩)
               · rw [← HFN.out, HINC.out, HFI.out, foldQ_cons]; rfl
               · have h1 := HQN.out f'
                 have h2 := HQN.out f
                 by_cases e : f' = f
                 · rw [e, updL_same]; have := addL_len (Qn f) (k : Int); omega
                 · rw [updL_other _ _ e]; omega)
            | (have := HGJ.out; omega)
end

end Go.Proofs.YthoamlahbnphkaaGreat.J
