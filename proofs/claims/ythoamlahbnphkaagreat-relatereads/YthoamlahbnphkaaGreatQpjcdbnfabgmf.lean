import Derived.Test.YthoamlahbnphkaaGreatQblfmoinlkjgk
import Derived.Test.YthoamlahbnphkaaGreatQghfhechjjjjd

/-
  relate: what is handed out, pure.
-/
namespace Go.Proofs.YthoamlahbnphkaaGreat.J
open Go.RowKit Go.Maps Go.Shelf

theorem snoc_ind {α : Type} {P : List α → Prop} (h0 : P []) (h : ∀ l x, P l → P (l ++ [x])) (l : List α) : P l := by
  have key : ∀ m : List α, P m.reverse := fun m => by
    induction m with
    | nil => exact h0
    | cons x m ih => rw [List.reverse_cons]; exact h _ _ ih
  have := key l.reverse
  rwa [List.reverse_reverse] at this
theorem addL_mem (l : List Int) (x y : Int) : y ∈ addL l x ↔ y ∈ l ∨ y = x := by
  unfold addL
  by_cases h : l.getLast? = some x
  · rw [if_pos h]
    constructor
    · exact .inl
    · rintro (h1 | rfl)
      · exact h1
      · exact List.mem_of_getLast? h
  · rw [if_neg h, List.mem_append, List.mem_singleton]
theorem last_of_asc : ∀ (l : List Int), l.Pairwise (· < ·) → ∀ x, x ∈ l → (∀ y ∈ l, y ≤ x) → l.getLast? = some x
  | [], _, x, hx, _ => by cases hx
  | [a], _, x, hx, _ => by rw [List.mem_singleton.1 hx]; rfl
  | a :: b :: l, hp, x, hx, hy => by
    rw [List.getLast?_cons_cons]
    rw [List.pairwise_cons] at hp
    rcases List.mem_cons.1 hx with rfl | hx
    · have h1 := hp.1 b (List.mem_cons_self ..)
      have h2 := hy b (by simp)
      omega
    · exact last_of_asc (b :: l) hp.2 x hx fun y h => hy y (List.mem_cons_of_mem _ h)
theorem addL_asc {l : List Int} {x : Int} (h : l.Pairwise (· < ·)) (hx : ∀ y ∈ l, y ≤ x) : (addL l x).Pairwise (· < ·) := by
  unfold addL
  by_cases e : l.getLast? = some x
  · rw [if_pos e]; exact h
  · rw [if_neg e, List.pairwise_append]
    refine ⟨h, List.pairwise_singleton _ _, fun a ha b hb => ?_⟩
    rw [List.mem_singleton.1 hb]
    have h1 := hx a ha
    have h2 : a ≠ x := fun h2 => e (last_of_asc l h x (h2 ▸ ha) hx)
    omega
/-- Lists to which numbers were handed that do not fall: they rise, and have just those. -/
theorem foldQ_spec : ∀ (l : List (Nat × Int)), (l.Pairwise fun p q => p.1 = q.1 → p.2 ≤ q.2) → ∀ f, (∀ x, x ∈ foldQ (fun _ => []) l f ↔ (f, x) ∈ l) ∧ (foldQ (fun _ => []) l f).Pairwise (· < ·) := by
  refine snoc_ind (fun _ f => ⟨fun x => by simp [foldQ], List.Pairwise.nil⟩) (fun l p ih hp f => ?_)
  rw [List.pairwise_append] at hp
  obtain ⟨h1, h2⟩ := ih hp.1 f
  rw [foldQ_snoc]
  by_cases e : f = p.1
  · subst e
    rw [updL_same]
    refine ⟨fun x => ?_, addL_asc h2 fun y hy => hp.2.2 (p.1, y) ((h1 y).1 hy) p (List.mem_singleton.2 rfl) rfl⟩
    rw [addL_mem, h1, List.mem_append, List.mem_singleton]
    constructor
    · rintro (h | h)
      · exact .inl h
      · exact .inr (by rw [h])
    · rintro (h | h)
      · exact .inl h
      · exact .inr (by rw [← h])
  · rw [updL_other _ _ e]
    refine ⟨fun x => ?_, h2⟩
    rw [h1, List.mem_append, List.mem_singleton]
    constructor
    · exact .inl
    · rintro (h | h)
      · exact h
      · exact absurd (by rw [← h]) e

theorem idx_pairwise {L : List It} (h : L.Nodup) : L.Pairwise (fun x y => L.idxOf x < L.idxOf y) := by
  rw [List.pairwise_iff_getElem]
  intro i j hi hj hij
  rw [nodup_at L h i _ (List.getElem?_eq_getElem hi), nodup_at L h j _ (List.getElem?_eq_getElem hj)]
  exact hij
theorem trI_sub {tn : Nat} {es : List (List (Nat × Nat))} {b : Nat} : ∀ {N : Nat}, b < N → (trI tn (es.getD b []) b).Sublist (trT tn es N)
  | 0, h => absurd h (Nat.not_lt_zero _)
  | N + 1, h => by
    unfold trT
    by_cases e : b < N
    · exact (trI_sub e).trans (List.sublist_append_left _ _)
    · have e2 : b = N := by omega
      subst e2
      exact List.sublist_append_right _ _
theorem trI_in {tn : Nat} {l : List (Nat × Nat)} {i : Nat} {e : Nat × Nat} (he : e ∈ l) (h : tn ≤ e.1) : ((i : Int), (e.1 : Int)) ∈ trI tn l i := by
  unfold trI
  exact List.mem_map.2 ⟨e, List.mem_filter.2 ⟨he, by simpa using h⟩, rfl⟩
theorem rdE_asc {tn N : Nat} {es : List (List (Nat × Nat))} {F : Nat → Bool} {i b : Nat} (hnd : (trT tn es N).Nodup) (hb : b < N) : (rdE (trT tn es N) tn F i b (es.getD b [])).Pairwise fun p q => p.2 < q.2 := by
  have h1 := (idx_pairwise hnd).sublist (trI_sub (tn := tn) (es := es) hb)
  unfold trI at h1
  rw [List.pairwise_map] at h1
  unfold rdE
  rw [List.pairwise_map]
  have h2 : ((es.getD b []).filter fun x => decide (tn ≤ x.1) && F (x.1 - tn)).Sublist ((es.getD b []).filter fun x => decide (tn ≤ x.1)) := by
    have e : ((es.getD b []).filter fun x => decide (tn ≤ x.1) && F (x.1 - tn)) = ((es.getD b []).filter fun x => decide (tn ≤ x.1)).filter fun x => F (x.1 - tn) := by
      rw [List.filter_filter]
      exact congrArg (fun f => List.filter f (es.getD b [])) (funext fun x => Bool.and_comm _ _)
    rw [e]
    exact List.filter_sublist
  refine (h1.sublist h2).imp_of_mem fun {x y} hx hy h => ?_
  have m : ∀ z, z ∈ (es.getD b []).filter (fun x => decide (tn ≤ x.1) && F (x.1 - tn)) → ((b : Int), (z.1 : Int)) ∈ trT tn es N := fun z hz => by
    obtain ⟨k1, k2⟩ := List.mem_filter.1 hz
    simp only [Bool.and_eq_true, decide_eq_true_eq] at k2
    exact (trI_sub hb).subset (trI_in k1 k2.1)
  unfold nmF
  rw [if_pos (m x hx), if_pos (m y hy)]
  omega
theorem mem_rdE {tl : List It} {tn : Nat} {F : Nat → Bool} {i b : Nat} {l : List (Nat × Nat)} {p : Nat × Int} : p ∈ rdE tl tn F i b l ↔ p.1 = i ∧ ∃ e ∈ l, tn ≤ e.1 ∧ F (e.1 - tn) = true ∧ p.2 = nmF tl b e.1 := by
  unfold rdE
  rw [List.mem_map]
  constructor
  · rintro ⟨e, he, rfl⟩
    obtain ⟨h1, h2⟩ := List.mem_filter.1 he
    simp only [Bool.and_eq_true, decide_eq_true_eq] at h2
    exact ⟨rfl, e, h1, h2.1, h2.2, rfl⟩
  · rintro ⟨h0, e, h1, h2, h3, h4⟩
    refine ⟨e, List.mem_filter.2 ⟨h1, by simp [h2, h3]⟩, ?_⟩
    rw [← h0, ← h4]
theorem mem_rdT {es : List (List (Nat × Nat))} {tl : List It} {tn : Nat} {F : Nat → Bool} {p : Nat × Int} : ∀ {k : Nat}, p ∈ rdT es tl tn F k ↔ p.1 < k ∧ p ∈ rdE tl tn F p.1 (bhF es (tl.getD p.1 (0, 0))) (es.getD (bhF es (tl.getD p.1 (0, 0))) [])
  | 0 => by simp [rdT]
  | k + 1 => by
    rw [rdT, List.mem_append, mem_rdT]
    constructor
    · rintro (⟨h1, h2⟩ | h)
      · exact ⟨by omega, h2⟩
      · have e := (mem_rdE.1 h).1
        rw [e]
        exact ⟨Nat.lt_succ_self _, h⟩
    · rintro ⟨h1, h2⟩
      by_cases e : p.1 < k
      · exact .inl ⟨e, h2⟩
      · have e2 : p.1 = k := by omega
        rw [e2] at h2
        exact .inr h2
theorem rdT_asc {tn N : Nat} {es : List (List (Nat × Nat))} {F : Nat → Bool} (hnd : (trT tn es N).Nodup) (hb : ∀ k, k < (trT tn es N).length → bhF es ((trT tn es N).getD k (0, 0)) < N) : ∀ k, k ≤ (trT tn es N).length → (rdT es (trT tn es N) tn F k).Pairwise fun p q => p.1 = q.1 → p.2 ≤ q.2
  | 0, _ => List.Pairwise.nil
  | k + 1, hk => by
    rw [rdT, List.pairwise_append]
    refine ⟨rdT_asc hnd hb k (by omega), (rdE_asc (F := F) (i := k) hnd (hb k (by omega))).imp (S := fun (p q : Nat × Int) => p.1 = q.1 → p.2 ≤ q.2) fun h _ => Int.le_of_lt h, fun p hp q hq e => ?_⟩
    have h1 := (mem_rdT.1 hp).1
    have h2 := (mem_rdE.1 hq).1
    omega
/-- P11.1. -/
theorem reads_spec {tn N : Nat} {es : List (List (Nat × Nat))} {F : Nat → Bool} (hnd : (trT tn es N).Nodup) (hb : ∀ k, k < (trT tn es N).length → bhF es ((trT tn es N).getD k (0, 0)) < N) (i : Nat) (hi : i < (trT tn es N).length) :
    (foldQ (fun _ => []) (rdT es (trT tn es N) tn F (trT tn es N).length) i).Pairwise (· < ·) ∧ (∀ x ∈ foldQ (fun _ => []) (rdT es (trT tn es N) tn F (trT tn es N).length) i, 0 ≤ x ∧ x < ((trT tn es N).length : Int)) ∧ ∀ k q s : Nat, (trT tn es N)[k]? = some ((q : Int), (s : Int)) → ((k : Int) ∈ foldQ (fun _ => []) (rdT es (trT tn es N) tn F (trT tn es N).length) i ↔ q = bhF es ((trT tn es N).getD i (0, 0)) ∧ F (s - tn) = true) := by
  obtain ⟨h1, h2⟩ := foldQ_spec _ (rdT_asc (F := F) hnd hb _ (Nat.le_refl _)) i
  have at' : ∀ (b : Nat) (e : Nat × Nat), b < N → e ∈ es.getD b [] → tn ≤ e.1 → ∃ j : Nat, (trT tn es N)[j]? = some ((b : Int), (e.1 : Int)) ∧ nmF (trT tn es N) b e.1 = (j : Int) ∧ j < (trT tn es N).length := fun b e h3 h4 h5 => by
    obtain ⟨j, hj, h6⟩ := List.getElem_of_mem ((trI_sub h3).subset (trI_in h4 h5))
    have h7 : (trT tn es N)[j]? = some ((b : Int), (e.1 : Int)) := by rw [List.getElem?_eq_getElem hj, h6]
    exact ⟨j, h7, nmF_at hnd h7, hj⟩
  refine ⟨h2, fun x hx => ?_, fun k q s hk => ?_⟩
  · obtain ⟨_, h4⟩ := mem_rdT.1 ((h1 x).1 hx)
    obtain ⟨_, e, h5, h6, _, h7⟩ := mem_rdE.1 h4
    obtain ⟨j, _, h9, h10⟩ := at' _ e (hb i hi) h5 h6
    simp only at h7
    rw [h7, h9]
    omega
  · rw [h1, mem_rdT]
    constructor
    · rintro ⟨_, h4⟩
      obtain ⟨_, e, h5, h6, h8, h7⟩ := mem_rdE.1 h4
      obtain ⟨j, h9, h10, _⟩ := at' _ e (hb i hi) h5 h6
      simp only at h7
      rw [h10] at h7
      have h11 : k = j := by omega
      subst h11
      rw [hk] at h9
      simp only [Option.some.injEq, Prod.mk.injEq] at h9
      refine ⟨by omega, ?_⟩
      have : s = e.1 := by omega
      rw [this]; exact h8
    · rintro ⟨h3, h4⟩
      refine ⟨hi, mem_rdE.2 ⟨rfl, ?_⟩⟩
      obtain ⟨q', h5, e, h6, h7, h8⟩ := trT_mem (List.mem_of_getElem? hk)
      simp only [Prod.mk.injEq] at h8
      have e1 : q = q' := by omega
      have e2 : s = e.1 := by omega
      subst e1
      rw [← h3]
      refine ⟨e, h6, h7, by rw [← e2]; exact h4, ?_⟩
      rw [← e2]
      exact (nmF_at hnd hk).symm

/-- What is handed out of one way, from the place i on towards the beginning. -/
def inW (tl : List It) (tn : Nat) (F : Nat → Bool) (sf : Nat → Nat) (row : List Int) (zt : Int) : Nat → List (Nat × Int)
  | 0 => []
  | i + 1 => if row.getD i 0 < (tn : Int) then [] else ((nmF tl (sf i) (row.getD i 0).toNat).toNat, zt) :: (if F ((row.getD i 0).toNat - tn) then inW tl tn F sf row zt i else [])
theorem mem_inW {tl : List It} {tn : Nat} {F : Nat → Bool} {sf : Nat → Nat} {row : List Int} {zt : Int} {p : Nat × Int} : ∀ {i : Nat}, p ∈ inW tl tn F sf row zt i ↔ p.2 = zt ∧ ∃ j, j < i ∧ (tn : Int) ≤ row.getD j 0 ∧ p.1 = (nmF tl (sf j) (row.getD j 0).toNat).toNat ∧ ∀ m, j < m → m < i → (tn : Int) ≤ row.getD m 0 ∧ F ((row.getD m 0).toNat - tn) = true
  | 0 => by simp [inW]
  | i + 1 => by
    rw [inW]
    by_cases h : row.getD i 0 < (tn : Int)
    · rw [if_pos h]
      constructor
      · intro h1; cases h1
      · rintro ⟨_, j, h1, h2, _, h4⟩
        by_cases e : j = i
        · subst e; omega
        · have := (h4 i (by omega) (by omega)).1
          omega
    · rw [if_neg h, List.mem_cons]
      constructor
      · rintro (h1 | h1)
        · rw [h1]
          exact ⟨rfl, i, Nat.lt_succ_self _, by omega, rfl, fun m h2 h3 => by omega⟩
        · by_cases hF : F ((row.getD i 0).toNat - tn) = true
          · rw [if_pos hF] at h1
            obtain ⟨h2, j, h3, h4, h5, h6⟩ := mem_inW.1 h1
            refine ⟨h2, j, by omega, h4, h5, fun m h7 h8 => ?_⟩
            by_cases e : m = i
            · subst e; exact ⟨by omega, hF⟩
            · exact h6 m h7 (by omega)
          · rw [if_neg hF] at h1; cases h1
      · rintro ⟨h1, j, h2, h3, h4, h5⟩
        by_cases e : j = i
        · subst e
          left
          exact Prod.ext h4 h1
        · right
          rw [if_pos (h5 i (by omega) (by omega)).2]
          exact mem_inW.2 ⟨h1, j, by omega, h3, h4, fun m h7 h8 => h5 m h7 (by omega)⟩
theorem inW_len (tl : List It) (tn : Nat) (F : Nat → Bool) (sf : Nat → Nat) (row : List Int) (zt : Int) : ∀ i, (inW tl tn F sf row zt i).length ≤ i
  | 0 => by simp [inW]
  | i + 1 => by
    have h := inW_len tl tn F sf row zt i
    rw [inW]
    split
    · simp
    · rw [List.length_cons]
      split
      · omega
      · simp
/-- What is handed out of a transition, by the productions below p. -/
def inK (es : List (List (Nat × Nat))) (tl : List It) (tn : Nat) (F : Nat → Bool) (L : Nat → Int) (R : Nat → List Int) (k : Nat) : Nat → List (Nat × Int)
  | 0 => []
  | p + 1 => inK es tl tn F L R k p ++ (if L p = (tl.getD k (0, 0)).2 then inW tl tn F (stF es (tl.getD k (0, 0)).1.toNat (R p)) (R p) (k : Int) (R p).length else [])
/-- .. of the transitions below k, by n productions. -/
def inT (es : List (List (Nat × Nat))) (tl : List It) (tn : Nat) (F : Nat → Bool) (n : Nat) (L : Nat → Int) (R : Nat → List Int) : Nat → List (Nat × Int)
  | 0 => []
  | k + 1 => inT es tl tn F n L R k ++ inK es tl tn F L R k n
theorem mem_inK {es : List (List (Nat × Nat))} {tl : List It} {tn : Nat} {F : Nat → Bool} {L : Nat → Int} {R : Nat → List Int} {k : Nat} {x : Nat × Int} : ∀ {p : Nat}, x ∈ inK es tl tn F L R k p ↔ ∃ p', p' < p ∧ L p' = (tl.getD k (0, 0)).2 ∧ x ∈ inW tl tn F (stF es (tl.getD k (0, 0)).1.toNat (R p')) (R p') (k : Int) (R p').length
  | 0 => by simp [inK]
  | p + 1 => by
    rw [inK, List.mem_append, mem_inK]
    constructor
    · rintro (⟨p', h1, h2⟩ | h)
      · exact ⟨p', by omega, h2⟩
      · by_cases e : L p = (tl.getD k (0, 0)).2
        · rw [if_pos e] at h; exact ⟨p, Nat.lt_succ_self _, e, h⟩
        · rw [if_neg e] at h; cases h
    · rintro ⟨p', h1, h2, h3⟩
      by_cases e : p' = p
      · subst e; right; rw [if_pos h2]; exact h3
      · exact .inl ⟨p', by omega, h2, h3⟩
theorem mem_inT {es : List (List (Nat × Nat))} {tl : List It} {tn : Nat} {F : Nat → Bool} {n : Nat} {L : Nat → Int} {R : Nat → List Int} {x : Nat × Int} : ∀ {k : Nat}, x ∈ inT es tl tn F n L R k ↔ ∃ k', k' < k ∧ x.2 = (k' : Int) ∧ x ∈ inK es tl tn F L R k' n
  | 0 => by simp [inT]
  | k + 1 => by
    have snd : ∀ {y : Nat × Int} {k' : Nat}, y ∈ inK es tl tn F L R k' n → y.2 = (k' : Int) := fun h => by
      obtain ⟨p', _, _, h3⟩ := mem_inK.1 h
      exact (mem_inW.1 h3).1
    rw [inT, List.mem_append, mem_inT]
    constructor
    · rintro (⟨k', h1, h2⟩ | h)
      · exact ⟨k', by omega, h2⟩
      · exact ⟨k, Nat.lt_succ_self _, snd h, h⟩
    · rintro ⟨k', h1, h2, h3⟩
      by_cases e : k' = k
      · subst e; exact .inr h3
      · exact .inl ⟨k', by omega, h2, h3⟩
theorem inK_snd {es : List (List (Nat × Nat))} {tl : List It} {tn : Nat} {F : Nat → Bool} {n : Nat} {L : Nat → Int} {R : Nat → List Int} {k : Nat} {y : Nat × Int} (h : y ∈ inK es tl tn F L R k n) : y.2 = (k : Int) := by
  obtain ⟨p', _, _, h3⟩ := mem_inK.1 h
  exact (mem_inW.1 h3).1
theorem inT_asc {es : List (List (Nat × Nat))} {tl : List It} {tn : Nat} {F : Nat → Bool} {n : Nat} {L : Nat → Int} {R : Nat → List Int} : ∀ k, (inT es tl tn F n L R k).Pairwise fun p q => p.1 = q.1 → p.2 ≤ q.2
  | 0 => List.Pairwise.nil
  | k + 1 => by
    rw [inT, List.pairwise_append]
    refine ⟨inT_asc k, ?_, fun p hp q hq _ => ?_⟩
    · refine List.Pairwise.imp_of_mem (R := fun _ _ => True) (fun {p q} hp hq _ _ => ?_) (List.pairwise_of_forall (fun _ _ => trivial))
      rw [inK_snd hp, inK_snd hq]; exact Int.le_refl _
    · obtain ⟨k', h1, h2, _⟩ := mem_inT.1 hp
      rw [h2, inK_snd hq]
      omega
theorem inK_len {es : List (List (Nat × Nat))} {tl : List It} {tn : Nat} {F : Nat → Bool} {L : Nat → Int} {R : Nat → List Int} {k c : Nat} (h : ∀ p, (R p).length ≤ c) : ∀ p, (inK es tl tn F L R k p).length ≤ p * c
  | 0 => by simp [inK]
  | p + 1 => by
    have h1 := inK_len (es := es) (tl := tl) (tn := tn) (F := F) (L := L) (k := k) h p
    rw [inK, List.length_append, Nat.succ_mul]
    have h2 : (if L p = (tl.getD k (0, 0)).2 then inW tl tn F (stF es (tl.getD k (0, 0)).1.toNat (R p)) (R p) (k : Int) (R p).length else []).length ≤ c := by
      split
      · exact Nat.le_trans (inW_len ..) (h p)
      · simp
    omega

end Go.Proofs.YthoamlahbnphkaaGreat.J

/-
  trans: the ways of Rights and Lefts, pure (TRightsM, over fewer imports).
-/
namespace Go.Proofs.YthoamlahbnphkaaGreat.J
open Go.RowKit Go.Maps Go.Shelf

/-- A kernel of a state but the first has begun items alone. -/
def PB (n : Nat) (R : Nat → List Int) (j : Nat) (k : List It) : Prop := PJ n R j k ∧ (j = 0 ∨ ∀ x ∈ k, 0 < x.2)
theorem CLo_item {tn n : Nat} {L : Nat → Int} {R : Nat → List Int} {k : List It} (hk : ∀ x ∈ k, itB n R x = true) : ∀ x ∈ CLo tn n L R k, itB n R x = true := by
  unfold CLo
  by_cases hh : ∃ l, IsClo tn n L R k l ∧ l.length ≤ k.length + 13000
  · rw [dif_pos hh]
    have h1 := Classical.choose_spec hh
    exact fun x hx => ((h1.1.mem x).1 hx).item hk
  · rw [dif_neg hh]
    exact fun x hx => absurd hx (by simp)
theorem mem_GG {tn n : Nat} {L : Nat → Int} {R : Nat → List Int} {k : List It} {s : Nat} {x : It} : x ∈ GG tn n L R k s ↔ ∃ y ∈ CLo tn n L R k, aheadV R y = (s : Int) ∧ (y.1, y.2 + 1) = x := by
  unfold GG kerT
  rw [List.mem_map]
  constructor
  · rintro ⟨y, hy, rfl⟩
    obtain ⟨h1, h2⟩ := List.mem_filter.1 hy
    exact ⟨y, h1, by simpa using h2, rfl⟩
  · rintro ⟨y, hy, h, rfl⟩
    exact ⟨y, List.mem_filter.2 ⟨hy, by simpa using h⟩, rfl⟩
theorem PB.GG {tn n : Nat} {L : Nat → Int} {R : Nat → List Int} {i m : Nat} {k : List It} (s : Nat) (h : PB n R i k) (hm : i < m) : PB n R m (GG tn n L R k s) := by
  refine ⟨h.1.GG s hm, .inr fun x hx => ?_⟩
  obtain ⟨y, hy, _, rfl⟩ := mem_GG.1 hx
  have h1 := CLo_item h.1.1 y hy
  unfold itB at h1
  simp only [Bool.and_eq_true, decide_eq_true_eq] at h1
  simp only
  omega
theorem begun_state {tn nn n : Nat} {L : Nat → Int} {R : Nat → List Int} (hn0 : 0 < n) {ks : List (List It)} {es : List (List (Nat × Nat))} (h : autoF (GG tn n L R) (tn + nn) 256 = some (ks, es)) {q : Nat} (hq : q < ks.length) : q = 0 ∨ ∀ x ∈ ks.getD q [], 0 < x.2 :=
  ((autoOK (P := PB n R) ⟨⟨fun x hx => by
    rw [List.mem_singleton.1 hx]
    unfold itB
    simp only [Bool.and_eq_true, decide_eq_true_eq]
    exact ⟨⟨⟨by omega, by omega⟩, by omega⟩, by omega⟩, by simp⟩, .inl rfl⟩ (fun _ _ _ s hp hm => hp.GG s hm) 256 h).kok.each q hq).2

section
variable {tn nn n : Nat} {L : Nat → Int} {R : Nat → List Int} {ks : List (List It)} {es : List (List (Nat × Nat))}
theorem edge_of (h : AutF (GG tn n L R) n R (tn + nn) ks es) {q s : Nat} (hq : q < ks.length) (hs : s < tn + nn) (hk : GG tn n L R (ks.getD q []) s ≠ []) : ∃ t : Nat, t < ks.length ∧ leadA es ((q : Int), (s : Int)) = some (t : Int) ∧ ks.getD t [] = GG tn n L R (ks.getD q []) s := by
  have h1 : s ∈ (es.getD q []).map Prod.fst := by rw [h.fst q hq]; exact mem_symsT.2 ⟨hs, hk⟩
  obtain ⟨e, he, rfl⟩ := List.mem_map.1 h1
  obtain ⟨t, h2, e', he', h3, h4⟩ := nextL_some he
  obtain ⟨_, h5, h6⟩ := h.snd q hq e' he'
  refine ⟨t, by rw [← h4]; exact h5, by rw [leadA_at es (by rw [h.len]; exact hq)]; exact h2, ?_⟩
  rw [← h4, h6, h3]
theorem no_edge (h : AutF (GG tn n L R) n R (tn + nn) ks es) {q s : Nat} (hq : q < ks.length) (hk : GG tn n L R (ks.getD q []) s = []) : leadA es ((q : Int), (s : Int)) = none := by
  rw [leadA_at es (by rw [h.len]; exact hq)]
  cases hn : nextL (es.getD q []) (s : Int) with
  | none => rfl
  | some v =>
    obtain ⟨x, hx, h1, _⟩ := nextL_mem hn
    have h2 : x.1 ∈ (es.getD q []).map Prod.fst := List.mem_map.2 ⟨x, hx, rfl⟩
    rw [h.fst q hq] at h2
    have h3 := (mem_symsT.1 h2).2
    rw [show x.1 = s by omega] at h3
    exact absurd hk h3
/-- An item that is not completed goes on. -/
theorem goes_on (h : AutF (GG tn n L R) n R (tn + nn) ks es) (hR : ∀ k, k < n → ∀ x ∈ R k, (0 : Int) < x ∧ x < ((tn + nn : Nat) : Int)) {q P d : Nat} (hq : q < ks.length) (hP : P < n) (hd : d < (R P).length) (hx : ((P : Int), (d : Int)) ∈ CLo tn n L R (ks.getD q [])) : ∃ t : Nat, t < ks.length ∧ leadA es ((q : Int), (R P).getD d 0) = some (t : Int) ∧ ((P : Int), ((d + 1 : Nat) : Int)) ∈ ks.getD t [] := by
  have hm : (R P).getD d 0 ∈ R P := by
    generalize R P = l at hd ⊢
    rw [List.getD_eq_getElem?_getD, List.getElem?_eq_getElem hd]; exact List.getElem_mem hd
  have h1 := hR P hP _ hm
  obtain ⟨s, hs⟩ : ∃ s : Nat, (R P).getD d 0 = (s : Int) := ⟨((R P).getD d 0).toNat, by omega⟩
  have ha : aheadV R ((P : Int), (d : Int)) = (s : Int) := by
    unfold aheadV
    rw [if_neg (by simp only [Int.toNat_natCast]; omega)]
    simp only [Int.toNat_natCast]
    exact hs
  have hg : ((P : Int), ((d + 1 : Nat) : Int)) ∈ GG tn n L R (ks.getD q []) s := mem_GG.2 ⟨_, hx, ha, by simp⟩
  obtain ⟨t, h2, h3, h4⟩ := edge_of (s := s) h hq (by rw [hs] at h1; omega) (fun e => by rw [e] at hg; cases hg)
  exact ⟨t, h2, by rw [hs]; exact h3, by rw [h4]; exact hg⟩
/-- A Right leads where it is completed. -/
theorem right_way (h : AutF (GG tn n L R) n R (tn + nn) ks es) (hR : ∀ k, k < n → ∀ x ∈ R k, (0 : Int) < x ∧ x < ((tn + nn : Nat) : Int)) (hCl : ∀ q, q < ks.length → IsClo tn n L R (ks.getD q []) (CLo tn n L R (ks.getD q []))) {q P : Nat} (hq : q < ks.length) (hP : P < n) (hx : ((P : Int), (0 : Int)) ∈ CLo tn n L R (ks.getD q [])) : ∀ d, d ≤ (R P).length → ∃ t : Nat, t < ks.length ∧ wayF es (some (q : Int)) ((R P).take d) = some (t : Int) ∧ ((P : Int), (d : Int)) ∈ CLo tn n L R (ks.getD t [])
  | 0, _ => ⟨q, hq, rfl, hx⟩
  | d + 1, hd => by
    obtain ⟨t, h1, h2, h3⟩ := right_way h hR hCl hq hP hx d (by omega)
    obtain ⟨u, h4, h5, h6⟩ := goes_on h hR h1 hP (by omega) h3
    refine ⟨u, h4, ?_, ((hCl u h4).mem _).2 (Clo.base h6)⟩
    rw [wayF_take es (by omega), h2]
    exact h5
/-- A Left leads somewhere. -/
theorem left_edge (h : AutF (GG tn n L R) n R (tn + nn) ks es) (hb : ∀ q, q < ks.length → q = 0 ∨ ∀ x ∈ ks.getD q [], 0 < x.2) (hCl : ∀ q, q < ks.length → IsClo tn n L R (ks.getD q []) (CLo tn n L R (ks.getD q []))) (hL : ∀ k, k < n → (tn : Int) ≤ L k ∧ L k < ((tn + nn : Nat) : Int)) {q P : Nat} (hq : q < ks.length) (hP : P < n) (hP0 : P ≠ 0) (hx : ((P : Int), (0 : Int)) ∈ CLo tn n L R (ks.getD q [])) : ∃ t : Nat, t < ks.length ∧ leadA es ((q : Int), L P) = some (t : Int) := by
  have key : ∀ y, Clo tn n L R (ks.getD q []) y → y ∈ CLo tn n L R (ks.getD q []) ∧ (y.2 = 0 → y.1 ≠ 0 → ∃ z ∈ CLo tn n L R (ks.getD q []), aheadV R z = L y.1.toNat) := fun y hy => hy (fun y => y ∈ CLo tn n L R (ks.getD q []) ∧ (y.2 = 0 → y.1 ≠ 0 → ∃ z ∈ CLo tn n L R (ks.getD q []), aheadV R z = L y.1.toNat))
    (fun y hy => ⟨((hCl q hq).mem y).2 (Clo.base hy), fun h1 h2 => by
      rcases hb q hq with h3 | h3
      · subst h3
        rw [h.head] at hy
        rw [List.mem_singleton.1 hy] at h2
        exact absurd rfl h2
      · have := h3 y hy
        omega⟩)
    (fun y k hy ht hk hl => ⟨((hCl q hq).mem _).2 ((((hCl q hq).mem y).1 hy.1).step ht hk hl), fun _ _ => ⟨y, hy.1, by simp only [Int.toNat_natCast]; exact hl.symm⟩⟩)
  obtain ⟨_, h1⟩ := key _ (((hCl q hq).mem _).1 hx)
  obtain ⟨z, hz, h2⟩ := h1 rfl (by simp only; omega)
  simp only [Int.toNat_natCast] at h2
  have h3 := hL P hP
  obtain ⟨s, hs⟩ : ∃ s : Nat, L P = (s : Int) := ⟨(L P).toNat, by omega⟩
  have hg : (z.1, z.2 + 1) ∈ GG tn n L R (ks.getD q []) s := mem_GG.2 ⟨z, hz, by rw [h2, hs], rfl⟩
  obtain ⟨t, h4, h5, _⟩ := edge_of (s := s) h hq (by rw [hs] at h3; omega) (fun e => by rw [e] at hg; cases hg)
  exact ⟨t, h4, by rw [hs]; exact h5⟩
/-- The added one leads nowhere. -/
theorem left_none (h : AutF (GG tn n L R) n R (tn + nn) ks es) (hNo : ∀ k, k < n → ∀ x ∈ R k, x ≠ (tn : Int)) {q : Nat} (hq : q < ks.length) : leadA es ((q : Int), (tn : Int)) = none := by
  refine no_edge h hq (List.eq_nil_iff_forall_not_mem.2 fun x hx => ?_)
  obtain ⟨y, hy, h1, _⟩ := mem_GG.1 hx
  have h2 := CLo_item (h.kok.each q hq).1 y hy
  unfold itB at h2
  simp only [Bool.and_eq_true, decide_eq_true_eq] at h2
  obtain ⟨⟨⟨a1, a2⟩, a3⟩, a4⟩ := h2
  unfold aheadV at h1
  by_cases e : y.2 = ((R y.1.toNat).length : Int)
  · rw [if_pos e] at h1; omega
  · rw [if_neg e] at h1
    have hl : y.2.toNat < (R y.1.toNat).length := by omega
    refine hNo y.1.toNat (by omega) ((R y.1.toNat).getD y.2.toNat 0) ?_ h1
    generalize R y.1.toNat = l at hl ⊢
    rw [List.getD_eq_getElem?_getD, List.getElem?_eq_getElem hl]; exact List.getElem_mem hl
end
/-- The added nonterminal stands in no Right. -/
theorem no_added {ts : List (ByteArray × Int)} {ns : List ByteArray} {lv : List Int} {st : Int} {n : Nat} {L : Nat → Int} {R : Nat → List Int} {V : Nat → Int} (h : closedOK ts ns lv st n L R V) : ∀ k, k < n → ∀ x ∈ R k, x ≠ (ts.length : Int) := by
  obtain ⟨ha, hf⟩ := h
  have hs := hf.start
  unfold isNonI at hs
  intro k hk x hx
  by_cases h0 : k = 0
  · subst h0
    rw [ha.right] at hx
    simp at hx
    omega
  · have := (hf.prods k (by omega) hk).2.2 x hx
    unfold isSymI isNonI at this
    omega

end Go.Proofs.YthoamlahbnphkaaGreat.J

/-
  relate: what includes what, pure.
-/
namespace Go.Proofs.YthoamlahbnphkaaGreat.J
open Go.RowKit Go.Maps Go.Shelf

theorem nmF_range {l : List It} (h : 0 < l.length) (q s : Nat) : 0 ≤ nmF l q s ∧ nmF l q s < (l.length : Int) := by
  unfold nmF
  split
  · rename_i h1
    have := List.idxOf_lt_length_iff.2 h1
    omega
  · omega

section
variable {tn nn n : Nat} {L : Nat → Int} {R : Nat → List Int} {ks : List (List It)} {es : List (List (Nat × Nat))}
/-- The states of a Right, from one that has the production begun. -/
theorem right_st (h : AutF (GG tn n L R) n R (tn + nn) ks es) (hR : ∀ k, k < n → ∀ x ∈ R k, (0 : Int) < x ∧ x < ((tn + nn : Nat) : Int)) (hCl : ∀ q, q < ks.length → IsClo tn n L R (ks.getD q []) (CLo tn n L R (ks.getD q []))) {q P : Nat} (hq : q < ks.length) (hP : P < n) (hx : ((P : Int), (0 : Int)) ∈ CLo tn n L R (ks.getD q [])) : ∀ d, d ≤ (R P).length → stF es q (R P) d < ks.length ∧ wayF es (some (q : Int)) ((R P).take d) = some (stF es q (R P) d : Int) ∧ ((P : Int), (d : Int)) ∈ CLo tn n L R (ks.getD (stF es q (R P) d) [])
  | 0, _ => ⟨hq, rfl, hx⟩
  | d + 1, hd => by
    obtain ⟨h1, h2, h3⟩ := right_st h hR hCl hq hP hx d (by omega)
    obtain ⟨u, h4, h5, h6⟩ := goes_on h hR h1 hP (by omega) h3
    have hm : (R P).getD d 0 ∈ R P := by
      have hd' : d < (R P).length := by omega
      generalize R P = l at hd' ⊢
      rw [List.getD_eq_getElem?_getD, List.getElem?_eq_getElem hd']; exact List.getElem_mem hd'
    have h7 := hR P hP _ hm
    have e1 : stF es q (R P) (d + 1) = u := by
      rw [leadA_at es (by rw [h.len]; exact h1)] at h5
      rw [stF]
      unfold ldF
      rw [show (((R P).getD d 0).toNat : Int) = (R P).getD d 0 by omega, h5]
      rfl
    refine ⟨by rw [e1]; exact h4, ?_, by rw [e1]; exact ((hCl u h4).mem _).2 (Clo.base h6)⟩
    rw [wayF_take es (by omega), h2, e1]
    exact h5
/-- From a transition's state its productions are begun. -/
theorem tr_begun (h : AutF (GG tn n L R) n R (tn + nn) ks es) (hCl : ∀ q, q < ks.length → IsClo tn n L R (ks.getD q []) (CLo tn n L R (ks.getD q []))) {q s P : Nat} (hx : ((q : Int), (s : Int)) ∈ trT tn es ks.length) (hP : P < n) (hL : L P = (s : Int)) : q < ks.length ∧ ((P : Int), (0 : Int)) ∈ CLo tn n L R (ks.getD q []) := by
  obtain ⟨q', h1, e, h2, h3, h4⟩ := trT_mem hx
  simp only [Prod.mk.injEq] at h4
  have e1 : q = q' := by omega
  have e2 : s = e.1 := by omega
  subst e1
  refine ⟨h1, ?_⟩
  have h5 : e.1 ∈ (es.getD q []).map Prod.fst := List.mem_map.2 ⟨e, h2, rfl⟩
  rw [h.fst q h1] at h5
  obtain ⟨x, hx2⟩ := List.exists_mem_of_ne_nil _ (mem_symsT.1 h5).2
  obtain ⟨y, hy, h6, _⟩ := mem_GG.1 hx2
  refine ((hCl q h1).mem _).2 ((((hCl q h1).mem y).1 hy).step (by rw [h6]; omega) hP (by rw [h6, hL, e2]))
/-- What stands on the way is a transition, if it is a nonterminal. -/
theorem way_tr (h : AutF (GG tn n L R) n R (tn + nn) ks es) (hR : ∀ k, k < n → ∀ x ∈ R k, (0 : Int) < x ∧ x < ((tn + nn : Nat) : Int)) (hCl : ∀ q, q < ks.length → IsClo tn n L R (ks.getD q []) (CLo tn n L R (ks.getD q []))) {q P d : Nat} (hq : q < ks.length) (hP : P < n) (hx : ((P : Int), (0 : Int)) ∈ CLo tn n L R (ks.getD q [])) (hd : d < (R P).length) (ht : (tn : Int) ≤ (R P).getD d 0) : ((stF es q (R P) d : Int), (R P).getD d 0) ∈ trT tn es ks.length := by
  obtain ⟨h1, h2, h3⟩ := right_st h hR hCl hq hP hx d (by omega)
  obtain ⟨u, h4, h5, h6⟩ := goes_on h hR h1 hP hd h3
  rw [leadA_at es (by rw [h.len]; exact h1)] at h5
  obtain ⟨e, he, h7, _⟩ := nextL_mem h5
  have h8 := (trI_sub (tn := tn) (es := es) h1).subset (trI_in he (by omega))
  rw [h7] at h8
  exact h8
/-- P11.2. -/
theorem includes_spec {F : Nat → Bool} (h : AutF (GG tn n L R) n R (tn + nn) ks es) (hR : ∀ k, k < n → ∀ x ∈ R k, (0 : Int) < x ∧ x < ((tn + nn : Nat) : Int)) (hCl : ∀ q, q < ks.length → IsClo tn n L R (ks.getD q []) (CLo tn n L R (ks.getD q []))) (hnd : (trT tn es ks.length).Nodup) (i : Nat) :
    (foldQ (fun _ => []) (inT es (trT tn es ks.length) tn F n L R (trT tn es ks.length).length) i).Pairwise (· < ·) ∧ (∀ x ∈ foldQ (fun _ => []) (inT es (trT tn es ks.length) tn F n L R (trT tn es ks.length).length) i, 0 ≤ x ∧ x < ((trT tn es ks.length).length : Int)) ∧ ∀ qi si k qk sk : Nat, (trT tn es ks.length)[i]? = some ((qi : Int), (si : Int)) → (trT tn es ks.length)[k]? = some ((qk : Int), (sk : Int)) → ((k : Int) ∈ foldQ (fun _ => []) (inT es (trT tn es ks.length) tn F n L R (trT tn es ks.length).length) i ↔ ∃ P, P < n ∧ L P = (sk : Int) ∧ ∃ j, j < (R P).length ∧ (R P).getD j 0 = (si : Int) ∧ wayF es (some (qk : Int)) ((R P).take j) = some (qi : Int) ∧ ∀ m, j < m → m < (R P).length → (tn : Int) ≤ (R P).getD m 0 ∧ F (((R P).getD m 0).toNat - tn) = true) := by
  obtain ⟨h1, h2⟩ := foldQ_spec _ (inT_asc (es := es) (tl := trT tn es ks.length) (tn := tn) (F := F) (n := n) (L := L) (R := R) (trT tn es ks.length).length) i
  refine ⟨h2, fun x hx => ?_, fun qi si k qk sk hti htk => ?_⟩
  · obtain ⟨k', h3, h4, _⟩ := mem_inT.1 ((h1 x).1 hx)
    simp only at h4
    omega
  · have hkl : k < (trT tn es ks.length).length := by
      by_cases e : k < (trT tn es ks.length).length
      · exact e
      · rw [List.getElem?_eq_none (by omega)] at htk; cases htk
    have hgk : (trT tn es ks.length).getD k (0, 0) = ((qk : Int), (sk : Int)) := by rw [List.getD_eq_getElem?_getD, htk]; rfl
    rw [h1, mem_inT]
    constructor
    · rintro ⟨k', h3, h4, h5⟩
      simp only at h4
      have e1 : k' = k := by omega
      subst e1
      obtain ⟨P, h6, h7, h8⟩ := mem_inK.1 h5
      rw [hgk] at h7 h8
      simp only [Int.toNat_natCast] at h7 h8
      obtain ⟨_, j, h9, h10, h11, h12⟩ := mem_inW.1 h8
      obtain ⟨b1, b2⟩ := tr_begun h hCl (List.mem_of_getElem? htk) h6 h7
      obtain ⟨w1, w2, w3⟩ := right_st h hR hCl b1 h6 b2 j (by omega)
      have h13 := way_tr h hR hCl b1 h6 b2 h9 h10
      obtain ⟨s, hs⟩ : ∃ s : Nat, (R P).getD j 0 = (s : Int) := ⟨((R P).getD j 0).toNat, by omega⟩
      rw [hs] at h13 h11
      rw [Int.toNat_natCast] at h11
      obtain ⟨m, hm, h14⟩ := List.getElem_of_mem h13
      have h15 : (trT tn es ks.length)[m]? = some ((stF es qk (R P) j : Int), (s : Int)) := by rw [List.getElem?_eq_getElem hm, h14]
      rw [nmF_at hnd h15, Int.toNat_natCast] at h11
      simp only at h11
      subst h11
      rw [hti] at h15
      simp only [Option.some.injEq, Prod.mk.injEq] at h15
      exact ⟨P, h6, h7, j, h9, by rw [hs, ← h15.2], by rw [w2, h15.1], h12⟩
    · rintro ⟨P, h6, h7, j, h9, h10, h11, h12⟩
      refine ⟨k, hkl, rfl, mem_inK.2 ⟨P, h6, by rw [hgk]; exact h7, ?_⟩⟩
      rw [hgk]
      simp only [Int.toNat_natCast]
      obtain ⟨b1, b2⟩ := tr_begun h hCl (List.mem_of_getElem? htk) h6 h7
      obtain ⟨w1, w2, w3⟩ := right_st h hR hCl b1 h6 b2 j (by omega)
      rw [w2] at h11
      simp only [Option.some.injEq] at h11
      have e1 : stF es qk (R P) j = qi := by omega
      obtain ⟨q', h13, e, h14, h15, h16⟩ := trT_mem (List.mem_of_getElem? hti)
      simp only [Prod.mk.injEq] at h16
      refine mem_inW.2 ⟨rfl, j, h9, by rw [h10]; omega, ?_, h12⟩
      rw [h10, e1, Int.toNat_natCast, nmF_at hnd hti, Int.toNat_natCast]
end

end Go.Proofs.YthoamlahbnphkaaGreat.J
