/-
  digraph: components by one search, pure.
-/
import Derived.WalkKit
namespace Go.Proofs.Ytgmljpkenipgjaa.D

/-- A way leads from one node to another. -/
inductive Rch (E : Nat → List Nat) : Nat → Nat → Prop
  | refl (x : Nat) : Rch E x x
  | step {x y z : Nat} : y ∈ E x → Rch E y z → Rch E x z
theorem Rch.trans {E : Nat → List Nat} {x y z : Nat} (h : Rch E x y) (k : Rch E y z) : Rch E x z := by
  induction h with
  | refl _ => exact k
  | step h1 _ ih => exact .step h1 (ih k)
theorem Rch.one {E : Nat → List Nat} {x y : Nat} (h : y ∈ E x) : Rch E x y := .step h (.refl _)

/-- A node on the way: how many of its steps are done with, and what was met behind it and is still open. -/
structure Fr where
  node : Nat
  gone : Nat
  rest : List Nat

/-- The open nodes; the last frame stands first. -/
def opens : List Fr → List Nat
  | [] => []
  | f :: fs => opens fs ++ (f.node :: f.rest)
theorem node_open : ∀ {fs : List Fr} {f : Fr}, f ∈ fs → f.node ∈ opens fs
  | g :: gs, f, h => by
    rcases List.mem_cons.1 h with rfl | h
    · exact List.mem_append_right _ (List.mem_cons_self ..)
    · exact List.mem_append_left _ (node_open h)

/-- How low a frame comes, with the step that is looked at. -/
def mlow (E : Nat → List Nat) (low : Nat → Nat) (f : Fr) : Nat := match (E f.node)[f.gone]? with
  | some t => if low t = 0 then low f.node else min (low f.node) (low t)
  | none => low f.node
theorem mlow_le (E : Nat → List Nat) (low : Nat → Nat) (f : Fr) : mlow E low f ≤ low f.node := by
  unfold mlow
  split
  · split
    · exact Nat.le_refl _
    · exact Nat.min_le_left _ _
  · exact Nat.le_refl _

/-- What holds frame by frame. -/
def Loc (E : Nat → List Nat) (low : Nat → Nat) : List Fr → Prop
  | [] => True
  | f :: fs => f.gone ≤ (E f.node).length ∧ (∀ x ∈ f.rest, Rch E x f.node ∧ Rch E f.node x ∧ mlow E low f ≤ low x) ∧ (∀ g gs, fs = g :: gs → (E g.node)[g.gone]? = some f.node) ∧ Loc E low fs

/-- Step k of a node is done with. -/
def DoneAt (fs : List Fr) (x k : Nat) : Prop := ∀ f ∈ fs, f.node = x → k < f.gone

/-- The search, between two steps. -/
structure TjP (N : Nat) (E : Nat → List Nat) (cl : Nat) (fs : List Fr) (low : Nat → Nat) (C : Nat → Bool) : Prop where
  nd : (opens fs).Nodup
  met : ∀ x, x < N → (low x ≠ 0 ↔ (x ∈ opens fs ∨ C x = true))
  ocl : ∀ x ∈ opens fs, C x = false ∧ x < N
  ccl : ∀ x, C x = true → low x = cl ∧ x < N ∧ ∀ y ∈ E x, C y = true
  plc : ∀ j x, (opens fs)[j]? = some x → 1 ≤ low x ∧ low x ≤ j + 1 ∧ ∃ y, (opens fs)[low x - 1]? = some y ∧ Rch E x y
  done : ∀ x ∈ opens fs, ∀ k y, (E x)[k]? = some y → DoneAt fs x k → low y ≠ 0 ∧ ∀ j, (opens fs)[j]? = some y → low x ≤ j + 1
  loc : Loc E low fs

theorem nodup_len : ∀ (N : Nat) (l : List Nat), l.Nodup → (∀ x ∈ l, x < N) → l.length ≤ N
  | 0, l, _, h => by
    cases l with
    | nil => exact Nat.le_refl _
    | cons x l => exact absurd (h x (List.mem_cons_self ..)) (Nat.not_lt_zero _)
  | N + 1, l, hn, h => by
    by_cases e : N ∈ l
    · have h1 := nodup_len N (l.erase N) (hn.erase N) fun x hx => by
        have h2 := h x (List.mem_of_mem_erase hx)
        have h3 : x ≠ N := fun e2 => by subst e2; exact (hn.not_mem_erase) hx
        omega
      rw [List.length_erase_of_mem e] at h1
      omega
    · have h1 := nodup_len N l hn fun x hx => by
        have h2 := h x hx
        have h3 : x ≠ N := fun e2 => e (by rw [← e2]; exact hx)
        omega
      omega

section
variable {N : Nat} {E : Nat → List Nat} {cl : Nat} {fs : List Fr} {low : Nat → Nat} {C : Nat → Bool}

theorem TjP.len (h : TjP N E cl fs low C) : (opens fs).length ≤ N := nodup_len N _ h.nd fun x hx => (h.ocl x hx).2
/-- Another low of one node. -/
def upd (low : Nat → Nat) (t v : Nat) : Nat → Nat := fun x => if x = t then v else low x
theorem upd_same (low : Nat → Nat) (t v : Nat) : upd low t v t = v := if_pos rfl
theorem upd_other (low : Nat → Nat) {t x : Nat} (v : Nat) (h : x ≠ t) : upd low t v x = low x := if_neg h

/-- Nothing was met. -/
theorem TjP.start : TjP N E cl [] (fun _ => 0) (fun _ => false) :=
  ⟨List.nodup_nil, fun x _ => by simp [opens], fun x h => by simp [opens] at h, fun x h => by simp at h, fun j x h => by simp [opens] at h, fun x h => by simp [opens] at h, trivial⟩

theorem loc_mono {low' : Nat → Nat} : ∀ {gs : List Fr}, Loc E low gs → (∀ f ∈ gs, ∀ x ∈ f.rest, mlow E low f ≤ low x → mlow E low' f ≤ low' x) → Loc E low' gs
  | [], _, _ => trivial
  | f :: _, h, hm => ⟨h.1, fun x hx => ⟨(h.2.1 x hx).1, (h.2.1 x hx).2.1, hm f (List.mem_cons_self ..) x hx (h.2.1 x hx).2.2⟩, h.2.2.1, loc_mono h.2.2.2 fun g hg => hm g (List.mem_cons_of_mem _ hg)⟩

theorem rest_open : ∀ {fs : List Fr} {f : Fr} {x : Nat}, f ∈ fs → x ∈ f.rest → x ∈ opens fs
  | g :: gs, f, x, h, hx => by
    rcases List.mem_cons.1 h with rfl | h
    · exact List.mem_append_right _ (List.mem_cons_of_mem _ hx)
    · exact List.mem_append_left _ (rest_open h hx)

theorem TjP.enter {f : Fr} {t : Nat} (h : TjP N E cl (f :: fs) low C) (ht : t < N) (h0 : low t = 0) (he : (E f.node)[f.gone]? = some t) : TjP N E cl (⟨t, 0, []⟩ :: f :: fs) (upd low t ((opens (f :: fs)).length + 1)) C := by
  obtain ⟨O, hO⟩ : ∃ O, O = opens (f :: fs) := ⟨_, rfl⟩
  have ho : opens (⟨t, 0, []⟩ :: f :: fs) = O ++ [t] := by rw [hO]; rfl
  rw [← hO]
  have hC : C t = false := by
    cases e : C t with
    | false => rfl
    | true => exact absurd ((h.met t ht).2 (.inr e)) (by simp [h0])
  have hnt : t ∉ O := fun e => absurd ((h.met t ht).2 (.inl (by rw [← hO]; exact e))) (by simp [h0])
  have hne : ∀ x ∈ O, x ≠ t := fun x hx e => hnt (by rw [← e]; exact hx)
  have hlt : ∀ j x, (O ++ [t])[j]? = some x → (j < O.length ∧ O[j]? = some x) ∨ (j = O.length ∧ x = t) := fun j x hj => by
    by_cases hl : j < O.length
    · rw [List.getElem?_append_left hl] at hj; exact .inl ⟨hl, hj⟩
    · have h1 := (List.getElem?_eq_some_iff.1 hj).1
      rw [List.length_append, List.length_singleton] at h1
      have h2 : j = O.length := by omega
      subst h2
      rw [List.getElem?_append_right (Nat.le_refl _), Nat.sub_self] at hj
      exact .inr ⟨rfl, by simpa using hj.symm⟩
  refine ⟨?_, fun x hx => ?_, fun x hx => ?_, fun x hx => ?_, fun j x hj => ?_, fun x hx k y hk hd => ?_, Nat.zero_le _, fun x hx => by simp at hx, fun g gs e => ?_, ?_⟩
  · rw [ho]
    refine List.nodup_append.2 ⟨by rw [hO]; exact h.nd, by simp, fun a ha b hb e => ?_⟩
    rw [List.mem_singleton] at hb
    exact hnt (by rw [← hb, ← e]; exact ha)
  · rw [ho, List.mem_append, List.mem_singleton]
    by_cases e : x = t
    · subst e; rw [upd_same]; simp
    · rw [upd_other _ _ e, h.met x hx, ← hO]; simp [e]
  · rw [ho, List.mem_append, List.mem_singleton] at hx
    rcases hx with hx | rfl
    · exact h.ocl x (by rw [← hO]; exact hx)
    · exact ⟨hC, ht⟩
  · have e : x ≠ t := fun e => by rw [e, hC] at hx; cases hx
    rw [upd_other _ _ e]; exact h.ccl x hx
  · rw [ho] at hj ⊢
    rcases hlt j x hj with ⟨hl, hj⟩ | ⟨rfl, rfl⟩
    · have hx : x ∈ O := List.mem_of_getElem? hj
      obtain ⟨h1, h2, y, h3, h4⟩ := h.plc j x (by rw [← hO]; exact hj)
      rw [upd_other _ _ (hne x hx)]
      rw [← hO] at h3
      exact ⟨h1, h2, y, by rw [List.getElem?_append_left (by omega)]; exact h3, h4⟩
    · rw [upd_same]
      exact ⟨by omega, Nat.le_refl _, x, by rw [Nat.add_sub_cancel, List.getElem?_append_right (Nat.le_refl _), Nat.sub_self]; rfl, .refl _⟩
  · rw [ho, List.mem_append, List.mem_singleton] at hx
    rcases hx with hx | rfl
    · obtain ⟨h1, h2⟩ := h.done x (by rw [← hO]; exact hx) k y hk fun g hg => hd g (List.mem_cons_of_mem _ hg)
      have e : y ≠ t := fun e => h1 (by rw [e]; exact h0)
      rw [upd_other _ _ e, upd_other _ _ (hne x hx)]
      refine ⟨h1, fun j hj => ?_⟩
      rw [ho] at hj
      rcases hlt j y hj with ⟨_, hj⟩ | ⟨_, e2⟩
      · exact h2 j (by rw [← hO]; exact hj)
      · exact absurd e2 e
    · exact absurd (hd ⟨x, 0, []⟩ (List.mem_cons_self ..) rfl) (Nat.not_lt_zero _)
  · simp only [List.cons.injEq] at e
    rw [← e.1]
    exact he
  · refine loc_mono h.loc fun g hg x hx hm => ?_
    have hx2 : x ∈ O := by rw [hO]; exact rest_open hg hx
    have hg2 : g.node ∈ O := by rw [hO]; exact node_open hg
    rw [upd_other _ _ (hne x hx2)]
    refine Nat.le_trans ?_ hm
    unfold mlow
    rw [upd_other _ _ (hne _ hg2)]
    cases hk : (E g.node)[g.gone]? with
    | none => exact Nat.le_refl _
    | some u =>
      by_cases e : u = t
      · subst e
        simp only [upd_same, h0, if_true]
        split
        · exact Nat.le_refl _
        · exact Nat.min_le_left _ _
      · simp only [upd_other _ _ e]
        exact Nat.le_refl _

theorem nd_node {f : Fr} (h : (opens (f :: fs)).Nodup) : f.node ∉ opens fs ∧ f.node ∉ f.rest ∧ (∀ x ∈ f.rest, x ∉ opens fs) ∧ (opens fs).Nodup ∧ (f.node :: f.rest).Nodup := by
  unfold opens at h
  obtain ⟨h1, h2, h3⟩ := List.nodup_append.1 h
  refine ⟨fun e => h3 _ e _ (List.mem_cons_self ..) rfl, (List.nodup_cons.1 h2).1, fun x hx e => h3 _ e _ (List.mem_cons_of_mem _ hx) rfl, h1, h2⟩

theorem TjP.go {f : Fr} {t : Nat} (h : TjP N E cl (f :: fs) low C) (hcl : N < cl) (ht : t < N) (h0 : low t ≠ 0) (he : (E f.node)[f.gone]? = some t) : TjP N E cl (⟨f.node, f.gone + 1, f.rest⟩ :: fs) (upd low f.node (min (low f.node) (low t))) C := by
  have hf : f.node ∈ opens (f :: fs) := node_open (List.mem_cons_self ..)
  have ho : opens (⟨f.node, f.gone + 1, f.rest⟩ :: fs) = opens (f :: fs) := rfl
  obtain ⟨n1, n2, n3, n4, n5⟩ := nd_node h.nd
  obtain ⟨jf, hjf⟩ := List.mem_iff_getElem?.1 hf
  obtain ⟨p1, p2, yf, p3, p4⟩ := h.plc jf f.node hjf
  have hlen := h.len
  have hjl := (List.getElem?_eq_some_iff.1 hjf).1
  have hle : ∀ x, upd low f.node (min (low f.node) (low t)) x ≤ low x := fun x => by
    by_cases e : x = f.node
    · rw [e, upd_same]; exact Nat.min_le_left _ _
    · rw [upd_other _ _ e]; exact Nat.le_refl _
  have hz : ∀ x, upd low f.node (min (low f.node) (low t)) x = 0 ↔ low x = 0 := fun x => by
    by_cases e : x = f.node
    · subst e; rw [upd_same]; omega
    · rw [upd_other _ _ e]
  have hC : ∀ x, C x = true → x ≠ f.node := fun x hx e => by have := (h.ocl _ hf).1; rw [← e, hx] at this; cases this
  refine ⟨by rw [ho]; exact h.nd, fun x hx => ?_, fun x hx => h.ocl x (by rw [ho] at hx; exact hx), fun x hx => ?_, fun j x hj => ?_, fun x hx k y hk hd => ?_, ?_, fun x hx => ?_, h.loc.2.2.1, ?_⟩
  · rw [ho, ← h.met x hx]
    exact not_congr (hz x)
  · rw [upd_other _ _ (hC x hx)]; exact h.ccl x hx
  · rw [ho] at hj ⊢
    obtain ⟨q1, q2, y, q3, q4⟩ := h.plc j x hj
    by_cases e : x = f.node
    · subst e
      rw [upd_same]
      by_cases hm : low f.node ≤ low t
      · rw [Nat.min_eq_left hm]; exact ⟨q1, q2, y, q3, q4⟩
      · rw [Nat.min_eq_right (by omega)]
        rcases (h.met t ht).1 h0 with hto | htc
        · obtain ⟨jt, hjt⟩ := List.mem_iff_getElem?.1 hto
          obtain ⟨r1, r2, z, r3, r4⟩ := h.plc jt t hjt
          exact ⟨r1, by omega, z, r3, (Rch.one (List.mem_of_getElem? he)).trans r4⟩
        · have := (h.ccl t htc).1
          omega
    · rw [upd_other _ _ e]; exact ⟨q1, q2, y, q3, q4⟩
  · rw [ho] at hx ⊢
    have hold : DoneAt (f :: fs) x k → upd low f.node (min (low f.node) (low t)) y ≠ 0 ∧ ∀ j, (opens (f :: fs))[j]? = some y → upd low f.node (min (low f.node) (low t)) x ≤ j + 1 := fun hd' => by
      obtain ⟨h1, h2⟩ := h.done x hx k y hk hd'
      exact ⟨fun e => h1 ((hz y).1 e), fun j hj => Nat.le_trans (hle x) (h2 j hj)⟩
    by_cases e : x = f.node
    · subst e
      have hk1 : k < f.gone + 1 := hd ⟨f.node, f.gone + 1, f.rest⟩ (List.mem_cons_self ..) rfl
      by_cases hkg : k < f.gone
      · refine hold fun g hg hn => ?_
        rcases List.mem_cons.1 hg with rfl | hg
        · exact hkg
        · exact hd g (List.mem_cons_of_mem _ hg) hn
      · have hkk : k = f.gone := by omega
        subst hkk
        rw [he] at hk
        have e2 : t = y := by simpa using hk
        subst e2
        refine ⟨fun e => h0 ((hz t).1 e), fun j hj => ?_⟩
        rw [upd_same]
        have := (h.plc j t hj).2.1
        omega
    · refine hold fun g hg hn => ?_
      rcases List.mem_cons.1 hg with rfl | hg
      · exact absurd hn.symm e
      · exact hd g (List.mem_cons_of_mem _ hg) hn
  · have := (List.getElem?_eq_some_iff.1 he).1
    show f.gone + 1 ≤ (E f.node).length
    omega
  · obtain ⟨h1, h2, h3⟩ := h.loc.2.1 x hx
    refine ⟨h1, h2, ?_⟩
    have e : x ≠ f.node := fun e => n2 (by rw [← e]; exact hx)
    rw [upd_other _ _ e]
    refine Nat.le_trans (mlow_le _ _ _) ?_
    show upd low f.node (min (low f.node) (low t)) f.node ≤ low x
    rw [upd_same]
    unfold mlow at h3
    rw [he] at h3
    simp only [h0, if_false] at h3
    exact h3
  · refine loc_mono h.loc.2.2.2 fun g hg x hx hm => ?_
    have e : x ≠ f.node := fun e => n1 (by rw [← e]; exact rest_open hg hx)
    have e2 : g.node ≠ f.node := fun e => n1 (by rw [← e]; exact node_open hg)
    rw [upd_other _ _ e]
    refine Nat.le_trans ?_ hm
    unfold mlow
    rw [upd_other _ _ e2]
    cases hk : (E g.node)[g.gone]? with
    | none => exact Nat.le_refl _
    | some u =>
      simp only [hz u]
      split
      · exact Nat.le_refl _
      · have := hle u
        omega

/-- A component: what was not handed over yet; all of it leads to all of it, and besides to what was handed over alone. -/
structure CompP (N : Nat) (E : Nat → List Nat) (C : Nat → Bool) (c : List Nat) : Prop where
  ne : c ≠ []
  nd : c.Nodup
  lt : ∀ x ∈ c, x < N ∧ C x = false
  rch : ∀ x ∈ c, ∀ y ∈ c, Rch E x y
  out : ∀ x ∈ c, ∀ y ∈ E x, y ∈ c ∨ C y = true
/-- Nodes more. -/
def addC (C : Nat → Bool) (c : List Nat) : Nat → Bool := fun x => C x || decide (x ∈ c)
def lowC (low : Nat → Nat) (cl : Nat) (c : List Nat) : Nat → Nat := fun x => if x ∈ c then cl else low x

end

end Go.Proofs.Ytgmljpkenipgjaa.D
