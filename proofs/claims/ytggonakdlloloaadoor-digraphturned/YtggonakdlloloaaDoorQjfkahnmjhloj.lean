import Derived.WalkKit

/-
  digraph: components by one search, pure.
-/
namespace Go.Proofs.YtggonakdlloloaaDoor.D

/-- A way leads from one node to another. -/
inductive Rch (E : Nat → List Nat) : Nat → Nat → Prop
  | refl (x : Nat) : Rch E x x
  | step {x y z : Nat} : y ∈ E x → Rch E y z → Rch E x z
theorem Rch.trans {E : Nat → List Nat} {x y z : Nat} (h : Rch E x y) (k : Rch E y z) : Rch E x z := by
  induction h with
  | refl _ => exact k
  | step h1 _ ih => exact .step h1 (ih k)
theorem Rch.one {E : Nat → List Nat} {x y : Nat} (h : y ∈ E x) : Rch E x y := .step h (.refl _)

/-- A node on the way: how many of its steps are done with, and what was met behind it and is still open. -/
structure Fr where
  node : Nat
  gone : Nat
  rest : List Nat

/-- The open nodes; the last frame stands first. -/
def opens : List Fr → List Nat
  | [] => []
  | f :: fs => opens fs ++ (f.node :: f.rest)
theorem node_open : ∀ {fs : List Fr} {f : Fr}, f ∈ fs → f.node ∈ opens fs
  | g :: gs, f, h => by
    rcases List.mem_cons.1 h with rfl | h
    · exact List.mem_append_right _ (List.mem_cons_self ..)
    · exact List.mem_append_left _ (node_open h)

/-- How low a frame comes, with the step that is looked at. -/
def mlow (E : Nat → List Nat) (low : Nat → Nat) (f : Fr) : Nat := match (E f.node)[f.gone]? with
  | some t => if low t = 0 then low f.node else min (low f.node) (low t)
  | none => low f.node
theorem mlow_le (E : Nat → List Nat) (low : Nat → Nat) (f : Fr) : mlow E low f ≤ low f.node := by
  unfold mlow
  split
  · split
    · exact Nat.le_refl _
    · exact Nat.min_le_left _ _
  · exact Nat.le_refl _

/-- What holds frame by frame. -/
def Loc (E : Nat → List Nat) (low : Nat → Nat) : List Fr → Prop
  | [] => True
  | f :: fs => f.gone ≤ (E f.node).length ∧ (∀ x ∈ f.rest, Rch E x f.node ∧ Rch E f.node x ∧ mlow E low f ≤ low x) ∧ (∀ g gs, fs = g :: gs → (E g.node)[g.gone]? = some f.node) ∧ Loc E low fs

/-- Step k of a node is done with. -/
def DoneAt (fs : List Fr) (x k : Nat) : Prop := ∀ f ∈ fs, f.node = x → k < f.gone

/-- The search, between two steps. -/
structure TjP (N : Nat) (E : Nat → List Nat) (cl : Nat) (fs : List Fr) (low : Nat → Nat) (C : Nat → Bool) : Prop where
  nd : (opens fs).Nodup
  met : ∀ x, x < N → (low x ≠ 0 ↔ (x ∈ opens fs ∨ C x = true))
  ocl : ∀ x ∈ opens fs, C x = false ∧ x < N
  ccl : ∀ x, C x = true → low x = cl ∧ x < N ∧ ∀ y ∈ E x, C y = true
  plc : ∀ j x, (opens fs)[j]? = some x → 1 ≤ low x ∧ low x ≤ j + 1 ∧ ∃ y, (opens fs)[low x - 1]? = some y ∧ Rch E x y
  done : ∀ x ∈ opens fs, ∀ k y, (E x)[k]? = some y → DoneAt fs x k → low y ≠ 0 ∧ ∀ j, (opens fs)[j]? = some y → low x ≤ j + 1
  loc : Loc E low fs

theorem nodup_len : ∀ (N : Nat) (l : List Nat), l.Nodup → (∀ x ∈ l, x < N) → l.length ≤ N
  | 0, l, _, h => by
    cases l with
    | nil => exact Nat.le_refl _
    | cons x l => exact absurd (h x (List.mem_cons_self ..)) (Nat.not_lt_zero _)
  | N + 1, l, hn, h => by
    by_cases e : N ∈ l
    · have h1 := nodup_len N (l.erase N) (hn.erase N) fun x hx => by
        have h2 := h x (List.mem_of_mem_erase hx)
        have h3 : x ≠ N := fun e2 => by subst e2; exact (hn.not_mem_erase) hx
        omega
      rw [List.length_erase_of_mem e] at h1
      omega
    · have h1 := nodup_len N l hn fun x hx => by
        have h2 := h x hx
        have h3 : x ≠ N := fun e2 => e (by rw [← e2]; exact hx)
        omega
      omega

section
variable {N : Nat} {E : Nat → List Nat} {cl : Nat} {fs : List Fr} {low : Nat → Nat} {C : Nat → Bool}

theorem TjP.len (h : TjP N E cl fs low C) : (opens fs).length ≤ N := nodup_len N _ h.nd fun x hx => (h.ocl x hx).2
/-- Another low of one node. -/
def upd (low : Nat → Nat) (t v : Nat) : Nat → Nat := fun x => if x = t then v else low x
theorem upd_same (low : Nat → Nat) (t v : Nat) : upd low t v t = v := if_pos rfl
theorem upd_other (low : Nat → Nat) {t x : Nat} (v : Nat) (h : x ≠ t) : upd low t v x = low x := if_neg h

/-- Nothing was met. -/
theorem TjP.start : TjP N E cl [] (fun _ => 0) (fun _ => false) :=
  ⟨List.nodup_nil, fun x _ => by simp [opens], fun x h => by simp [opens] at h, fun x h => by simp at h, fun j x h => by simp [opens] at h, fun x h => by simp [opens] at h, trivial⟩

theorem TjP.enter0 {t : Nat} (h : TjP N E cl [] low C) (ht : t < N) (h0 : low t = 0) : TjP N E cl [⟨t, 0, []⟩] (upd low t 1) C := by
  have hC : C t = false := by
    cases e : C t with
    | false => rfl
    | true => exact absurd ((h.met t ht).2 (.inr e)) (by simp [h0])
  have ho : opens [⟨t, 0, []⟩] = [t] := rfl
  refine ⟨by rw [ho]; simp, fun x hx => ?_, fun x hx => ?_, fun x hx => ?_, fun j x hj => ?_, fun x hx k y _ hd => ?_, Nat.zero_le _, fun x hx => by simp at hx, fun g gs e => by simp at e, trivial⟩
  · rw [ho, List.mem_singleton]
    by_cases e : x = t
    · subst e; rw [upd_same]; simp
    · rw [upd_other _ _ e, h.met x hx]; simp [opens, e]
  · rw [ho, List.mem_singleton] at hx; subst hx; exact ⟨hC, ht⟩
  · have e : x ≠ t := fun e => by rw [e, hC] at hx; cases hx
    rw [upd_other _ _ e]; exact h.ccl x hx
  · rw [ho] at hj
    have hj0 : j = 0 := by
      have := (List.getElem?_eq_some_iff.1 hj).1
      simp at this; omega
    subst hj0
    have e : x = t := by simpa using hj.symm
    subst e
    rw [upd_same]
    exact ⟨Nat.le_refl _, Nat.le_refl _, x, by rw [ho]; rfl, .refl _⟩
  · rw [ho, List.mem_singleton] at hx
    subst hx
    exact absurd (hd ⟨x, 0, []⟩ (List.mem_cons_self ..) rfl) (Nat.not_lt_zero _)

theorem loc_mono {low' : Nat → Nat} : ∀ {gs : List Fr}, Loc E low gs → (∀ f ∈ gs, ∀ x ∈ f.rest, mlow E low f ≤ low x → mlow E low' f ≤ low' x) → Loc E low' gs
  | [], _, _ => trivial
  | f :: _, h, hm => ⟨h.1, fun x hx => ⟨(h.2.1 x hx).1, (h.2.1 x hx).2.1, hm f (List.mem_cons_self ..) x hx (h.2.1 x hx).2.2⟩, h.2.2.1, loc_mono h.2.2.2 fun g hg => hm g (List.mem_cons_of_mem _ hg)⟩

theorem rest_open : ∀ {fs : List Fr} {f : Fr} {x : Nat}, f ∈ fs → x ∈ f.rest → x ∈ opens fs
  | g :: gs, f, x, h, hx => by
    rcases List.mem_cons.1 h with rfl | h
    · exact List.mem_append_right _ (List.mem_cons_of_mem _ hx)
    · exact List.mem_append_left _ (rest_open h hx)

theorem TjP.enter {f : Fr} {t : Nat} (h : TjP N E cl (f :: fs) low C) (ht : t < N) (h0 : low t = 0) (he : (E f.node)[f.gone]? = some t) : TjP N E cl (⟨t, 0, []⟩ :: f :: fs) (upd low t ((opens (f :: fs)).length + 1)) C := by
  obtain ⟨O, hO⟩ : ∃ O, O = opens (f :: fs) := ⟨_, rfl⟩
  have ho : opens (⟨t, 0, []⟩ :: f :: fs) = O ++ [t] := by rw [hO]; rfl
  rw [← hO]
  have hC : C t = false := by
    cases e : C t with
    | false => rfl
    | true => exact absurd ((h.met t ht).2 (.inr e)) (by simp [h0])
  have hnt : t ∉ O := fun e => absurd ((h.met t ht).2 (.inl (by rw [← hO]; exact e))) (by simp [h0])
  have hne : ∀ x ∈ O, x ≠ t := fun x hx e => hnt (by rw [← e]; exact hx)
  have hlt : ∀ j x, (O ++ [t])[j]? = some x → (j < O.length ∧ O[j]? = some x) ∨ (j = O.length ∧ x = t) := fun j x hj => by
    by_cases hl : j < O.length
    · rw [List.getElem?_append_left hl] at hj; exact .inl ⟨hl, hj⟩
    · have h1 := (List.getElem?_eq_some_iff.1 hj).1
      rw [List.length_append, List.length_singleton] at h1
      have h2 : j = O.length := by omega
      subst h2
      rw [List.getElem?_append_right (Nat.le_refl _), Nat.sub_self] at hj
      exact .inr ⟨rfl, by simpa using hj.symm⟩
  refine ⟨?_, fun x hx => ?_, fun x hx => ?_, fun x hx => ?_, fun j x hj => ?_, fun x hx k y hk hd => ?_, Nat.zero_le _, fun x hx => by simp at hx, fun g gs e => ?_, ?_⟩
  · rw [ho]
    refine List.nodup_append.2 ⟨by rw [hO]; exact h.nd, by simp, fun a ha b hb e => ?_⟩
    rw [List.mem_singleton] at hb
    exact hnt (by rw [← hb, ← e]; exact ha)
  · rw [ho, List.mem_append, List.mem_singleton]
    by_cases e : x = t
    · subst e; rw [upd_same]; simp
    · rw [upd_other _ _ e, h.met x hx, ← hO]; simp [e]
  · rw [ho, List.mem_append, List.mem_singleton] at hx
    rcases hx with hx | rfl
    · exact h.ocl x (by rw [← hO]; exact hx)
    · exact ⟨hC, ht⟩
  · have e : x ≠ t := fun e => by rw [e, hC] at hx; cases hx
    rw [upd_other _ _ e]; exact h.ccl x hx
  · rw [ho] at hj ⊢
    rcases hlt j x hj with ⟨hl, hj⟩ | ⟨rfl, rfl⟩
    · have hx : x ∈ O := List.mem_of_getElem? hj
      obtain ⟨h1, h2, y, h3, h4⟩ := h.plc j x (by rw [← hO]; exact hj)
      rw [upd_other _ _ (hne x hx)]
      rw [← hO] at h3
      exact ⟨h1, h2, y, by rw [List.getElem?_append_left (by omega)]; exact h3, h4⟩
    · rw [upd_same]
      exact ⟨by omega, Nat.le_refl _, x, by rw [Nat.add_sub_cancel, List.getElem?_append_right (Nat.le_refl _), Nat.sub_self]; rfl, .refl _⟩
  · rw [ho, List.mem_append, List.mem_singleton] at hx
    rcases hx with hx | rfl
    · obtain ⟨h1, h2⟩ := h.done x (by rw [← hO]; exact hx) k y hk fun g hg => hd g (List.mem_cons_of_mem _ hg)
      have e : y ≠ t := fun e => h1 (by rw [e]; exact h0)
      rw [upd_other _ _ e, upd_other _ _ (hne x hx)]
      refine ⟨h1, fun j hj => ?_⟩
      rw [ho] at hj
      rcases hlt j y hj with ⟨_, hj⟩ | ⟨_, e2⟩
      · exact h2 j (by rw [← hO]; exact hj)
      · exact absurd e2 e
    · exact absurd (hd ⟨x, 0, []⟩ (List.mem_cons_self ..) rfl) (Nat.not_lt_zero _)
  · simp only [List.cons.injEq] at e
    rw [← e.1]
    exact he
  · refine loc_mono h.loc fun g hg x hx hm => ?_
    have hx2 : x ∈ O := by rw [hO]; exact rest_open hg hx
    have hg2 : g.node ∈ O := by rw [hO]; exact node_open hg
    rw [upd_other _ _ (hne x hx2)]
    refine Nat.le_trans ?_ hm
    unfold mlow
    rw [upd_other _ _ (hne _ hg2)]
    cases hk : (E g.node)[g.gone]? with
    | none => exact Nat.le_refl _
    | some u =>
      by_cases e : u = t
      · subst e
        simp only [upd_same, h0, if_true]
        split
        · exact Nat.le_refl _
        · exact Nat.min_le_left _ _
      · simp only [upd_other _ _ e]
        exact Nat.le_refl _

theorem nd_node {f : Fr} (h : (opens (f :: fs)).Nodup) : f.node ∉ opens fs ∧ f.node ∉ f.rest ∧ (∀ x ∈ f.rest, x ∉ opens fs) ∧ (opens fs).Nodup ∧ (f.node :: f.rest).Nodup := by
  unfold opens at h
  obtain ⟨h1, h2, h3⟩ := List.nodup_append.1 h
  refine ⟨fun e => h3 _ e _ (List.mem_cons_self ..) rfl, (List.nodup_cons.1 h2).1, fun x hx e => h3 _ e _ (List.mem_cons_of_mem _ hx) rfl, h1, h2⟩

theorem TjP.go {f : Fr} {t : Nat} (h : TjP N E cl (f :: fs) low C) (hcl : N < cl) (ht : t < N) (h0 : low t ≠ 0) (he : (E f.node)[f.gone]? = some t) : TjP N E cl (⟨f.node, f.gone + 1, f.rest⟩ :: fs) (upd low f.node (min (low f.node) (low t))) C := by
  have hf : f.node ∈ opens (f :: fs) := node_open (List.mem_cons_self ..)
  have ho : opens (⟨f.node, f.gone + 1, f.rest⟩ :: fs) = opens (f :: fs) := rfl
  obtain ⟨n1, n2, n3, n4, n5⟩ := nd_node h.nd
  obtain ⟨jf, hjf⟩ := List.mem_iff_getElem?.1 hf
  obtain ⟨p1, p2, yf, p3, p4⟩ := h.plc jf f.node hjf
  have hlen := h.len
  have hjl := (List.getElem?_eq_some_iff.1 hjf).1
  have hle : ∀ x, upd low f.node (min (low f.node) (low t)) x ≤ low x := fun x => by
    by_cases e : x = f.node
    · rw [e, upd_same]; exact Nat.min_le_left _ _
    · rw [upd_other _ _ e]; exact Nat.le_refl _
  have hz : ∀ x, upd low f.node (min (low f.node) (low t)) x = 0 ↔ low x = 0 := fun x => by
    by_cases e : x = f.node
    · subst e; rw [upd_same]; omega
    · rw [upd_other _ _ e]
  have hC : ∀ x, C x = true → x ≠ f.node := fun x hx e => by have := (h.ocl _ hf).1; rw [← e, hx] at this; cases this
  refine ⟨by rw [ho]; exact h.nd, fun x hx => ?_, fun x hx => h.ocl x (by rw [ho] at hx; exact hx), fun x hx => ?_, fun j x hj => ?_, fun x hx k y hk hd => ?_, ?_, fun x hx => ?_, h.loc.2.2.1, ?_⟩
  · rw [ho, ← h.met x hx]
    exact not_congr (hz x)
  · rw [upd_other _ _ (hC x hx)]; exact h.ccl x hx
  · rw [ho] at hj ⊢
    obtain ⟨q1, q2, y, q3, q4⟩ := h.plc j x hj
    by_cases e : x = f.node
    · subst e
      rw [upd_same]
      by_cases hm : low f.node ≤ low t
      · rw [Nat.min_eq_left hm]; exact ⟨q1, q2, y, q3, q4⟩
      · rw [Nat.min_eq_right (by omega)]
        rcases (h.met t ht).1 h0 with hto | htc
        · obtain ⟨jt, hjt⟩ := List.mem_iff_getElem?.1 hto
          obtain ⟨r1, r2, z, r3, r4⟩ := h.plc jt t hjt
          exact ⟨r1, by omega, z, r3, (Rch.one (List.mem_of_getElem? he)).trans r4⟩
        · have := (h.ccl t htc).1
          omega
    · rw [upd_other _ _ e]; exact ⟨q1, q2, y, q3, q4⟩
  · rw [ho] at hx ⊢
    have hold : DoneAt (f :: fs) x k → upd low f.node (min (low f.node) (low t)) y ≠ 0 ∧ ∀ j, (opens (f :: fs))[j]? = some y → upd low f.node (min (low f.node) (low t)) x ≤ j + 1 := fun hd' => by
      obtain ⟨h1, h2⟩ := h.done x hx k y hk hd'
      exact ⟨fun e => h1 ((hz y).1 e), fun j hj => Nat.le_trans (hle x) (h2 j hj)⟩
    by_cases e : x = f.node
    · subst e
      have hk1 : k < f.gone + 1 := hd ⟨f.node, f.gone + 1, f.rest⟩ (List.mem_cons_self ..) rfl
      by_cases hkg : k < f.gone
      · refine hold fun g hg hn => ?_
        rcases List.mem_cons.1 hg with rfl | hg
        · exact hkg
        · exact hd g (List.mem_cons_of_mem _ hg) hn
      · have hkk : k = f.gone := by omega
        subst hkk
        rw [he] at hk
        have e2 : t = y := by simpa using hk
        subst e2
        refine ⟨fun e => h0 ((hz t).1 e), fun j hj => ?_⟩
        rw [upd_same]
        have := (h.plc j t hj).2.1
        omega
    · refine hold fun g hg hn => ?_
      rcases List.mem_cons.1 hg with rfl | hg
      · exact absurd hn.symm e
      · exact hd g (List.mem_cons_of_mem _ hg) hn
  · have := (List.getElem?_eq_some_iff.1 he).1
    show f.gone + 1 ≤ (E f.node).length
    omega
  · obtain ⟨h1, h2, h3⟩ := h.loc.2.1 x hx
    refine ⟨h1, h2, ?_⟩
    have e : x ≠ f.node := fun e => n2 (by rw [← e]; exact hx)
    rw [upd_other _ _ e]
    refine Nat.le_trans (mlow_le _ _ _) ?_
    show upd low f.node (min (low f.node) (low t)) f.node ≤ low x
    rw [upd_same]
    unfold mlow at h3
    rw [he] at h3
    simp only [h0, if_false] at h3
    exact h3
  · refine loc_mono h.loc.2.2.2 fun g hg x hx hm => ?_
    have e : x ≠ f.node := fun e => n1 (by rw [← e]; exact rest_open hg hx)
    have e2 : g.node ≠ f.node := fun e => n1 (by rw [← e]; exact node_open hg)
    rw [upd_other _ _ e]
    refine Nat.le_trans ?_ hm
    unfold mlow
    rw [upd_other _ _ e2]
    cases hk : (E g.node)[g.gone]? with
    | none => exact Nat.le_refl _
    | some u =>
      simp only [hz u]
      split
      · exact Nat.le_refl _
      · have := hle u
        omega

/-- An open node leads to the last one of the way. -/
theorem up_way : ∀ {fs : List Fr} {g : Fr}, Loc E low (g :: fs) → ∀ y ∈ opens (g :: fs), Rch E y g.node
  | [], g, h, y, hy => by
    rcases List.mem_append.1 hy with hy | hy
    · simp [opens] at hy
    · rcases List.mem_cons.1 hy with rfl | hy
      · exact .refl _
      · exact (h.2.1 y hy).1
  | k :: ks, g, h, y, hy => by
    rcases List.mem_append.1 hy with hy | hy
    · exact (up_way h.2.2.2 y hy).trans (.one (List.mem_of_getElem? (h.2.2.1 k ks rfl)))
    · rcases List.mem_cons.1 hy with rfl | hy
      · exact .refl _
      · exact (h.2.1 y hy).1

theorem mlow_end {f : Fr} (hg : f.gone = (E f.node).length) : mlow E low f = low f.node := by
  unfold mlow
  rw [List.getElem?_eq_none (by omega)]

/-- A node is left that leads further down. -/
theorem TjP.leave {f g : Fr} (h : TjP N E cl (f :: g :: fs) low C) (hg : f.gone = (E f.node).length) (hl : low f.node < (opens (g :: fs)).length + 1) : TjP N E cl (⟨g.node, g.gone, g.rest ++ (f.node :: f.rest)⟩ :: fs) low C := by
  have ho : opens (⟨g.node, g.gone, g.rest ++ (f.node :: f.rest)⟩ :: fs) = opens (f :: g :: fs) := by
    show opens fs ++ (g.node :: (g.rest ++ (f.node :: f.rest))) = (opens fs ++ (g.node :: g.rest)) ++ (f.node :: f.rest)
    simp
  have hf : f.node ∈ opens (f :: g :: fs) := node_open (List.mem_cons_self ..)
  obtain ⟨jf, hjf⟩ := List.mem_iff_getElem?.1 hf
  obtain ⟨p1, p2, yf, p3, p4⟩ := h.plc jf f.node hjf
  have hlk := h.loc.2.2.1 g fs rfl
  have hfn : low f.node ≠ 0 := by omega
  have hup : Rch E f.node g.node := by
    refine p4.trans (up_way h.loc.2.2.2 yf ?_)
    have e : opens (f :: g :: fs) = opens (g :: fs) ++ (f.node :: f.rest) := rfl
    rw [e, List.getElem?_append_left (by omega)] at p3
    exact List.mem_of_getElem? p3
  have hdn : Rch E g.node f.node := .one (List.mem_of_getElem? hlk)
  have hmg : mlow E low g ≤ low f.node := by
    unfold mlow
    rw [hlk]
    simp only [hfn, if_false]
    exact Nat.min_le_right _ _
  refine ⟨by rw [ho]; exact h.nd, fun x hx => by rw [ho]; exact h.met x hx, fun x hx => h.ocl x (by rw [ho] at hx; exact hx), h.ccl, fun j x hj => by rw [ho] at hj ⊢; exact h.plc j x hj, fun x hx k y hk hd => ?_, h.loc.2.2.2.1, fun x hx => ?_, h.loc.2.2.2.2.2.1, h.loc.2.2.2.2.2.2⟩
  · rw [ho] at hx ⊢
    refine h.done x hx k y hk fun u hu hn => ?_
    rcases List.mem_cons.1 hu with rfl | hu
    · rw [hg, hn]; exact (List.getElem?_eq_some_iff.1 hk).1
    · rcases List.mem_cons.1 hu with rfl | hu
      · exact hd ⟨u.node, u.gone, u.rest ++ (f.node :: f.rest)⟩ (List.mem_cons_self ..) hn
      · exact hd u (List.mem_cons_of_mem _ hu) hn
  · have hmm : mlow E low ⟨g.node, g.gone, g.rest ++ (f.node :: f.rest)⟩ = mlow E low g := rfl
    rw [hmm]
    rcases List.mem_append.1 hx with hx | hx
    · exact h.loc.2.2.2.2.1 x hx
    · rcases List.mem_cons.1 hx with rfl | hx
      · exact ⟨hup, hdn, hmg⟩
      · obtain ⟨h1, h2, h3⟩ := h.loc.2.1 x hx
        rw [mlow_end hg] at h3
        exact ⟨h1.trans hup, hdn.trans h2, Nat.le_trans hmg h3⟩

/-- A component: what was not handed over yet; all of it leads to all of it, and besides to what was handed over alone. -/
structure CompP (N : Nat) (E : Nat → List Nat) (C : Nat → Bool) (c : List Nat) : Prop where
  ne : c ≠ []
  nd : c.Nodup
  lt : ∀ x ∈ c, x < N ∧ C x = false
  rch : ∀ x ∈ c, ∀ y ∈ c, Rch E x y
  out : ∀ x ∈ c, ∀ y ∈ E x, y ∈ c ∨ C y = true
/-- Nodes more. -/
def addC (C : Nat → Bool) (c : List Nat) : Nat → Bool := fun x => C x || decide (x ∈ c)
theorem addC_iff (C : Nat → Bool) (c : List Nat) (x : Nat) : addC C c x = true ↔ C x = true ∨ x ∈ c := by unfold addC; simp
def lowC (low : Nat → Nat) (cl : Nat) (c : List Nat) : Nat → Nat := fun x => if x ∈ c then cl else low x

/-- A component is handed over. -/
theorem TjP.comp {f : Fr} (h : TjP N E cl (f :: fs) low C) (hcl : N < cl) (hE : ∀ x, x < N → ∀ y ∈ E x, y < N) (hg : f.gone = (E f.node).length) (hl : (opens fs).length + 1 ≤ low f.node) : CompP N E C (f.node :: f.rest) ∧ TjP N E cl fs (lowC low cl (f.node :: f.rest)) (addC C (f.node :: f.rest)) := by
  obtain ⟨n1, n2, n3, n4, n5⟩ := nd_node h.nd
  have ho : opens (f :: fs) = opens fs ++ (f.node :: f.rest) := rfl
  have hco : ∀ x ∈ f.node :: f.rest, x ∈ opens (f :: fs) := fun x hx => List.mem_append_right _ hx
  have hcn : ∀ x ∈ f.node :: f.rest, x ∉ opens fs := fun x hx => by
    rcases List.mem_cons.1 hx with rfl | hx
    · exact n1
    · exact n3 x hx
  have hge : ∀ x ∈ f.node :: f.rest, (opens fs).length + 1 ≤ low x := fun x hx => by
    rcases List.mem_cons.1 hx with rfl | hx
    · exact hl
    · have h3 := (h.loc.2.1 x hx).2.2
      rw [mlow_end hg] at h3
      omega
  have hdA : ∀ x ∈ f.node :: f.rest, ∀ k y, (E x)[k]? = some y → DoneAt (f :: fs) x k := fun x hx k y hk u hu hn => by
    rcases List.mem_cons.1 hu with rfl | hu
    · rw [hg, hn]; exact (List.getElem?_eq_some_iff.1 hk).1
    · exact absurd (by rw [← hn]; exact node_open hu) (hcn x hx)
  have hout : ∀ x ∈ f.node :: f.rest, ∀ y ∈ E x, y ∈ f.node :: f.rest ∨ C y = true := fun x hx y hy => by
    obtain ⟨k, hk⟩ := List.mem_iff_getElem?.1 hy
    obtain ⟨h1, h2⟩ := h.done x (hco x hx) k y hk (hdA x hx k y hk)
    have hyN := hE x (h.ocl x (hco x hx)).2 y hy
    rcases (h.met y hyN).1 h1 with hyo | hyc
    · rw [ho] at hyo
      rcases List.mem_append.1 hyo with hyo | hyo
      · obtain ⟨j, hj⟩ := List.mem_iff_getElem?.1 hyo
        have hjl := (List.getElem?_eq_some_iff.1 hj).1
        have h3 := h2 j (by rw [ho, List.getElem?_append_left hjl]; exact hj)
        have h4 := hge x hx
        omega
      · exact .inl hyo
    · exact .inr hyc
  have hrc : ∀ x ∈ f.node :: f.rest, Rch E x f.node ∧ Rch E f.node x := fun x hx => by
    rcases List.mem_cons.1 hx with rfl | hx
    · exact ⟨.refl _, .refl _⟩
    · exact ⟨(h.loc.2.1 x hx).1, (h.loc.2.1 x hx).2.1⟩
  obtain ⟨c, hc⟩ : ∃ c, c = f.node :: f.rest := ⟨_, rfl⟩
  have hne : c ≠ [] := by rw [hc]; simp
  rw [← hc] at hco hcn hge hdA hout hrc n5 ho ⊢
  have hlo : ∀ x, x ∉ c → lowC low cl c x = low x := fun x hx => if_neg hx
  have hlc : ∀ x, x ∈ c → lowC low cl c x = cl := fun x hx => if_pos hx
  have hnc : ∀ x ∈ opens fs, x ∉ c := fun x hx hx2 => hcn x hx2 hx
  have hpo : ∀ j x, (opens fs)[j]? = some x → (opens (f :: fs))[j]? = some x := fun j x hj => by
    rw [ho, List.getElem?_append_left (List.getElem?_eq_some_iff.1 hj).1]; exact hj
  refine ⟨⟨hne, n5, fun x hx => ⟨(h.ocl x (hco x hx)).2, (h.ocl x (hco x hx)).1⟩, fun x hx y hy => (hrc x hx).1.trans (hrc y hy).2, hout⟩, n4, fun x hx => ?_, fun x hx => ?_, fun x hx => ?_, fun j x hj => ?_, fun x hx k y hk hd => ?_, ?_⟩
  · rw [addC_iff]
    by_cases e : x ∈ c
    · rw [hlc x e]; simp [e]; omega
    · rw [hlo x e, h.met x hx, ho, List.mem_append]; simp [e]
  · have h1 := h.ocl x (by rw [ho]; exact List.mem_append_left _ hx)
    refine ⟨?_, h1.2⟩
    have h2 : ¬ addC C c x = true := by rw [addC_iff, h1.1]; simp [hnc x hx]
    simpa using h2
  · rcases (addC_iff _ _ _).1 hx with hx | hx
    · obtain ⟨h1, h2, h3⟩ := h.ccl x hx
      have e : x ∉ c := fun e => by have := (h.ocl x (hco x e)).1; rw [hx] at this; cases this
      rw [hlo x e]
      exact ⟨h1, h2, fun y hy => (addC_iff _ _ _).2 (.inl (h3 y hy))⟩
    · rw [hlc x hx]
      refine ⟨rfl, (h.ocl x (hco x hx)).2, fun y hy => (addC_iff _ _ _).2 ?_⟩
      rcases hout x hx y hy with h1 | h1
      · exact .inr h1
      · exact .inl h1
  · have hxo := List.mem_of_getElem? hj
    obtain ⟨h1, h2, y, h3, h4⟩ := h.plc j x (hpo j x hj)
    have hjl := (List.getElem?_eq_some_iff.1 hj).1
    rw [hlo x (hnc x hxo)]
    rw [ho, List.getElem?_append_left (by omega)] at h3
    exact ⟨h1, h2, y, h3, h4⟩
  · have hxo : x ∈ opens (f :: fs) := by rw [ho]; exact List.mem_append_left _ hx
    obtain ⟨h1, h2⟩ := h.done x hxo k y hk fun u hu hn => by
      rcases List.mem_cons.1 hu with rfl | hu
      · exact absurd (by rw [hn]; exact hx) n1
      · exact hd u hu hn
    rw [hlo x (hnc x hx)]
    refine ⟨?_, fun j hj => h2 j (hpo j y hj)⟩
    by_cases e : y ∈ c
    · rw [hlc y e]; omega
    · rw [hlo y e]; exact h1
  · refine loc_mono h.loc.2.2.2 fun g hgs x hx hm => ?_
    have hxo := rest_open hgs hx
    have hgo := node_open hgs
    obtain ⟨jx, hjx⟩ := List.mem_iff_getElem?.1 hxo
    have hxl := (h.plc jx x (hpo jx x hjx)).2.1
    have hjl := (List.getElem?_eq_some_iff.1 hjx).1
    rw [hlo x (hnc x hxo)]
    unfold mlow at hm ⊢
    rw [hlo _ (hnc _ hgo)]
    cases hk : (E g.node)[g.gone]? with
    | none => rw [hk] at hm; exact hm
    | some u =>
      rw [hk] at hm
      simp only at hm ⊢
      by_cases e : u ∈ c
      · have h5 := hge u e
        rw [if_neg (by omega)] at hm
        rw [hlc u e]
        split
        · omega
        · omega
      · rw [hlo u e]; exact hm
end

end Go.Proofs.YtggonakdlloloaaDoor.D

/-
  digraph: what a taker makes of the components, pure: the least node of each, and what the nodes have to which ways lead.
-/
namespace Go.Proofs.YtggonakdlloloaaDoor.D

section
variable {N : Nat} {E : Nat → List Nat} {C : Nat → Bool} {c : List Nat}

/-- What was handed over leads to nothing else. -/
def ClosedC (E : Nat → List Nat) (C : Nat → Bool) : Prop := ∀ x, C x = true → ∀ y ∈ E x, C y = true
theorem ClosedC.start : ClosedC E (fun _ => false) := fun _ h => by cases h
theorem ClosedC.add (h : ClosedC E C) (hc : CompP N E C c) : ClosedC E (addC C c) := fun x hx y hy => by
  rw [addC_iff] at hx ⊢
  rcases hx with hx | hx
  · exact .inl (h x hx y hy)
  · rcases hc.out x hx y hy with h1 | h1
    · exact .inr h1
    · exact .inl h1
theorem ClosedC.rch (h : ClosedC E C) {x y : Nat} (hr : Rch E x y) : C x = true → C y = true := by
  induction hr with
  | refl _ => exact id
  | step h1 _ ih => exact fun hx => ih (h _ hx _ h1)

/-- A way out of a component stays in it, or comes by a step to what was handed over. -/
theorem CompP.way (hc : CompP N E C c) {x y : Nat} (hr : Rch E x y) : x ∈ c → y ∈ c ∨ ∃ z ∈ c, ∃ t ∈ E z, C t = true ∧ Rch E t y := by
  induction hr with
  | refl _ => exact .inl
  | step h1 h2 ih =>
    intro hx
    rcases hc.out _ hx _ h1 with h3 | h3
    · exact ih h3
    · exact .inr ⟨_, hx, _, h1, h3, h2⟩
/-- A component is all that leads both ways. -/
theorem CompP.cls (hc : CompP N E C c) (hC : ClosedC E C) {x y : Nat} (hx : x ∈ c) : (Rch E x y ∧ Rch E y x) ↔ y ∈ c := by
  constructor
  · rintro ⟨h1, h2⟩
    rcases hc.way h1 hx with h3 | ⟨z, _, t, _, h4, h5⟩
    · exact h3
    · have := hC.rch (h5.trans h2) h4
      rw [(hc.lt x hx).2] at this
      cases this
  · intro hy
    exact ⟨hc.rch x hx y hy, hc.rch y hy x hx⟩

/-- The least node of a node's component. -/
def IsLeast (N : Nat) (E : Nat → List Nat) (x l : Nat) : Prop := l < N ∧ Rch E x l ∧ Rch E l x ∧ ∀ y, Rch E x y → Rch E y x → l ≤ y
theorem IsLeast.unique {x l m : Nat} (h : IsLeast N E x l) (k : IsLeast N E x m) : l = m := Nat.le_antisymm (h.2.2.2 m k.2.1 k.2.2.1) (k.2.2.2 l h.2.1 h.2.2.1)
theorem CompP.least (hc : CompP N E C c) (hC : ClosedC E C) {x l : Nat} (hx : x ∈ c) (hl : l ∈ c) (hm : ∀ y ∈ c, l ≤ y) : IsLeast N E x l :=
  ⟨(hc.lt l hl).1, hc.rch x hx l hl, hc.rch l hl x hx, fun y h1 h2 => hm y ((hc.cls hC hx).1 ⟨h1, h2⟩)⟩

/-- A node has a number, of those to which ways lead. -/
def Gets (E : Nat → List Nat) (own : Nat → List Int) (x : Nat) (b : Nat) : Prop := ∃ y, Rch E x y ∧ (b : Int) ∈ own y
/-- Of what was handed over each node has what it should. -/
def SolP (E : Nat → List Nat) (own : Nat → List Int) (C : Nat → Bool) (mk : Nat → Nat) : Prop := ∀ x, C x = true → ∀ b, (mk x).testBit b = true ↔ Gets E own x b
theorem SolP.start {own : Nat → List Int} {mk : Nat → Nat} : SolP E own (fun _ => false) mk := fun _ h => by cases h
/-- What a component's nodes have together, and all that they lead to, is what each of them should have. -/
theorem SolP.step {own : Nat → List Int} {mk : Nat → Nat} {M : Nat} (h : SolP E own C mk) (hc : CompP N E C c) (hM : ∀ b, M.testBit b = true ↔ ((∃ x ∈ c, (b : Int) ∈ own x) ∨ ∃ z ∈ c, ∃ t ∈ E z, C t = true ∧ (mk t).testBit b = true)) : SolP E own (addC C c) (fun x => if x ∈ c then M else mk x) := by
  intro x hx b
  by_cases e : x ∈ c
  · simp only [if_pos e]
    rw [hM]
    constructor
    · rintro (⟨y, hy, hb⟩ | ⟨z, hz, t, ht, hCt, hb⟩)
      · exact ⟨y, hc.rch x e y hy, hb⟩
      · obtain ⟨y, h1, h2⟩ := (h t hCt b).1 hb
        exact ⟨y, (hc.rch x e z hz).trans (.step ht h1), h2⟩
    · rintro ⟨y, h1, h2⟩
      rcases hc.way h1 e with h3 | ⟨z, hz, t, ht, hCt, h5⟩
      · exact .inl ⟨y, h3, h2⟩
      · exact .inr ⟨z, hz, t, ht, hCt, (h t hCt b).2 ⟨y, h5, h2⟩⟩
  · simp only [if_neg e]
    rcases (addC_iff _ _ _).1 hx with h1 | h1
    · exact h x h1 b
    · exact absurd h1 e
end

end Go.Proofs.YtggonakdlloloaaDoor.D

/-
  digraph: the components, node by node, pure.
-/
namespace Go.Proofs.YtggonakdlloloaaDoor.D

/-- The least nodes among the first k. -/
def lsts (ls : Nat → Nat) (k : Nat) : List Nat := (List.range k).filter fun x => decide (ls x = x)
/-- The components of the first k nodes, each begun by its least one. -/
def cmpL (ls : Nat → Nat) (k : Nat) : List (List Nat) := (lsts ls k).map fun l => (List.range k).filter fun y => decide (ls y = l)
theorem lsts_succ (ls : Nat → Nat) (k : Nat) : lsts ls (k + 1) = lsts ls k ++ (if ls k = k then [k] else []) := by
  unfold lsts
  rw [List.range_succ, List.filter_append]
  congr 1
  by_cases h : ls k = k
  · simp [h]
  · simp [h]
theorem mem_lsts {ls : Nat → Nat} {k x : Nat} : x ∈ lsts ls k ↔ x < k ∧ ls x = x := by
  unfold lsts
  simp
theorem cmpL_length (ls : Nat → Nat) (k : Nat) : (cmpL ls k).length = (lsts ls k).length := by unfold cmpL; simp
/-- A node that is the least of its component begins one. -/
theorem cmpL_new {ls : Nat → Nat} {k : Nat} (hle : ∀ y, y < k → ls y ≤ y) (h : ls k = k) : cmpL ls (k + 1) = cmpL ls k ++ [[k]] := by
  unfold cmpL
  rw [lsts_succ, if_pos h, List.map_append]
  congr 1
  · refine List.map_congr_left fun l hl => ?_
    have hlk := (mem_lsts.1 hl).1
    rw [List.range_succ, List.filter_append]
    have : ¬ k = l := by omega
    simp [h, this]
  · have e : (List.range k).filter (fun y => decide (ls y = k)) = [] := by
      rw [List.filter_eq_nil_iff]
      intro y hy
      have h1 := List.mem_range.1 hy
      have h2 := hle y h1
      simp; omega
    rw [List.range_succ]
    simp [e, h]
/-- The place of a least node. -/
theorem lsts_at {ls : Nat → Nat} : ∀ {k l : Nat}, l < k → ls l = l → (lsts ls k)[(lsts ls l).length]? = some l
  | 0, _, h, _ => absurd h (Nat.not_lt_zero _)
  | k + 1, l, h, hl => by
    rw [lsts_succ]
    by_cases e : l = k
    · subst e
      rw [if_pos hl, List.getElem?_append_right (Nat.le_refl _), Nat.sub_self]
      rfl
    · have h1 := lsts_at (ls := ls) (show l < k by omega) hl
      rw [List.getElem?_append_left (List.getElem?_eq_some_iff.1 h1).1]
      exact h1
theorem lsts_nodup (ls : Nat → Nat) (k : Nat) : (lsts ls k).Nodup := by
  unfold lsts
  exact List.nodup_range.filter _
/-- Another node comes to the end of its component. -/
theorem cmpL_old {ls : Nat → Nat} {k l : Nat} (hl : l < k) (hll : ls l = l) (h : ls k = l) : ∀ j, j < (cmpL ls k).length → (cmpL ls (k + 1)).getD j [] = if j = (lsts ls l).length then (cmpL ls k).getD j [] ++ [k] else (cmpL ls k).getD j [] := by
  intro j hj
  rw [cmpL_length] at hj
  have hk : ¬ ls k = k := by omega
  have hgd : ∀ m, (∀ i, i < (lsts ls m).length → i < (lsts ls m).length) → ∀ (hm : j < (lsts ls m).length), (cmpL ls m).getD j [] = (List.range m).filter fun y => decide (ls y = (lsts ls m)[j]) := fun m _ hm => by
    unfold cmpL
    rw [List.getD_eq_getElem?_getD, List.getElem?_map, List.getElem?_eq_getElem hm]
    rfl
  have e1 : lsts ls (k + 1) = lsts ls k := by rw [lsts_succ, if_neg hk, List.append_nil]
  have hj1 : j < (lsts ls (k + 1)).length := by rw [e1]; exact hj
  rw [hgd (k + 1) (fun _ h => h) hj1, hgd k (fun _ h => h) hj]
  have e2 : (lsts ls (k + 1))[j] = (lsts ls k)[j] := by
    have : (lsts ls (k + 1))[j]? = (lsts ls k)[j]? := by rw [e1]
    rw [List.getElem?_eq_getElem hj1, List.getElem?_eq_getElem hj] at this
    exact Option.some.inj this
  rw [e2, List.range_succ, List.filter_append]
  have hat := lsts_at (ls := ls) hl hll
  by_cases e : j = (lsts ls l).length
  · rw [if_pos e]
    congr 1
    have e3 : (lsts ls k)[j] = l := by
      have : (lsts ls k)[j]? = some l := by rw [e]; exact hat
      rw [List.getElem?_eq_getElem hj] at this
      exact Option.some.inj this
    simp [e3, h]
  · rw [if_neg e]
    have e3 : ¬ ls k = (lsts ls k)[j] := by
      rw [h]
      intro e4
      have e5 : (lsts ls k)[j]? = some l := by rw [List.getElem?_eq_getElem hj, ← e4]
      exact e ((List.getElem?_inj hj (lsts_nodup ls k)).1 (e5.trans hat.symm))
    simp [e3]

end Go.Proofs.YtggonakdlloloaaDoor.D

/-
  digraph: the chapter's example, pure: its components, and what its nodes have.
-/
namespace Go.Proofs.YtggonakdlloloaaDoor.D

/-- The steps of the example. -/
def exE : Nat → List Nat
  | 0 => [1]
  | 1 => [2]
  | 2 => [1]
  | _ => []
/-- Its own numbers. -/
def exO : Nat → List Int
  | 0 => [5]
  | 1 => [7, 6]
  | 2 => []
  | 3 => [8]
  | _ => []

theorem ex_rch {x y : Nat} (h : Rch exE x y) : (x = 0 ∧ (y = 0 ∨ y = 1 ∨ y = 2)) ∨ ((x = 1 ∨ x = 2) ∧ (y = 1 ∨ y = 2)) ∨ (3 ≤ x ∧ y = x) := by
  induction h with
  | refl x => omega
  | @step x y z h1 _ ih =>
    match x, h1 with
    | 0, h1 =>
      have : y = 1 := by simpa [exE] using h1
      omega
    | 1, h1 =>
      have : y = 2 := by simpa [exE] using h1
      omega
    | 2, h1 =>
      have : y = 1 := by simpa [exE] using h1
      omega
    | n + 3, h1 => simp [exE] at h1
theorem ex01 : Rch exE 0 1 := .one (by simp [exE])
theorem ex12 : Rch exE 1 2 := .one (by simp [exE])
theorem ex21 : Rch exE 2 1 := .one (by simp [exE])

theorem ex_least (ls : Nat → Nat) (h : ∀ x, x < 4 → IsLeast 4 exE x (ls x)) : ls 0 = 0 ∧ ls 1 = 1 ∧ ls 2 = 1 ∧ ls 3 = 3 := by
  refine ⟨(h 0 (by decide)).unique ⟨by decide, .refl _, .refl _, fun y _ _ => Nat.zero_le _⟩, (h 1 (by decide)).unique ⟨by decide, .refl _, .refl _, fun y h1 _ => ?_⟩, (h 2 (by decide)).unique ⟨by decide, ex21, ex12, fun y h1 _ => ?_⟩, (h 3 (by decide)).unique ⟨by decide, .refl _, .refl _, fun y h1 _ => ?_⟩⟩
  · have := ex_rch h1; omega
  · have := ex_rch h1; omega
  · have := ex_rch h1; omega
theorem ex_cmp (ls : Nat → Nat) (h : ∀ x, x < 4 → IsLeast 4 exE x (ls x)) : cmpL ls 4 = [[0], [1, 2], [3]] := by
  obtain ⟨h0, h1, h2, h3⟩ := ex_least ls h
  have e : List.range 4 = [0, 1, 2, 3] := rfl
  unfold cmpL lsts
  rw [e]
  simp [h0, h1, h2, h3]
theorem ex_gets (x b : Nat) (hx : x < 4) : Gets exE exO x b ↔ b ∈ (([[5, 6, 7], [6, 7], [6, 7], [8]] : List (List Nat)).getD x []) := by
  constructor
  · rintro ⟨y, h1, h2⟩
    have h3 := ex_rch h1
    have key : ∀ y, (b : Int) ∈ exO y → (y = 0 ∧ b = 5) ∨ (y = 1 ∧ (b = 7 ∨ b = 6)) ∨ (y = 3 ∧ b = 8) := fun y h => by
      match y, h with
      | 0, h =>
        have : (b : Int) = 5 := by simpa [exO] using h
        omega
      | 1, h =>
        have : (b : Int) = 7 ∨ (b : Int) = 6 := by simpa [exO] using h
        omega
      | 2, h => simp [exO] at h
      | 3, h =>
        have : (b : Int) = 8 := by simpa [exO] using h
        omega
      | n + 4, h => simp [exO] at h
    have h4 := key y h2
    match x, hx with
    | 0, _ => simp; omega
    | 1, _ => simp; omega
    | 2, _ => simp; omega
    | 3, _ => simp; omega
  · intro h
    match x, hx with
    | 0, _ =>
      have : b = 5 ∨ b = 6 ∨ b = 7 := by simpa using h
      rcases this with rfl | rfl | rfl
      · exact ⟨0, .refl _, by simp [exO]⟩
      · exact ⟨1, ex01, by simp [exO]⟩
      · exact ⟨1, ex01, by simp [exO]⟩
    | 1, _ =>
      have : b = 6 ∨ b = 7 := by simpa using h
      rcases this with rfl | rfl
      · exact ⟨1, .refl _, by simp [exO]⟩
      · exact ⟨1, .refl _, by simp [exO]⟩
    | 2, _ =>
      have : b = 6 ∨ b = 7 := by simpa using h
      rcases this with rfl | rfl
      · exact ⟨1, ex21, by simp [exO]⟩
      · exact ⟨1, ex21, by simp [exO]⟩
    | 3, _ =>
      have : b = 8 := by simpa using h
      subst this
      exact ⟨3, .refl _, by simp [exO]⟩

end Go.Proofs.YtggonakdlloloaaDoor.D

/-
  digraph: the components, as DigraphWays looks at them, pure.
-/
namespace Go.Proofs.YtggonakdlloloaaDoor.D

/-- The place of a node's component. -/
def posD (ls : Nat → Nat) (x : Nat) : Nat := (lsts ls (ls x)).length
/-- How many nodes have theirs among the first i. -/
def manyD (ls : Nat → Nat) (N i : Nat) : Nat := ((List.range N).filter fun x => decide (posD ls x < i)).length

section
variable {N : Nat} {E : Nat → List Nat} {ls : Nat → Nat}
theorem ls_idem (h : ∀ x, x < N → IsLeast N E x (ls x)) {k : Nat} (hk : k < N) : ls k ≤ k ∧ ls (ls k) = ls k := by
  obtain ⟨h1, h2, h3, h4⟩ := h k hk
  refine ⟨h4 k (.refl _) (.refl _), ?_⟩
  exact (h (ls k) h1).unique ⟨h1, .refl _, .refl _, fun y h5 h6 => h4 y (h2.trans h5) (h6.trans h3)⟩
end

end Go.Proofs.YtggonakdlloloaaDoor.D
