import Derived.WalkKit

/-
  digraph: components by one search, pure.
-/
namespace Go.Proofs.YtjijagnpcmonbaaDoor.D

/-- A way leads from one node to another. -/
inductive Rch (E : Nat → List Nat) : Nat → Nat → Prop
  | refl (x : Nat) : Rch E x x
  | step {x y z : Nat} : y ∈ E x → Rch E y z → Rch E x z
theorem Rch.trans {E : Nat → List Nat} {x y z : Nat} (h : Rch E x y) (k : Rch E y z) : Rch E x z := by
  induction h with
  | refl _ => exact k
  | step h1 _ ih => exact .step h1 (ih k)
theorem Rch.one {E : Nat → List Nat} {x y : Nat} (h : y ∈ E x) : Rch E x y := .step h (.refl _)

/-- A node on the way: how many of its steps are done with, and what was met behind it and is still open. -/
structure Fr where
  node : Nat
  gone : Nat
  rest : List Nat

/-- The open nodes; the last frame stands first. -/
def opens : List Fr → List Nat
  | [] => []
  | f :: fs => opens fs ++ (f.node :: f.rest)
theorem node_open : ∀ {fs : List Fr} {f : Fr}, f ∈ fs → f.node ∈ opens fs
  | g :: gs, f, h => by
    rcases List.mem_cons.1 h with rfl | h
    · exact List.mem_append_right _ (List.mem_cons_self ..)
    · exact List.mem_append_left _ (node_open h)

/-- How low a frame comes, with the step that is looked at. -/
def mlow (E : Nat → List Nat) (low : Nat → Nat) (f : Fr) : Nat := match (E f.node)[f.gone]? with
  | some t => if low t = 0 then low f.node else min (low f.node) (low t)
  | none => low f.node
theorem mlow_le (E : Nat → List Nat) (low : Nat → Nat) (f : Fr) : mlow E low f ≤ low f.node := by
  unfold mlow
  split
  · split
    · exact Nat.le_refl _
    · exact Nat.min_le_left _ _
  · exact Nat.le_refl _

/-- What holds frame by frame. -/
def Loc (E : Nat → List Nat) (low : Nat → Nat) : List Fr → Prop
  | [] => True
  | f :: fs => f.gone ≤ (E f.node).length ∧ (∀ x ∈ f.rest, Rch E x f.node ∧ Rch E f.node x ∧ mlow E low f ≤ low x) ∧ (∀ g gs, fs = g :: gs → (E g.node)[g.gone]? = some f.node) ∧ Loc E low fs

/-- Step k of a node is done with. -/
def DoneAt (fs : List Fr) (x k : Nat) : Prop := ∀ f ∈ fs, f.node = x → k < f.gone

/-- The search, between two steps. -/
structure TjP (N : Nat) (E : Nat → List Nat) (cl : Nat) (fs : List Fr) (low : Nat → Nat) (C : Nat → Bool) : Prop where
  nd : (opens fs).Nodup
  met : ∀ x, x < N → (low x ≠ 0 ↔ (x ∈ opens fs ∨ C x = true))
  ocl : ∀ x ∈ opens fs, C x = false ∧ x < N
  ccl : ∀ x, C x = true → low x = cl ∧ x < N ∧ ∀ y ∈ E x, C y = true
  plc : ∀ j x, (opens fs)[j]? = some x → 1 ≤ low x ∧ low x ≤ j + 1 ∧ ∃ y, (opens fs)[low x - 1]? = some y ∧ Rch E x y
  done : ∀ x ∈ opens fs, ∀ k y, (E x)[k]? = some y → DoneAt fs x k → low y ≠ 0 ∧ ∀ j, (opens fs)[j]? = some y → low x ≤ j + 1
  loc : Loc E low fs

theorem nodup_len : ∀ (N : Nat) (l : List Nat), l.Nodup → (∀ x ∈ l, x < N) → l.length ≤ N
  | 0, l, _, h => by
    cases l with
    | nil => exact Nat.le_refl _
    | cons x l => exact absurd (h x (List.mem_cons_self ..)) (Nat.not_lt_zero _)
  | N + 1, l, hn, h => by
    by_cases e : N ∈ l
    · have h1 := nodup_len N (l.erase N) (hn.erase N) fun x hx => by
        have h2 := h x (List.mem_of_mem_erase hx)
        have h3 : x ≠ N := fun e2 => by subst e2; exact (hn.not_mem_erase) hx
        omega
      rw [List.length_erase_of_mem e] at h1
      omega
    · have h1 := nodup_len N l hn fun x hx => by
        have h2 := h x hx
        have h3 : x ≠ N := fun e2 => e (by rw [← e2]; exact hx)
        omega
      omega

section
variable {N : Nat} {E : Nat → List Nat} {cl : Nat} {fs : List Fr} {low : Nat → Nat} {C : Nat → Bool}

theorem TjP.len (h : TjP N E cl fs low C) : (opens fs).length ≤ N := nodup_len N _ h.nd fun x hx => (h.ocl x hx).2
/-- Another low of one node. -/
def upd (low : Nat → Nat) (t v : Nat) : Nat → Nat := fun x => if x = t then v else low x
theorem upd_same (low : Nat → Nat) (t v : Nat) : upd low t v t = v := if_pos rfl
theorem upd_other (low : Nat → Nat) {t x : Nat} (v : Nat) (h : x ≠ t) : upd low t v x = low x := if_neg h

/-- Nothing was met. -/
theorem TjP.start : TjP N E cl [] (fun _ => 0) (fun _ => false) :=
  ⟨List.nodup_nil, fun x _ => by simp [opens], fun x h => by simp [opens] at h, fun x h => by simp at h, fun j x h => by simp [opens] at h, fun x h => by simp [opens] at h, trivial⟩

theorem TjP.enter0 {t : Nat} (h : TjP N E cl [] low C) (ht : t < N) (h0 : low t = 0) : TjP N E cl [⟨t, 0, []⟩] (upd low t 1) C := by
  have hC : C t = false := by
    cases e : C t with
    | false => rfl
    | true => exact absurd ((h.met t ht).2 (.inr e)) (by simp [h0])
  have ho : opens [⟨t, 0, []⟩] = [t] := rfl
  refine ⟨by rw [ho]; simp, fun x hx => ?_, fun x hx => ?_, fun x hx => ?_, fun j x hj => ?_, fun x hx k y _ hd => ?_, Nat.zero_le _, fun x hx => by simp at hx, fun g gs e => by simp at e, trivial⟩
  · rw [ho, List.mem_singleton]
    by_cases e : x = t
    · subst e; rw [upd_same]; simp
    · rw [upd_other _ _ e, h.met x hx]; simp [opens, e]
  · rw [ho, List.mem_singleton] at hx; subst hx; exact ⟨hC, ht⟩
  · have e : x ≠ t := fun e => by rw [e, hC] at hx; cases hx
    rw [upd_other _ _ e]; exact h.ccl x hx
  · rw [ho] at hj
    have hj0 : j = 0 := by
      have := (List.getElem?_eq_some_iff.1 hj).1
      simp at this; omega
    subst hj0
    have e : x = t := by simpa using hj.symm
    subst e
    rw [upd_same]
    exact ⟨Nat.le_refl _, Nat.le_refl _, x, by rw [ho]; rfl, .refl _⟩
  · rw [ho, List.mem_singleton] at hx
    subst hx
    exact absurd (hd ⟨x, 0, []⟩ (List.mem_cons_self ..) rfl) (Nat.not_lt_zero _)

theorem loc_mono {low' : Nat → Nat} : ∀ {gs : List Fr}, Loc E low gs → (∀ f ∈ gs, ∀ x ∈ f.rest, mlow E low f ≤ low x → mlow E low' f ≤ low' x) → Loc E low' gs
  | [], _, _ => trivial
  | f :: _, h, hm => ⟨h.1, fun x hx => ⟨(h.2.1 x hx).1, (h.2.1 x hx).2.1, hm f (List.mem_cons_self ..) x hx (h.2.1 x hx).2.2⟩, h.2.2.1, loc_mono h.2.2.2 fun g hg => hm g (List.mem_cons_of_mem _ hg)⟩

theorem rest_open : ∀ {fs : List Fr} {f : Fr} {x : Nat}, f ∈ fs → x ∈ f.rest → x ∈ opens fs
  | g :: gs, f, x, h, hx => by
    rcases List.mem_cons.1 h with rfl | h
    · exact List.mem_append_right _ (List.mem_cons_of_mem _ hx)
    · exact List.mem_append_left _ (rest_open h hx)

theorem TjP.enter {f : Fr} {t : Nat} (h : TjP N E cl (f :: fs) low C) (ht : t < N) (h0 : low t = 0) (he : (E f.node)[f.gone]? = some t) : TjP N E cl (⟨t, 0, []⟩ :: f :: fs) (upd low t ((opens (f :: fs)).length + 1)) C := by
  obtain ⟨O, hO⟩ : ∃ O, O = opens (f :: fs) := ⟨_, rfl⟩
  have ho : opens (⟨t, 0, []⟩ :: f :: fs) = O ++ [t] := by rw [hO]; rfl
  rw [← hO]
  have hC : C t = false := by
    cases e : C t with
    | false => rfl
    | true => exact absurd ((h.met t ht).2 (.inr e)) (by simp [h0])
  have hnt : t ∉ O := fun e => absurd ((h.met t ht).2 (.inl (by rw [← hO]; exact e))) (by simp [h0])
  have hne : ∀ x ∈ O, x ≠ t := fun x hx e => hnt (by rw [← e]; exact hx)
  have hlt : ∀ j x, (O ++ [t])[j]? = some x → (j < O.length ∧ O[j]? = some x) ∨ (j = O.length ∧ x = t) := fun j x hj => by
    by_cases hl : j < O.length
    · rw [List.getElem?_append_left hl] at hj; exact .inl ⟨hl, hj⟩
    · have h1 := (List.getElem?_eq_some_iff.1 hj).1
      rw [List.length_append, List.length_singleton] at h1
      have h2 : j = O.length := by omega
      subst h2
      rw [List.getElem?_append_right (Nat.le_refl _), Nat.sub_self] at hj
      exact .inr ⟨rfl, by simpa using hj.symm⟩
  refine ⟨?_, fun x hx => ?_, fun x hx => ?_, fun x hx => ?_, fun j x hj => ?_, fun x hx k y hk hd => ?_, Nat.zero_le _, fun x hx => by simp at hx, fun g gs e => ?_, ?_⟩
  · rw [ho]
    refine List.nodup_append.2 ⟨by rw [hO]; exact h.nd, by simp, fun a ha b hb e => ?_⟩
    rw [List.mem_singleton] at hb
    exact hnt (by rw [← hb, ← e]; exact ha)
  · rw [ho, List.mem_append, List.mem_singleton]
    by_cases e : x = t
    · subst e; rw [upd_same]; simp
    · rw [upd_other _ _ e, h.met x hx, ← hO]; simp [e]
  · rw [ho, List.mem_append, List.mem_singleton] at hx
    rcases hx with hx | rfl
    · exact h.ocl x (by rw [← hO]; exact hx)
    · exact ⟨hC, ht⟩
  · have e : x ≠ t := fun e => by rw [e, hC] at hx; cases hx
    rw [upd_other _ _ e]; exact h.ccl x hx
  · rw [ho] at hj ⊢
    rcases hlt j x hj with ⟨hl, hj⟩ | ⟨rfl, rfl⟩
    · have hx : x ∈ O := List.mem_of_getElem? hj
      obtain ⟨h1, h2, y, h3, h4⟩ := h.plc j x (by rw [← hO]; exact hj)
      rw [upd_other _ _ (hne x hx)]
      rw [← hO] at h3
      exact ⟨h1, h2, y, by rw [List.getElem?_append_left (by omega)]; exact h3, h4⟩
    · rw [upd_same]
      exact ⟨by omega, Nat.le_refl _, x, by rw [Nat.add_sub_cancel, List.getElem?_append_right (Nat.le_refl _), Nat.sub_self]; rfl, .refl _⟩
  · rw [ho, List.mem_append, List.mem_singleton] at hx
    rcases hx with hx | rfl
    · obtain ⟨h1, h2⟩ := h.done x (by rw [← hO]; exact hx) k y hk fun g hg => hd g (List.mem_cons_of_mem _ hg)
      have e : y ≠ t := fun e => h1 (by rw [e]; exact h0)
      rw [upd_other _ _ e, upd_other _ _ (hne x hx)]
      refine ⟨h1, fun j hj => ?_⟩
      rw [ho] at hj
      rcases hlt j y hj with ⟨_, hj⟩ | ⟨_, e2⟩
      · exact h2 j (by rw [← hO]; exact hj)
      · exact absurd e2 e
    · exact absurd (hd ⟨x, 0, []⟩ (List.mem_cons_self ..) rfl) (Nat.not_lt_zero _)
  · simp only [List.cons.injEq] at e
    rw [← e.1]
    exact he
  · refine loc_mono h.loc fun g hg x hx hm => ?_
    have hx2 : x ∈ O := by rw [hO]; exact rest_open hg hx
    have hg2 : g.node ∈ O := by rw [hO]; exact node_open hg
    rw [upd_other _ _ (hne x hx2)]
    refine Nat.le_trans ?_ hm
    unfold mlow
    rw [upd_other _ _ (hne _ hg2)]
    cases hk : (E g.node)[g.gone]? with
    | none => exact Nat.le_refl _
    | some u =>
      by_cases e : u = t
      · subst e
        simp only [upd_same, h0, if_true]
        split
        · exact Nat.le_refl _
        · exact Nat.min_le_left _ _
      · simp only [upd_other _ _ e]
        exact Nat.le_refl _

theorem nd_node {f : Fr} (h : (opens (f :: fs)).Nodup) : f.node ∉ opens fs ∧ f.node ∉ f.rest ∧ (∀ x ∈ f.rest, x ∉ opens fs) ∧ (opens fs).Nodup ∧ (f.node :: f.rest).Nodup := by
  unfold opens at h
  obtain ⟨h1, h2, h3⟩ := List.nodup_append.1 h
  refine ⟨fun e => h3 _ e _ (List.mem_cons_self ..) rfl, (List.nodup_cons.1 h2).1, fun x hx e => h3 _ e _ (List.mem_cons_of_mem _ hx) rfl, h1, h2⟩

theorem TjP.go {f : Fr} {t : Nat} (h : TjP N E cl (f :: fs) low C) (hcl : N < cl) (ht : t < N) (h0 : low t ≠ 0) (he : (E f.node)[f.gone]? = some t) : TjP N E cl (⟨f.node, f.gone + 1, f.rest⟩ :: fs) (upd low f.node (min (low f.node) (low t))) C := by
  have hf : f.node ∈ opens (f :: fs) := node_open (List.mem_cons_self ..)
  have ho : opens (⟨f.node, f.gone + 1, f.rest⟩ :: fs) = opens (f :: fs) := rfl
  obtain ⟨n1, n2, n3, n4, n5⟩ := nd_node h.nd
  obtain ⟨jf, hjf⟩ := List.mem_iff_getElem?.1 hf
  obtain ⟨p1, p2, yf, p3, p4⟩ := h.plc jf f.node hjf
  have hlen := h.len
  have hjl := (List.getElem?_eq_some_iff.1 hjf).1
  have hle : ∀ x, upd low f.node (min (low f.node) (low t)) x ≤ low x := fun x => by
    by_cases e : x = f.node
    · rw [e, upd_same]; exact Nat.min_le_left _ _
    · rw [upd_other _ _ e]; exact Nat.le_refl _
  have hz : ∀ x, upd low f.node (min (low f.node) (low t)) x = 0 ↔ low x = 0 := fun x => by
    by_cases e : x = f.node
    · subst e; rw [upd_same]; omega
    · rw [upd_other _ _ e]
  have hC : ∀ x, C x = true → x ≠ f.node := fun x hx e => by have := (h.ocl _ hf).1; rw [← e, hx] at this; cases this
  refine ⟨by rw [ho]; exact h.nd, fun x hx => ?_, fun x hx => h.ocl x (by rw [ho] at hx; exact hx), fun x hx => ?_, fun j x hj => ?_, fun x hx k y hk hd => ?_, ?_, fun x hx => ?_, h.loc.2.2.1, ?_⟩
  · rw [ho, ← h.met x hx]
    exact not_congr (hz x)
  · rw [upd_other _ _ (hC x hx)]; exact h.ccl x hx
  · rw [ho] at hj ⊢
    obtain ⟨q1, q2, y, q3, q4⟩ := h.plc j x hj
    by_cases e : x = f.node
    · subst e
      rw [upd_same]
      by_cases hm : low f.node ≤ low t
      · rw [Nat.min_eq_left hm]; exact ⟨q1, q2, y, q3, q4⟩
      · rw [Nat.min_eq_right (by omega)]
        rcases (h.met t ht).1 h0 with hto | htc
        · obtain ⟨jt, hjt⟩ := List.mem_iff_getElem?.1 hto
          obtain ⟨r1, r2, z, r3, r4⟩ := h.plc jt t hjt
          exact ⟨r1, by omega, z, r3, (Rch.one (List.mem_of_getElem? he)).trans r4⟩
        · have := (h.ccl t htc).1
          omega
    · rw [upd_other _ _ e]; exact ⟨q1, q2, y, q3, q4⟩
  · rw [ho] at hx ⊢
    have hold : DoneAt (f :: fs) x k → upd low f.node (min (low f.node) (low t)) y ≠ 0 ∧ ∀ j, (opens (f :: fs))[j]? = some y → upd low f.node (min (low f.node) (low t)) x ≤ j + 1 := fun hd' => by
      obtain ⟨h1, h2⟩ := h.done x hx k y hk hd'
      exact ⟨fun e => h1 ((hz y).1 e), fun j hj => Nat.le_trans (hle x) (h2 j hj)⟩
    by_cases e : x = f.node
    · subst e
      have hk1 : k < f.gone + 1 := hd ⟨f.node, f.gone + 1, f.rest⟩ (List.mem_cons_self ..) rfl
      by_cases hkg : k < f.gone
      · refine hold fun g hg hn => ?_
        rcases List.mem_cons.1 hg with rfl | hg
        · exact hkg
        · exact hd g (List.mem_cons_of_mem _ hg) hn
      · have hkk : k = f.gone := by omega
        subst hkk
        rw [he] at hk
        have e2 : t = y := by simpa using hk
        subst e2
        refine ⟨fun e => h0 ((hz t).1 e), fun j hj => ?_⟩
        rw [upd_same]
        have := (h.plc j t hj).2.1
        omega
    · refine hold fun g hg hn => ?_
      rcases List.mem_cons.1 hg with rfl | hg
      · exact absurd hn.symm e
      · exact hd g (List.mem_cons_of_mem _ hg) hn
  · have := (List.getElem?_eq_some_iff.1 he).1
    show f.gone + 1 ≤ (E f.node).length
    omega
  · obtain ⟨h1, h2, h3⟩ := h.loc.2.1 x hx
    refine ⟨h1, h2, ?_⟩
    have e : x ≠ f.node := fun e => n2 (by rw [← e]; exact hx)
    rw [upd_other _ _ e]
    refine Nat.le_trans (mlow_le _ _ _) ?_
    show upd low f.node (min (low f.node) (low t)) f.node ≤ low x
    rw [upd_same]
    unfold mlow at h3
    rw [he] at h3
    simp only [h0, if_false] at h3
    exact h3
  · refine loc_mono h.loc.2.2.2 fun g hg x hx hm => ?_
    have e : x ≠ f.node := fun e => n1 (by rw [← e]; exact rest_open hg hx)
    have e2 : g.node ≠ f.node := fun e => n1 (by rw [← e]; exact node_open hg)
    rw [upd_other _ _ e]
    refine Nat.le_trans ?_ hm
    unfold mlow
    rw [upd_other _ _ e2]
    cases hk : (E g.node)[g.gone]? with
    | none => exact Nat.le_refl _
    | some u =>
      simp only [hz u]
      split
      · exact Nat.le_refl _
      · have := hle u
        omega

/-- An open node leads to the last one of the way. -/
theorem up_way : ∀ {fs : List Fr} {g : Fr}, Loc E low (g :: fs) → ∀ y ∈ opens (g :: fs), Rch E y g.node
  | [], g, h, y, hy => by
    rcases List.mem_append.1 hy with hy | hy
    · simp [opens] at hy
    · rcases List.mem_cons.1 hy with rfl | hy
      · exact .refl _
      · exact (h.2.1 y hy).1
  | k :: ks, g, h, y, hy => by
    rcases List.mem_append.1 hy with hy | hy
    · exact (up_way h.2.2.2 y hy).trans (.one (List.mem_of_getElem? (h.2.2.1 k ks rfl)))
    · rcases List.mem_cons.1 hy with rfl | hy
      · exact .refl _
      · exact (h.2.1 y hy).1

theorem mlow_end {f : Fr} (hg : f.gone = (E f.node).length) : mlow E low f = low f.node := by
  unfold mlow
  rw [List.getElem?_eq_none (by omega)]

/-- A node is left that leads further down. -/
theorem TjP.leave {f g : Fr} (h : TjP N E cl (f :: g :: fs) low C) (hg : f.gone = (E f.node).length) (hl : low f.node < (opens (g :: fs)).length + 1) : TjP N E cl (⟨g.node, g.gone, g.rest ++ (f.node :: f.rest)⟩ :: fs) low C := by
  have ho : opens (⟨g.node, g.gone, g.rest ++ (f.node :: f.rest)⟩ :: fs) = opens (f :: g :: fs) := by
    show opens fs ++ (g.node :: (g.rest ++ (f.node :: f.rest))) = (opens fs ++ (g.node :: g.rest)) ++ (f.node :: f.rest)
    simp
  have hf : f.node ∈ opens (f :: g :: fs) := node_open (List.mem_cons_self ..)
  obtain ⟨jf, hjf⟩ := List.mem_iff_getElem?.1 hf
  obtain ⟨p1, p2, yf, p3, p4⟩ := h.plc jf f.node hjf
  have hlk := h.loc.2.2.1 g fs rfl
  have hfn : low f.node ≠ 0 := by omega
  have hup : Rch E f.node g.node := by
    refine p4.trans (up_way h.loc.2.2.2 yf ?_)
    have e : opens (f :: g :: fs) = opens (g :: fs) ++ (f.node :: f.rest) := rfl
    rw [e, List.getElem?_append_left (by omega)] at p3
    exact List.mem_of_getElem? p3
  have hdn : Rch E g.node f.node := .one (List.mem_of_getElem? hlk)
  have hmg : mlow E low g ≤ low f.node := by
    unfold mlow
    rw [hlk]
    simp only [hfn, if_false]
    exact Nat.min_le_right _ _
  refine ⟨by rw [ho]; exact h.nd, fun x hx => by rw [ho]; exact h.met x hx, fun x hx => h.ocl x (by rw [ho] at hx; exact hx), h.ccl, fun j x hj => by rw [ho] at hj ⊢; exact h.plc j x hj, fun x hx k y hk hd => ?_, h.loc.2.2.2.1, fun x hx => ?_, h.loc.2.2.2.2.2.1, h.loc.2.2.2.2.2.2⟩
  · rw [ho] at hx ⊢
    refine h.done x hx k y hk fun u hu hn => ?_
    rcases List.mem_cons.1 hu with rfl | hu
    · rw [hg, hn]; exact (List.getElem?_eq_some_iff.1 hk).1
    · rcases List.mem_cons.1 hu with rfl | hu
      · exact hd ⟨u.node, u.gone, u.rest ++ (f.node :: f.rest)⟩ (List.mem_cons_self ..) hn
      · exact hd u (List.mem_cons_of_mem _ hu) hn
  · have hmm : mlow E low ⟨g.node, g.gone, g.rest ++ (f.node :: f.rest)⟩ = mlow E low g := rfl
    rw [hmm]
    rcases List.mem_append.1 hx with hx | hx
    · exact h.loc.2.2.2.2.1 x hx
    · rcases List.mem_cons.1 hx with rfl | hx
      · exact ⟨hup, hdn, hmg⟩
      · obtain ⟨h1, h2, h3⟩ := h.loc.2.1 x hx
        rw [mlow_end hg] at h3
        exact ⟨h1.trans hup, hdn.trans h2, Nat.le_trans hmg h3⟩

/-- A component: what was not handed over yet; all of it leads to all of it, and besides to what was handed over alone. -/
structure CompP (N : Nat) (E : Nat → List Nat) (C : Nat → Bool) (c : List Nat) : Prop where
  ne : c ≠ []
  nd : c.Nodup
  lt : ∀ x ∈ c, x < N ∧ C x = false
  rch : ∀ x ∈ c, ∀ y ∈ c, Rch E x y
  out : ∀ x ∈ c, ∀ y ∈ E x, y ∈ c ∨ C y = true
/-- Nodes more. -/
def addC (C : Nat → Bool) (c : List Nat) : Nat → Bool := fun x => C x || decide (x ∈ c)
theorem addC_iff (C : Nat → Bool) (c : List Nat) (x : Nat) : addC C c x = true ↔ C x = true ∨ x ∈ c := by unfold addC; simp
def lowC (low : Nat → Nat) (cl : Nat) (c : List Nat) : Nat → Nat := fun x => if x ∈ c then cl else low x

/-- A component is handed over. -/
theorem TjP.comp {f : Fr} (h : TjP N E cl (f :: fs) low C) (hcl : N < cl) (hE : ∀ x, x < N → ∀ y ∈ E x, y < N) (hg : f.gone = (E f.node).length) (hl : (opens fs).length + 1 ≤ low f.node) : CompP N E C (f.node :: f.rest) ∧ TjP N E cl fs (lowC low cl (f.node :: f.rest)) (addC C (f.node :: f.rest)) := by
  obtain ⟨n1, n2, n3, n4, n5⟩ := nd_node h.nd
  have ho : opens (f :: fs) = opens fs ++ (f.node :: f.rest) := rfl
  have hco : ∀ x ∈ f.node :: f.rest, x ∈ opens (f :: fs) := fun x hx => List.mem_append_right _ hx
  have hcn : ∀ x ∈ f.node :: f.rest, x ∉ opens fs := fun x hx => by
    rcases List.mem_cons.1 hx with rfl | hx
    · exact n1
    · exact n3 x hx
  have hge : ∀ x ∈ f.node :: f.rest, (opens fs).length + 1 ≤ low x := fun x hx => by
    rcases List.mem_cons.1 hx with rfl | hx
    · exact hl
    · have h3 := (h.loc.2.1 x hx).2.2
      rw [mlow_end hg] at h3
      omega
  have hdA : ∀ x ∈ f.node :: f.rest, ∀ k y, (E x)[k]? = some y → DoneAt (f :: fs) x k := fun x hx k y hk u hu hn => by
    rcases List.mem_cons.1 hu with rfl | hu
    · rw [hg, hn]; exact (List.getElem?_eq_some_iff.1 hk).1
    · exact absurd (by rw [← hn]; exact node_open hu) (hcn x hx)
  have hout : ∀ x ∈ f.node :: f.rest, ∀ y ∈ E x, y ∈ f.node :: f.rest ∨ C y = true := fun x hx y hy => by
    obtain ⟨k, hk⟩ := List.mem_iff_getElem?.1 hy
    obtain ⟨h1, h2⟩ := h.done x (hco x hx) k y hk (hdA x hx k y hk)
    have hyN := hE x (h.ocl x (hco x hx)).2 y hy
    rcases (h.met y hyN).1 h1 with hyo | hyc
    · rw [ho] at hyo
      rcases List.mem_append.1 hyo with hyo | hyo
      · obtain ⟨j, hj⟩ := List.mem_iff_getElem?.1 hyo
        have hjl := (List.getElem?_eq_some_iff.1 hj).1
        have h3 := h2 j (by rw [ho, List.getElem?_append_left hjl]; exact hj)
        have h4 := hge x hx
        omega
      · exact .inl hyo
    · exact .inr hyc
  have hrc : ∀ x ∈ f.node :: f.rest, Rch E x f.node ∧ Rch E f.node x := fun x hx => by
    rcases List.mem_cons.1 hx with rfl | hx
    · exact ⟨.refl _, .refl _⟩
    · exact ⟨(h.loc.2.1 x hx).1, (h.loc.2.1 x hx).2.1⟩
  obtain ⟨c, hc⟩ : ∃ c, c = f.node :: f.rest := ⟨_, rfl⟩
  have hne : c ≠ [] := by rw [hc]; simp
  rw [← hc] at hco hcn hge hdA hout hrc n5 ho ⊢
  have hlo : ∀ x, x ∉ c → lowC low cl c x = low x := fun x hx => if_neg hx
  have hlc : ∀ x, x ∈ c → lowC low cl c x = cl := fun x hx => if_pos hx
  have hnc : ∀ x ∈ opens fs, x ∉ c := fun x hx hx2 => hcn x hx2 hx
  have hpo : ∀ j x, (opens fs)[j]? = some x → (opens (f :: fs))[j]? = some x := fun j x hj => by
    rw [ho, List.getElem?_append_left (List.getElem?_eq_some_iff.1 hj).1]; exact hj
  refine ⟨⟨hne, n5, fun x hx => ⟨(h.ocl x (hco x hx)).2, (h.ocl x (hco x hx)).1⟩, fun x hx y hy => (hrc x hx).1.trans (hrc y hy).2, hout⟩, n4, fun x hx => ?_, fun x hx => ?_, fun x hx => ?_, fun j x hj => ?_, fun x hx k y hk hd => ?_, ?_⟩
  · rw [addC_iff]
    by_cases e : x ∈ c
    · rw [hlc x e]; simp [e]; omega
    · rw [hlo x e, h.met x hx, ho, List.mem_append]; simp [e]
  · have h1 := h.ocl x (by rw [ho]; exact List.mem_append_left _ hx)
    refine ⟨?_, h1.2⟩
    have h2 : ¬ addC C c x = true := by rw [addC_iff, h1.1]; simp [hnc x hx]
    simpa using h2
  · rcases (addC_iff _ _ _).1 hx with hx | hx
    · obtain ⟨h1, h2, h3⟩ := h.ccl x hx
      have e : x ∉ c := fun e => by have := (h.ocl x (hco x e)).1; rw [hx] at this; cases this
      rw [hlo x e]
      exact ⟨h1, h2, fun y hy => (addC_iff _ _ _).2 (.inl (h3 y hy))⟩
    · rw [hlc x hx]
      refine ⟨rfl, (h.ocl x (hco x hx)).2, fun y hy => (addC_iff _ _ _).2 ?_⟩
      rcases hout x hx y hy with h1 | h1
      · exact .inr h1
      · exact .inl h1
  · have hxo := List.mem_of_getElem? hj
    obtain ⟨h1, h2, y, h3, h4⟩ := h.plc j x (hpo j x hj)
    have hjl := (List.getElem?_eq_some_iff.1 hj).1
    rw [hlo x (hnc x hxo)]
    rw [ho, List.getElem?_append_left (by omega)] at h3
    exact ⟨h1, h2, y, h3, h4⟩
  · have hxo : x ∈ opens (f :: fs) := by rw [ho]; exact List.mem_append_left _ hx
    obtain ⟨h1, h2⟩ := h.done x hxo k y hk fun u hu hn => by
      rcases List.mem_cons.1 hu with rfl | hu
      · exact absurd (by rw [hn]; exact hx) n1
      · exact hd u hu hn
    rw [hlo x (hnc x hx)]
    refine ⟨?_, fun j hj => h2 j (hpo j y hj)⟩
    by_cases e : y ∈ c
    · rw [hlc y e]; omega
    · rw [hlo y e]; exact h1
  · refine loc_mono h.loc.2.2.2 fun g hgs x hx hm => ?_
    have hxo := rest_open hgs hx
    have hgo := node_open hgs
    obtain ⟨jx, hjx⟩ := List.mem_iff_getElem?.1 hxo
    have hxl := (h.plc jx x (hpo jx x hjx)).2.1
    have hjl := (List.getElem?_eq_some_iff.1 hjx).1
    rw [hlo x (hnc x hxo)]
    unfold mlow at hm ⊢
    rw [hlo _ (hnc _ hgo)]
    cases hk : (E g.node)[g.gone]? with
    | none => rw [hk] at hm; exact hm
    | some u =>
      rw [hk] at hm
      simp only at hm ⊢
      by_cases e : u ∈ c
      · have h5 := hge u e
        rw [if_neg (by omega)] at hm
        rw [hlc u e]
        split
        · omega
        · omega
      · rw [hlo u e]; exact hm
end

end Go.Proofs.YtjijagnpcmonbaaDoor.D

/-
  digraph: what a taker makes of the components, pure: the least node of each, and what the nodes have to which ways lead.
-/
namespace Go.Proofs.YtjijagnpcmonbaaDoor.D

section
variable {N : Nat} {E : Nat → List Nat} {C : Nat → Bool} {c : List Nat}

/-- What was handed over leads to nothing else. -/
def ClosedC (E : Nat → List Nat) (C : Nat → Bool) : Prop := ∀ x, C x = true → ∀ y ∈ E x, C y = true
theorem ClosedC.start : ClosedC E (fun _ => false) := fun _ h => by cases h
theorem ClosedC.add (h : ClosedC E C) (hc : CompP N E C c) : ClosedC E (addC C c) := fun x hx y hy => by
  rw [addC_iff] at hx ⊢
  rcases hx with hx | hx
  · exact .inl (h x hx y hy)
  · rcases hc.out x hx y hy with h1 | h1
    · exact .inr h1
    · exact .inl h1
theorem ClosedC.rch (h : ClosedC E C) {x y : Nat} (hr : Rch E x y) : C x = true → C y = true := by
  induction hr with
  | refl _ => exact id
  | step h1 _ ih => exact fun hx => ih (h _ hx _ h1)

/-- A way out of a component stays in it, or comes by a step to what was handed over. -/
theorem CompP.way (hc : CompP N E C c) {x y : Nat} (hr : Rch E x y) : x ∈ c → y ∈ c ∨ ∃ z ∈ c, ∃ t ∈ E z, C t = true ∧ Rch E t y := by
  induction hr with
  | refl _ => exact .inl
  | step h1 h2 ih =>
    intro hx
    rcases hc.out _ hx _ h1 with h3 | h3
    · exact ih h3
    · exact .inr ⟨_, hx, _, h1, h3, h2⟩
/-- A component is all that leads both ways. -/
theorem CompP.cls (hc : CompP N E C c) (hC : ClosedC E C) {x y : Nat} (hx : x ∈ c) : (Rch E x y ∧ Rch E y x) ↔ y ∈ c := by
  constructor
  · rintro ⟨h1, h2⟩
    rcases hc.way h1 hx with h3 | ⟨z, _, t, _, h4, h5⟩
    · exact h3
    · have := hC.rch (h5.trans h2) h4
      rw [(hc.lt x hx).2] at this
      cases this
  · intro hy
    exact ⟨hc.rch x hx y hy, hc.rch y hy x hx⟩

/-- The least node of a node's component. -/
def IsLeast (N : Nat) (E : Nat → List Nat) (x l : Nat) : Prop := l < N ∧ Rch E x l ∧ Rch E l x ∧ ∀ y, Rch E x y → Rch E y x → l ≤ y
theorem IsLeast.unique {x l m : Nat} (h : IsLeast N E x l) (k : IsLeast N E x m) : l = m := Nat.le_antisymm (h.2.2.2 m k.2.1 k.2.2.1) (k.2.2.2 l h.2.1 h.2.2.1)
theorem CompP.least (hc : CompP N E C c) (hC : ClosedC E C) {x l : Nat} (hx : x ∈ c) (hl : l ∈ c) (hm : ∀ y ∈ c, l ≤ y) : IsLeast N E x l :=
  ⟨(hc.lt l hl).1, hc.rch x hx l hl, hc.rch l hl x hx, fun y h1 h2 => hm y ((hc.cls hC hx).1 ⟨h1, h2⟩)⟩

/-- A node has a number, of those to which ways lead. -/
def Gets (E : Nat → List Nat) (own : Nat → List Int) (x : Nat) (b : Nat) : Prop := ∃ y, Rch E x y ∧ (b : Int) ∈ own y
/-- Of what was handed over each node has what it should. -/
def SolP (E : Nat → List Nat) (own : Nat → List Int) (C : Nat → Bool) (mk : Nat → Nat) : Prop := ∀ x, C x = true → ∀ b, (mk x).testBit b = true ↔ Gets E own x b
theorem SolP.start {own : Nat → List Int} {mk : Nat → Nat} : SolP E own (fun _ => false) mk := fun _ h => by cases h
/-- What a component's nodes have together, and all that they lead to, is what each of them should have. -/
theorem SolP.step {own : Nat → List Int} {mk : Nat → Nat} {M : Nat} (h : SolP E own C mk) (hc : CompP N E C c) (hM : ∀ b, M.testBit b = true ↔ ((∃ x ∈ c, (b : Int) ∈ own x) ∨ ∃ z ∈ c, ∃ t ∈ E z, C t = true ∧ (mk t).testBit b = true)) : SolP E own (addC C c) (fun x => if x ∈ c then M else mk x) := by
  intro x hx b
  by_cases e : x ∈ c
  · simp only [if_pos e]
    rw [hM]
    constructor
    · rintro (⟨y, hy, hb⟩ | ⟨z, hz, t, ht, hCt, hb⟩)
      · exact ⟨y, hc.rch x e y hy, hb⟩
      · obtain ⟨y, h1, h2⟩ := (h t hCt b).1 hb
        exact ⟨y, (hc.rch x e z hz).trans (.step ht h1), h2⟩
    · rintro ⟨y, h1, h2⟩
      rcases hc.way h1 e with h3 | ⟨z, hz, t, ht, hCt, h5⟩
      · exact .inl ⟨y, h3, h2⟩
      · exact .inr ⟨z, hz, t, ht, hCt, (h t hCt b).2 ⟨y, h5, h2⟩⟩
  · simp only [if_neg e]
    rcases (addC_iff _ _ _).1 hx with h1 | h1
    · exact h x h1 b
    · exact absurd h1 e
end

end Go.Proofs.YtjijagnpcmonbaaDoor.D

/-
  digraph: the components, node by node, pure.
-/
namespace Go.Proofs.YtjijagnpcmonbaaDoor.D

/-- The least nodes among the first k. -/
def lsts (ls : Nat → Nat) (k : Nat) : List Nat := (List.range k).filter fun x => decide (ls x = x)
/-- The components of the first k nodes, each begun by its least one. -/
def cmpL (ls : Nat → Nat) (k : Nat) : List (List Nat) := (lsts ls k).map fun l => (List.range k).filter fun y => decide (ls y = l)
theorem lsts_succ (ls : Nat → Nat) (k : Nat) : lsts ls (k + 1) = lsts ls k ++ (if ls k = k then [k] else []) := by
  unfold lsts
  rw [List.range_succ, List.filter_append]
  congr 1
  by_cases h : ls k = k
  · simp [h]
  · simp [h]
theorem mem_lsts {ls : Nat → Nat} {k x : Nat} : x ∈ lsts ls k ↔ x < k ∧ ls x = x := by
  unfold lsts
  simp
theorem cmpL_length (ls : Nat → Nat) (k : Nat) : (cmpL ls k).length = (lsts ls k).length := by unfold cmpL; simp
/-- A node that is the least of its component begins one. -/
theorem cmpL_new {ls : Nat → Nat} {k : Nat} (hle : ∀ y, y < k → ls y ≤ y) (h : ls k = k) : cmpL ls (k + 1) = cmpL ls k ++ [[k]] := by
  unfold cmpL
  rw [lsts_succ, if_pos h, List.map_append]
  congr 1
  · refine List.map_congr_left fun l hl => ?_
    have hlk := (mem_lsts.1 hl).1
    rw [List.range_succ, List.filter_append]
    have : ¬ k = l := by omega
    simp [h, this]
  · have e : (List.range k).filter (fun y => decide (ls y = k)) = [] := by
      rw [List.filter_eq_nil_iff]
      intro y hy
      have h1 := List.mem_range.1 hy
      have h2 := hle y h1
      simp; omega
    rw [List.range_succ]
    simp [e, h]
/-- The place of a least node. -/
theorem lsts_at {ls : Nat → Nat} : ∀ {k l : Nat}, l < k → ls l = l → (lsts ls k)[(lsts ls l).length]? = some l
  | 0, _, h, _ => absurd h (Nat.not_lt_zero _)
  | k + 1, l, h, hl => by
    rw [lsts_succ]
    by_cases e : l = k
    · subst e
      rw [if_pos hl, List.getElem?_append_right (Nat.le_refl _), Nat.sub_self]
      rfl
    · have h1 := lsts_at (ls := ls) (show l < k by omega) hl
      rw [List.getElem?_append_left (List.getElem?_eq_some_iff.1 h1).1]
      exact h1
theorem lsts_nodup (ls : Nat → Nat) (k : Nat) : (lsts ls k).Nodup := by
  unfold lsts
  exact List.nodup_range.filter _
/-- Another node comes to the end of its component. -/
theorem cmpL_old {ls : Nat → Nat} {k l : Nat} (hl : l < k) (hll : ls l = l) (h : ls k = l) : ∀ j, j < (cmpL ls k).length → (cmpL ls (k + 1)).getD j [] = if j = (lsts ls l).length then (cmpL ls k).getD j [] ++ [k] else (cmpL ls k).getD j [] := by
  intro j hj
  rw [cmpL_length] at hj
  have hk : ¬ ls k = k := by omega
  have hgd : ∀ m, (∀ i, i < (lsts ls m).length → i < (lsts ls m).length) → ∀ (hm : j < (lsts ls m).length), (cmpL ls m).getD j [] = (List.range m).filter fun y => decide (ls y = (lsts ls m)[j]) := fun m _ hm => by
    unfold cmpL
    rw [List.getD_eq_getElem?_getD, List.getElem?_map, List.getElem?_eq_getElem hm]
    rfl
  have e1 : lsts ls (k + 1) = lsts ls k := by rw [lsts_succ, if_neg hk, List.append_nil]
  have hj1 : j < (lsts ls (k + 1)).length := by rw [e1]; exact hj
  rw [hgd (k + 1) (fun _ h => h) hj1, hgd k (fun _ h => h) hj]
  have e2 : (lsts ls (k + 1))[j] = (lsts ls k)[j] := by
    have : (lsts ls (k + 1))[j]? = (lsts ls k)[j]? := by rw [e1]
    rw [List.getElem?_eq_getElem hj1, List.getElem?_eq_getElem hj] at this
    exact Option.some.inj this
  rw [e2, List.range_succ, List.filter_append]
  have hat := lsts_at (ls := ls) hl hll
  by_cases e : j = (lsts ls l).length
  · rw [if_pos e]
    congr 1
    have e3 : (lsts ls k)[j] = l := by
      have : (lsts ls k)[j]? = some l := by rw [e]; exact hat
      rw [List.getElem?_eq_getElem hj] at this
      exact Option.some.inj this
    simp [e3, h]
  · rw [if_neg e]
    have e3 : ¬ ls k = (lsts ls k)[j] := by
      rw [h]
      intro e4
      have e5 : (lsts ls k)[j]? = some l := by rw [List.getElem?_eq_getElem hj, ← e4]
      exact e ((List.getElem?_inj hj (lsts_nodup ls k)).1 (e5.trans hat.symm))
    simp [e3]

end Go.Proofs.YtjijagnpcmonbaaDoor.D

/-
  digraph: the chapter's example, pure: its components, and what its nodes have.
-/
namespace Go.Proofs.YtjijagnpcmonbaaDoor.D

/-- The steps of the example. -/
def exE : Nat → List Nat
  | 0 => [1]
  | 1 => [2]
  | 2 => [1]
  | _ => []
/-- Its own numbers. -/
def exO : Nat → List Int
  | 0 => [5]
  | 1 => [7, 6]
  | 2 => []
  | 3 => [8]
  | _ => []

theorem ex_rch {x y : Nat} (h : Rch exE x y) : (x = 0 ∧ (y = 0 ∨ y = 1 ∨ y = 2)) ∨ ((x = 1 ∨ x = 2) ∧ (y = 1 ∨ y = 2)) ∨ (3 ≤ x ∧ y = x) := by
  induction h with
  | refl x => omega
  | @step x y z h1 _ ih =>
    match x, h1 with
    | 0, h1 =>
      have : y = 1 := by simpa [exE] using h1
      omega
    | 1, h1 =>
      have : y = 2 := by simpa [exE] using h1
      omega
    | 2, h1 =>
      have : y = 1 := by simpa [exE] using h1
      omega
    | n + 3, h1 => simp [exE] at h1
theorem ex01 : Rch exE 0 1 := .one (by simp [exE])
theorem ex12 : Rch exE 1 2 := .one (by simp [exE])
theorem ex21 : Rch exE 2 1 := .one (by simp [exE])

theorem ex_least (ls : Nat → Nat) (h : ∀ x, x < 4 → IsLeast 4 exE x (ls x)) : ls 0 = 0 ∧ ls 1 = 1 ∧ ls 2 = 1 ∧ ls 3 = 3 := by
  refine ⟨(h 0 (by decide)).unique ⟨by decide, .refl _, .refl _, fun y _ _ => Nat.zero_le _⟩, (h 1 (by decide)).unique ⟨by decide, .refl _, .refl _, fun y h1 _ => ?_⟩, (h 2 (by decide)).unique ⟨by decide, ex21, ex12, fun y h1 _ => ?_⟩, (h 3 (by decide)).unique ⟨by decide, .refl _, .refl _, fun y h1 _ => ?_⟩⟩
  · have := ex_rch h1; omega
  · have := ex_rch h1; omega
  · have := ex_rch h1; omega
theorem ex_cmp (ls : Nat → Nat) (h : ∀ x, x < 4 → IsLeast 4 exE x (ls x)) : cmpL ls 4 = [[0], [1, 2], [3]] := by
  obtain ⟨h0, h1, h2, h3⟩ := ex_least ls h
  have e : List.range 4 = [0, 1, 2, 3] := rfl
  unfold cmpL lsts
  rw [e]
  simp [h0, h1, h2, h3]
theorem ex_gets (x b : Nat) (hx : x < 4) : Gets exE exO x b ↔ b ∈ (([[5, 6, 7], [6, 7], [6, 7], [8]] : List (List Nat)).getD x []) := by
  constructor
  · rintro ⟨y, h1, h2⟩
    have h3 := ex_rch h1
    have key : ∀ y, (b : Int) ∈ exO y → (y = 0 ∧ b = 5) ∨ (y = 1 ∧ (b = 7 ∨ b = 6)) ∨ (y = 3 ∧ b = 8) := fun y h => by
      match y, h with
      | 0, h =>
        have : (b : Int) = 5 := by simpa [exO] using h
        omega
      | 1, h =>
        have : (b : Int) = 7 ∨ (b : Int) = 6 := by simpa [exO] using h
        omega
      | 2, h => simp [exO] at h
      | 3, h =>
        have : (b : Int) = 8 := by simpa [exO] using h
        omega
      | n + 4, h => simp [exO] at h
    have h4 := key y h2
    match x, hx with
    | 0, _ => simp; omega
    | 1, _ => simp; omega
    | 2, _ => simp; omega
    | 3, _ => simp; omega
  · intro h
    match x, hx with
    | 0, _ =>
      have : b = 5 ∨ b = 6 ∨ b = 7 := by simpa using h
      rcases this with rfl | rfl | rfl
      · exact ⟨0, .refl _, by simp [exO]⟩
      · exact ⟨1, ex01, by simp [exO]⟩
      · exact ⟨1, ex01, by simp [exO]⟩
    | 1, _ =>
      have : b = 6 ∨ b = 7 := by simpa using h
      rcases this with rfl | rfl
      · exact ⟨1, .refl _, by simp [exO]⟩
      · exact ⟨1, .refl _, by simp [exO]⟩
    | 2, _ =>
      have : b = 6 ∨ b = 7 := by simpa using h
      rcases this with rfl | rfl
      · exact ⟨1, ex21, by simp [exO]⟩
      · exact ⟨1, ex21, by simp [exO]⟩
    | 3, _ =>
      have : b = 8 := by simpa using h
      subst this
      exact ⟨3, .refl _, by simp [exO]⟩

end Go.Proofs.YtjijagnpcmonbaaDoor.D

/-
  digraph: the document's two walks, pure: the order of a walk, and what the second walk, the other way round, makes of it.
-/
namespace Go.Proofs.YtjijagnpcmonbaaDoor.D

/-- Each step out of what stands up to a place leads back to the node of that place. -/
def PoP (E : Nat → List Nat) (S0 : Nat → Bool) (L : List Nat) : Prop := ∀ p u, L[p]? = some u → ∀ x ∈ L.take (p + 1), ∀ y ∈ E x, S0 y = true ∨ y ∈ L.take (p + 1) ∨ Rch E y u
theorem PoP.snoc {E : Nat → List Nat} {S0 : Nat → Bool} {L : List Nat} {u : Nat} (h : PoP E S0 L) (hu : ∀ x ∈ L ++ [u], ∀ y ∈ E x, S0 y = true ∨ y ∈ L ++ [u] ∨ Rch E y u) : PoP E S0 (L ++ [u]) := by
  intro p v hp x hx y hy
  by_cases e : p < L.length
  · rw [List.getElem?_append_left e] at hp
    have e2 : (L ++ [u]).take (p + 1) = L.take (p + 1) := List.take_append_of_le_length (by omega)
    rw [e2] at hx ⊢
    exact h p v hp x hx y hy
  · have hl := (List.getElem?_eq_some_iff.1 hp).1
    rw [List.length_append] at hl
    have e1 : p = L.length := by simp at hl; omega
    subst e1
    rw [List.getElem?_append_right (Nat.le_refl _), Nat.sub_self] at hp
    have hv : u = v := Option.some.inj hp
    subst hv
    have e2 : (L ++ [u]).take (L.length + 1) = L ++ [u] := List.take_of_length_le (by simp)
    rw [e2] at hx ⊢
    exact hu x hx y hy

/-- What stands on a walk's stack: each leads to those above it. -/
def ChP (E : Nat → List Nat) : List (Nat × Nat) → Prop
  | [] => True
  | f :: fs => (∀ g ∈ fs, Rch E g.1 f.1) ∧ ChP E fs
/-- A walk under way: the stack's top stands first. -/
structure WlP (N : Nat) (E : Nat → List Nat) (frm : Nat) (S0 S : Nat → Bool) (st : List (Nat × Nat)) (out : List Nat) : Prop where
  see : ∀ x, S x = true ↔ (S0 x = true ∨ x ∈ out ∨ x ∈ st.map Prod.fst)
  nd : (out ++ st.map Prod.fst).Nodup
  new : ∀ x, x ∈ out ∨ x ∈ st.map Prod.fst → S0 x = false ∧ x < N ∧ Rch E frm x
  fin : frm ∈ out ∨ frm ∈ st.map Prod.fst
  chn : ChP E st
  cnt : ∀ f ∈ st, f.2 ≤ (E f.1).length ∧ ∀ y ∈ (E f.1).take f.2, S y = true
  blk : ∀ x ∈ out, ∀ y ∈ E x, S y = true
  po : PoP E S0 out
theorem WlP.start {N frm : Nat} {E : Nat → List Nat} {S0 : Nat → Bool} (hN : frm < N) (h0 : S0 frm = false) : WlP N E frm S0 (fun x => if x = frm then true else S0 x) [(frm, 0)] [] := by
  refine ⟨fun x => ?_, by simp, fun x hx => ?_, .inr (by simp), ⟨fun g hg => (by cases hg), trivial⟩, fun f hf => ?_, fun x hx => (by cases hx), fun p u hp => (by simp at hp)⟩
  · by_cases e : x = frm
    · simp [e]
    · simp [e]
  · have e : x = frm := by simpa using hx
    rw [e]; exact ⟨h0, hN, .refl _⟩
  · rw [List.mem_singleton.1 hf]
    exact ⟨Nat.zero_le _, fun y hy => by simp at hy⟩
section
variable {N frm : Nat} {E : Nat → List Nat} {S0 S : Nat → Bool} {st : List (Nat × Nat)} {out : List Nat}
/-- The top is done with. -/
theorem WlP.pop {u c : Nat} (h : WlP N E frm S0 S ((u, c) :: st) out) (hc : c = (E u).length) : WlP N E frm S0 S st (out ++ [u]) := by
  have hm : ∀ x, (x ∈ out ++ [u] ∨ x ∈ st.map Prod.fst) ↔ (x ∈ out ∨ x ∈ ((u, c) :: st).map Prod.fst) := fun x => by
    rw [List.mem_append, List.mem_singleton, List.map_cons, List.mem_cons]
    constructor
    · rintro ((h1 | h1) | h1)
      · exact .inl h1
      · exact .inr (.inl h1)
      · exact .inr (.inr h1)
    · rintro (h1 | h1 | h1)
      · exact .inl (.inl h1)
      · exact .inl (.inr h1)
      · exact .inr h1
  have hu := (h.cnt (u, c) (List.mem_cons_self ..)).2
  simp only [hc, List.take_length] at hu
  have hb : ∀ x ∈ out ++ [u], ∀ y ∈ E x, S y = true := fun x hx y hy => by
    rcases List.mem_append.1 hx with h1 | h1
    · exact h.blk x h1 y hy
    · rw [List.mem_singleton.1 h1] at hy; exact hu y hy
  refine ⟨fun x => by rw [h.see x, hm x], ?_, fun x hx => h.new x ((hm x).1 hx), (hm frm).2 h.fin, h.chn.2, fun f hf => h.cnt f (List.mem_cons_of_mem _ hf), hb, h.po.snoc fun x hx y hy => ?_⟩
  · have := h.nd
    rw [List.append_assoc]
    simpa using this
  · rcases (h.see y).1 (hb x hx y hy) with h1 | h1 | h1
    · exact .inl h1
    · exact .inr (.inl (List.mem_append_left _ h1))
    · right
      simp only [List.map_cons, List.mem_cons] at h1
      rcases h1 with h1 | h1
      · exact .inl (List.mem_append_right _ (List.mem_singleton.2 h1))
      · right
        obtain ⟨g, hg, rfl⟩ := List.mem_map.1 h1
        exact h.chn.1 g hg
/-- A step to what was seen. -/
theorem WlP.skip {u c : Nat} (h : WlP N E frm S0 S ((u, c) :: st) out) (hc : c < (E u).length) (hs : S ((E u).getD c 0) = true) : WlP N E frm S0 S ((u, c + 1) :: st) out := by
  have e : (E u).getD c 0 = (E u)[c] := by rw [List.getD_eq_getElem?_getD, List.getElem?_eq_getElem hc]; rfl
  refine ⟨h.see, h.nd, h.new, h.fin, h.chn, fun f hf => ?_, h.blk, h.po⟩
  rcases List.mem_cons.1 hf with h1 | h1
  · rw [h1]
    refine ⟨hc, fun y hy => ?_⟩
    rw [List.take_succ_eq_append_getElem hc] at hy
    rcases List.mem_append.1 hy with h2 | h2
    · exact (h.cnt (u, c) (List.mem_cons_self ..)).2 y h2
    · rw [List.mem_singleton.1 h2, ← e]; exact hs
  · exact h.cnt f (List.mem_cons_of_mem _ h1)
/-- A step to what was not. -/
theorem WlP.push {u c : Nat} (h : WlP N E frm S0 S ((u, c) :: st) out) (hc : c < (E u).length) (hs : S ((E u).getD c 0) = false) (hN : (E u).getD c 0 < N) : WlP N E frm S0 (fun x => if x = (E u).getD c 0 then true else S x) (((E u).getD c 0, 0) :: (u, c + 1) :: st) out := by
  have e : (E u).getD c 0 = (E u)[c] := by rw [List.getD_eq_getElem?_getD, List.getElem?_eq_getElem hc]; rfl
  have hm : (E u).getD c 0 ∈ E u := by rw [e]; exact List.getElem_mem hc
  obtain ⟨t, ht⟩ : ∃ t, t = (E u).getD c 0 := ⟨_, rfl⟩
  rw [← ht] at hs hN hm e ⊢
  have hnot : ¬ (t ∈ out ∨ t ∈ ((u, c) :: st).map Prod.fst) := fun h1 => by
    have := (h.see t).2 (.inr h1)
    rw [hs] at this; cases this
  have h0 : S0 t = false := by
    cases h1 : S0 t with
    | false => rfl
    | true => have := (h.see t).2 (.inl h1); rw [hs] at this; cases this
  have up : ∀ x, S x = true → (fun x => if x = t then true else S x) x = true := fun x hx => by show (if x = t then true else S x) = true; split <;> simp [hx]
  have hmap : (((t, 0) :: (u, c + 1) :: st).map Prod.fst) = t :: ((u, c) :: st).map Prod.fst := rfl
  have hur := (h.new u (.inr (by simp))).2.2
  refine ⟨fun x => ?_, ?_, fun x hx => ?_, ?_, ⟨fun g hg => ?_, h.chn⟩, fun f hf => ?_, fun x hx y hy => up y (h.blk x hx y hy), h.po⟩
  · rw [hmap, List.mem_cons]
    by_cases e2 : x = t
    · simp [e2]
    · simp only [e2, false_or]
      exact h.see x
  · rw [hmap]
    refine List.nodup_append.2 ⟨(List.nodup_append.1 h.nd).1, List.nodup_cons.2 ⟨fun h1 => hnot (.inr h1), (List.nodup_append.1 h.nd).2.1⟩, fun a ha b hb e2 => ?_⟩
    rcases List.mem_cons.1 hb with h1 | h1
    · exact hnot (.inl (by rw [← h1, ← e2]; exact ha))
    · exact (List.nodup_append.1 h.nd).2.2 a ha b h1 e2
  · rw [hmap, List.mem_cons] at hx
    rcases hx with h1 | h1 | h1
    · exact h.new x (.inl h1)
    · rw [h1]; exact ⟨h0, hN, hur.trans (.one hm)⟩
    · exact h.new x (.inr h1)
  · rw [hmap, List.mem_cons]
    rcases h.fin with h1 | h1
    · exact .inl h1
    · exact .inr (.inr h1)
  · rcases List.mem_cons.1 hg with h1 | h1
    · rw [h1]; exact .one hm
    · exact (h.chn.1 g h1).trans (.one hm)
  · rcases List.mem_cons.1 hf with h1 | h1
    · rw [h1]; exact ⟨Nat.zero_le _, fun y hy => by simp at hy⟩
    · rcases List.mem_cons.1 h1 with h1 | h1
      · rw [h1]
        refine ⟨hc, fun y hy => ?_⟩
        rw [List.take_succ_eq_append_getElem hc, ← e] at hy
        rcases List.mem_append.1 hy with h2 | h2
        · exact up y ((h.cnt (u, c) (List.mem_cons_self ..)).2 y h2)
        · rw [List.mem_singleton.1 h2]; simp
      · exact ⟨(h.cnt f (List.mem_cons_of_mem _ h1)).1, fun y hy => up y ((h.cnt f (List.mem_cons_of_mem _ h1)).2 y hy)⟩
end

/-- What a walk comes to. -/
structure WdP (N : Nat) (E : Nat → List Nat) (frm : Nat) (S0 S : Nat → Bool) (out : List Nat) : Prop where
  see : ∀ x, S x = true ↔ (S0 x = true ∨ x ∈ out)
  nd : out.Nodup
  new : ∀ x ∈ out, S0 x = false ∧ x < N ∧ Rch E frm x
  fin : frm ∈ out
  blk : ∀ x ∈ out, ∀ y ∈ E x, S y = true
  po : PoP E S0 out
theorem WlP.done {N frm : Nat} {E : Nat → List Nat} {S0 S : Nat → Bool} {out : List Nat} (h : WlP N E frm S0 S [] out) : WdP N E frm S0 S out := by
  refine ⟨fun x => by simpa using h.see x, by simpa using h.nd, fun x hx => h.new x (.inl hx), ?_, h.blk, h.po⟩
  rcases h.fin with h1 | h1
  · exact h1
  · simp at h1

/-- The first walk, node by node: the order so far, which leads to nothing else. -/
structure OrP (N : Nat) (E : Nat → List Nat) (S : Nat → Bool) (L : List Nat) : Prop where
  see : ∀ x, S x = true ↔ x ∈ L
  nd : L.Nodup
  lt : ∀ x ∈ L, x < N
  cl : ∀ x ∈ L, ∀ y ∈ E x, y ∈ L
  po : PoP E (fun _ => false) L
theorem OrP.start {N : Nat} {E : Nat → List Nat} : OrP N E (fun _ => false) [] := ⟨fun x => by simp, List.Pairwise.nil, fun x h => (by cases h), fun x h => (by cases h), fun p u hp => (by simp at hp)⟩
theorem OrP.more {N frm : Nat} {E : Nat → List Nat} {S S' : Nat → Bool} {L out : List Nat} (h : OrP N E S L) (k : WdP N E frm S S' out) : OrP N E S' (L ++ out) := by
  refine ⟨fun x => by rw [k.see x, h.see x, List.mem_append], List.nodup_append.2 ⟨h.nd, k.nd, fun a ha b hb e => ?_⟩, fun x hx => ?_, fun x hx y hy => ?_, fun p u hp x hx y hy => ?_⟩
  · have h1 := (k.new b hb).1
    rw [← e, (h.see a).2 ha] at h1; cases h1
  · rcases List.mem_append.1 hx with h1 | h1
    · exact h.lt x h1
    · exact (k.new x h1).2.1
  · rcases List.mem_append.1 hx with h1 | h1
    · exact List.mem_append_left _ (h.cl x h1 y hy)
    · rcases (k.see y).1 (k.blk x h1 y hy) with h2 | h2
      · exact List.mem_append_left _ ((h.see y).1 h2)
      · exact List.mem_append_right _ h2
  · right
    by_cases e : p < L.length
    · rw [List.getElem?_append_left e] at hp
      have e2 : (L ++ out).take (p + 1) = L.take (p + 1) := List.take_append_of_le_length (by omega)
      rw [e2] at hx ⊢
      rcases h.po p u hp x hx y hy with h1 | h1
      · cases h1
      · exact h1
    · rw [List.getElem?_append_right (by omega)] at hp
      have e2 : (L ++ out).take (p + 1) = L ++ out.take (p - L.length + 1) := by
        rw [List.take_append, List.take_of_length_le (by omega)]
        congr 2
        omega
      rw [e2] at hx ⊢
      rcases List.mem_append.1 hx with h1 | h1
      · exact .inl (List.mem_append_left _ (h.cl x h1 y hy))
      · rcases k.po (p - L.length) u hp x h1 y hy with h2 | h2 | h2
        · exact .inl (List.mem_append_left _ ((h.see y).1 h2))
        · exact .inl (List.mem_append_right _ h2)
        · exact .inr h2

/-- A way of so many steps, within a list. -/
inductive WayN (E : Nat → List Nat) (A : List Nat) : Nat → Nat → Nat → Prop
  | refl {x : Nat} : x ∈ A → WayN E A 0 x x
  | step {m x y z : Nat} : x ∈ A → y ∈ E x → WayN E A m y z → WayN E A (m + 1) x z
theorem WayN.split {E : Nat → List Nat} {A T : List Nat} {m u v : Nat} (h : WayN E A m u v) : u ∈ T → v ∉ T → ∃ x y j, x ∈ T ∧ y ∈ E x ∧ y ∉ T ∧ j < m ∧ WayN E A j y v := by
  induction h with
  | refl _ => exact fun h1 h2 => absurd h1 h2
  | @step m x y z hx hy hw ih =>
    intro h1 h2
    by_cases e : y ∈ T
    · obtain ⟨a, b, j, g1, g2, g3, g4, g5⟩ := ih e h2
      exact ⟨a, b, j, g1, g2, g3, by omega, g5⟩
    · exact ⟨x, y, m, h1, hy, e, by omega, hw⟩
theorem WayN.head {E : Nat → List Nat} {A : List Nat} {m u v : Nat} (h : WayN E A m u v) : u ∈ A := by cases h <;> assumption
/-- What leads to a node by nodes that stand no later leads back from it. -/
theorem po_back {E : Nat → List Nat} {L : List Nat} (hp : PoP E (fun _ => false) L) (hn : L.Nodup) {q v : Nat} (hq : L[q]? = some v) : ∀ m u, WayN E (L.take (q + 1)) m u v → Rch E v u := by
  intro m
  induction m using Nat.strongRecOn with
  | _ m ih =>
    intro u hw
    obtain ⟨p, hpl, e⟩ := List.getElem_of_mem hw.head
    rw [List.length_take] at hpl
    rw [List.getElem_take] at e
    by_cases e2 : p = q
    · subst e2
      rw [List.getElem?_eq_getElem (by omega)] at hq
      have : v = u := (Option.some.inj hq).symm.trans e
      rw [this]; exact .refl _
    · have hpu : L[p]? = some u := by rw [List.getElem?_eq_getElem (by omega), e]
      have hu : u ∈ L.take (p + 1) := by
        rw [← e]
        exact List.mem_of_getElem? (i := p) (by rw [List.getElem?_take, if_pos (by omega)]; exact List.getElem?_eq_getElem _)
      have hv : v ∉ L.take (p + 1) := fun h => by
        obtain ⟨j, hj, e3⟩ := List.getElem_of_mem h
        rw [List.length_take] at hj
        rw [List.getElem_take] at e3
        have h4 : L[j]? = L[q]? := by rw [hq, List.getElem?_eq_getElem (by omega), e3]
        have := (List.getElem?_inj (by omega) hn).1 h4
        omega
      obtain ⟨x, y, j, hx, hy, hny, hj, hw2⟩ := hw.split hu hv
      rcases hp p u hpu x hx y hy with h1 | h1 | h1
      · cases h1
      · exact absurd h1 hny
      · exact (ih j hj y hw2).trans h1

/-- The second walk, node by node: numbers of components. -/
structure NbP (N : Nat) (E : Nat → List Nat) (S : Nat → Bool) (num : Nat → Nat) (c : Nat) : Prop where
  lt : ∀ x, S x = true → x < N ∧ num x < c
  prd : ∀ x y, x < N → y ∈ E x → S y = true → S x = true
  cls : ∀ x y, S x = true → S y = true → (num x = num y ↔ (Rch E x y ∧ Rch E y x))
  ord : ∀ x y, S x = true → S y = true → y ∈ E x → num x ≤ num y
  all : ∀ j, j < c → ∃ x, S x = true ∧ num x = j
theorem NbP.start {N : Nat} {E : Nat → List Nat} {num : Nat → Nat} : NbP N E (fun _ => false) num 0 := ⟨fun x h => (by cases h), fun x y _ _ h => (by cases h), fun x y h => (by cases h), fun x y h => (by cases h), fun j h => absurd h (Nat.not_lt_zero _)⟩
section
variable {N : Nat} {E F : Nat → List Nat} {S S' : Nat → Bool} {num : Nat → Nat} {c q v : Nat} {L out : List Nat}
theorem NbP.rch (h : NbP N E S num c) (hE : ∀ x, x < N → ∀ y ∈ E x, y < N) {x y : Nat} (hr : Rch E x y) : x < N → S y = true → S x = true := by
  induction hr with
  | refl _ => exact fun _ h => h
  | step h1 _ ih => exact fun hx hy => h.prd _ _ hx h1 (ih (hE _ hx _ h1) hy)
/-- The other way round. -/
theorem rch_rev (hF : ∀ x y, x < N → y < N → (y ∈ E x ↔ x ∈ F y)) (hFN : ∀ x, x < N → ∀ y ∈ F x, y < N) {x y : Nat} (hr : Rch F x y) : x < N → y < N ∧ Rch E y x := by
  induction hr with
  | refl _ => exact fun hx => ⟨hx, .refl _⟩
  | step h1 _ ih =>
    intro hx
    have h2 := hFN _ hx _ h1
    obtain ⟨h3, h4⟩ := ih h2
    exact ⟨h3, h4.trans (.one ((hF _ _ h2 hx).2 h1))⟩
theorem NbP.way (h : NbP N E S num c) (hE : ∀ x, x < N → ∀ y ∈ E x, y < N) {A : List Nat} (hA : ∀ x, x < N → S x = false → x ∈ A) {u v : Nat} (hr : Rch E u v) : u < N → S u = false → ∃ m, WayN E A m u v := by
  induction hr with
  | refl x => exact fun hx hv => ⟨0, .refl (hA x hx hv)⟩
  | @step x y z h1 h2 ih =>
    intro hx hs
    have hy := hE x hx y h1
    have hsy : S y = false := by
      cases hsy : S y with
      | false => rfl
      | true => have := h.prd x y hx h1 hsy; rw [hs] at this; cases this
    obtain ⟨m, hm⟩ := ih hy hsy
    exact ⟨m + 1, .step (hA x hx hs) h1 hm⟩
/-- What the second walk gathers from the last node that was not seen is its component. -/
theorem NbP.more (h : NbP N E S num c) (hE : ∀ x, x < N → ∀ y ∈ E x, y < N) (hF : ∀ x y, x < N → y < N → (y ∈ E x ↔ x ∈ F y)) (hFN : ∀ x, x < N → ∀ y ∈ F x, y < N) (hn : L.Nodup) (hpo : PoP E (fun _ => false) L) (hall : ∀ x, x < N → x ∈ L) (hq : L[q]? = some v) (hv : v < N) (hlate : ∀ p x, q < p → L[p]? = some x → S x = true) (k : WdP N F v S S' out) : NbP N E S' (fun x => if x ∈ out then c else num x) (c + 1) := by
  have hA : ∀ x, x < N → S x = false → x ∈ L.take (q + 1) := fun x hx hs => by
    obtain ⟨p, hp, e⟩ := List.getElem_of_mem (hall x hx)
    by_cases e2 : q < p
    · have := hlate p x e2 (by rw [List.getElem?_eq_getElem hp, e])
      rw [hs] at this; cases this
    · exact List.mem_of_getElem? (i := p) (by rw [List.getElem?_take, if_pos (by omega), List.getElem?_eq_getElem hp, e])
  have hto : ∀ x ∈ out, Rch E x v ∧ Rch E v x := fun x hx => by
    obtain ⟨h1, h2, h3⟩ := k.new x hx
    have h4 := (rch_rev hF hFN h3 hv).2
    obtain ⟨m, hm⟩ := h.way hE hA h4 h2 h1
    exact ⟨h4, po_back hpo hn hq m x hm⟩
  have hno : ∀ x, S x = true → x ∉ out := fun x hx h1 => by
    have := (k.new x h1).1
    rw [hx] at this; cases this
  have hold : ∀ x, S' x = true → x ∉ out → S x = true := fun x hx h1 => ((k.see x).1 hx).resolve_right h1
  have hlt : ∀ x, S' x = true → x < N := fun x hx => by
    rcases (k.see x).1 hx with h1 | h1
    · exact (h.lt x h1).1
    · exact (k.new x h1).2.1
  refine ⟨fun x hx => ⟨hlt x hx, ?_⟩, fun x y hx hy hs => ?_, fun x y hx hy => ?_, fun x y hx hy he => ?_, fun j hj => ?_⟩
  · show (if x ∈ out then c else num x) < c + 1
    by_cases e : x ∈ out
    · rw [if_pos e]; omega
    · rw [if_neg e]; have := (h.lt x (hold x hx e)).2; omega
  · rcases (k.see y).1 hs with h1 | h1
    · exact (k.see x).2 (.inl (h.prd x y hx hy h1))
    · exact k.blk y h1 x ((hF x y hx (k.new y h1).2.1).1 hy)
  · show ((if x ∈ out then c else num x) = (if y ∈ out then c else num y)) ↔ _
    by_cases e1 : x ∈ out
    · by_cases e2 : y ∈ out
      · rw [if_pos e1, if_pos e2]
        refine ⟨fun _ => ?_, fun _ => rfl⟩
        obtain ⟨a1, a2⟩ := hto x e1
        obtain ⟨b1, b2⟩ := hto y e2
        exact ⟨a1.trans b2, b1.trans a2⟩
      · rw [if_pos e1, if_neg e2]
        have hy' := hold y hy e2
        have h3 := (h.lt y hy').2
        refine ⟨fun h4 => by omega, fun ⟨h4, _⟩ => ?_⟩
        have := h.rch hE h4 (hlt x hx) hy'
        exact absurd e1 (hno x this)
    · by_cases e2 : y ∈ out
      · rw [if_neg e1, if_pos e2]
        have hx' := hold x hx e1
        have h3 := (h.lt x hx').2
        refine ⟨fun h4 => by omega, fun ⟨_, h4⟩ => ?_⟩
        have := h.rch hE h4 (hlt y hy) hx'
        exact absurd e2 (hno y this)
      · rw [if_neg e1, if_neg e2]
        exact h.cls x y (hold x hx e1) (hold y hy e2)
  · show (if x ∈ out then c else num x) ≤ (if y ∈ out then c else num y)
    by_cases e1 : x ∈ out
    · by_cases e2 : y ∈ out
      · rw [if_pos e1, if_pos e2]; exact Nat.le_refl _
      · exact absurd e1 (hno x (h.prd x y (hlt x hx) he (hold y hy e2)))
    · by_cases e2 : y ∈ out
      · rw [if_neg e1, if_pos e2]
        have := (h.lt x (hold x hx e1)).2
        omega
      · rw [if_neg e1, if_neg e2]
        exact h.ord x y (hold x hx e1) (hold y hy e2) he
  · by_cases e : j = c
    · exact ⟨v, (k.see v).2 (.inr k.fin), by show (if v ∈ out then c else num v) = j; rw [if_pos k.fin, e]⟩
    · obtain ⟨x, h1, h2⟩ := h.all j (by omega)
      exact ⟨x, (k.see x).2 (.inl h1), by show (if x ∈ out then c else num x) = j; rw [if_neg (hno x h1), h2]⟩
end

end Go.Proofs.YtjijagnpcmonbaaDoor.D

/-
  digraph: the components, as DigraphWays looks at them, pure.
-/
namespace Go.Proofs.YtjijagnpcmonbaaDoor.D

/-- The place of a node's component. -/
def posD (ls : Nat → Nat) (x : Nat) : Nat := (lsts ls (ls x)).length
/-- How many nodes have theirs among the first i. -/
def manyD (ls : Nat → Nat) (N i : Nat) : Nat := ((List.range N).filter fun x => decide (posD ls x < i)).length

section
variable {N : Nat} {E : Nat → List Nat} {ls : Nat → Nat}
theorem ls_idem (h : ∀ x, x < N → IsLeast N E x (ls x)) {k : Nat} (hk : k < N) : ls k ≤ k ∧ ls (ls k) = ls k := by
  obtain ⟨h1, h2, h3, h4⟩ := h k hk
  refine ⟨h4 k (.refl _) (.refl _), ?_⟩
  exact (h (ls k) h1).unique ⟨h1, .refl _, .refl _, fun y h5 h6 => h4 y (h2.trans h5) (h6.trans h3)⟩
theorem pos_at (h : ∀ x, x < N → IsLeast N E x (ls x)) {x : Nat} (hx : x < N) : (lsts ls N)[posD ls x]? = some (ls x) := by
  obtain ⟨h1, h2⟩ := ls_idem h hx
  exact lsts_at (by omega) h2
theorem pos_inj (h : ∀ x, x < N → IsLeast N E x (ls x)) {x y : Nat} (hx : x < N) (hy : y < N) : posD ls x = posD ls y ↔ (Rch E x y ∧ Rch E y x) := by
  constructor
  · intro e
    have h1 := pos_at h hx
    rw [e, pos_at h hy] at h1
    have e2 : ls x = ls y := (Option.some.inj h1).symm
    obtain ⟨_, a1, a2, _⟩ := h x hx
    obtain ⟨_, b1, b2, _⟩ := h y hy
    rw [e2] at a1 a2
    exact ⟨a1.trans b2, b1.trans a2⟩
  · rintro ⟨h1, h2⟩
    have e : ls x = ls y := by
      refine (h x hx).unique ?_
      obtain ⟨b0, b1, b2, b3⟩ := h y hy
      exact ⟨b0, h1.trans b1, b2.trans h2, fun z z1 z2 => b3 z (h2.trans z1) (z2.trans h1)⟩
    unfold posD
    rw [e]
end

end Go.Proofs.YtjijagnpcmonbaaDoor.D

/-
  digraph: the document's numbers of components, pure: what Components and Solve make of them.
-/
namespace Go.Proofs.YtjijagnpcmonbaaDoor.D

theorem rch_lt {N : Nat} {E : Nat → List Nat} (hE : ∀ x, x < N → ∀ y ∈ E x, y < N) {x y : Nat} (h : Rch E x y) : x < N → y < N := by
  induction h with
  | refl _ => exact id
  | step h1 _ ih => exact fun hx => ih (hE _ hx _ h1)
/-- Numbers of components, such that what a component leads to has no greater one. -/
structure PnP (N : Nat) (E : Nat → List Nat) (o : Nat → Nat) (c : Nat) : Prop where
  lt : ∀ x, x < N → o x < c
  cls : ∀ x y, x < N → y < N → (o x = o y ↔ (Rch E x y ∧ Rch E y x))
  ord : ∀ x y, x < N → y < N → y ∈ E x → o y ≤ o x
  all : ∀ j, j < c → ∃ x, x < N ∧ o x = j
theorem NbP.pn {N c : Nat} {E : Nat → List Nat} {S : Nat → Bool} {num : Nat → Nat} (h : NbP N E S num c) (hA : ∀ x, x < N → S x = true) : PnP N E (fun x => c - 1 - num x) c := by
  have hl : ∀ x, x < N → num x < c := fun x hx => (h.lt x (hA x hx)).2
  refine ⟨fun x hx => by have := hl x hx; show c - 1 - num x < c; omega, fun x y hx hy => ?_, fun x y hx hy he => ?_, fun j hj => ?_⟩
  · rw [← h.cls x y (hA x hx) (hA y hy)]
    have h1 := hl x hx
    have h2 := hl y hy
    show c - 1 - num x = c - 1 - num y ↔ _
    omega
  · have := h.ord x y (hA x hx) (hA y hy) he
    show c - 1 - num y ≤ c - 1 - num x
    omega
  · obtain ⟨x, h1, h2⟩ := h.all (c - 1 - j) (by omega)
    exact ⟨x, (h.lt x h1).1, by show c - 1 - num x = j; omega⟩

section
variable {N c : Nat} {E : Nat → List Nat} {o ls : Nat → Nat}
/-- One more than the place of each component that has begun among the first k nodes. -/
def AtP (N : Nat) (o ls : Nat → Nat) (k : Nat) (A : Nat → Nat) : Prop := ∀ x, x < N → A (o x) = if ls x < k then posD ls x + 1 else 0
theorem AtP.start {A : Nat → Nat} (hA : ∀ j, A j = 0) : AtP N o ls 0 A := fun x _ => by rw [hA, if_neg (Nat.not_lt_zero _)]
theorem AtP.new (h : PnP N E o c) (hl : ∀ x, x < N → IsLeast N E x (ls x)) {k : Nat} {A : Nat → Nat} (hA : AtP N o ls k A) (hk : k < N) (e : ls k = k) : AtP N o ls (k + 1) (fun j => if j = o k then (lsts ls k).length + 1 else A j) := by
  intro x hx
  show (if o x = o k then (lsts ls k).length + 1 else A (o x)) = _
  by_cases e1 : o x = o k
  · rw [if_pos e1]
    have h1 := (pos_inj hl hx hk).2 ((h.cls x k hx hk).1 e1)
    have h2 : ls x = k := by
      have a1 := pos_at hl hx
      rw [h1, pos_at hl hk] at a1
      rw [← e]; exact (Option.some.inj a1).symm
    rw [if_pos (by omega)]
    unfold posD
    rw [h2]
  · rw [if_neg e1, hA x hx]
    have h2 : ls x ≠ k := fun h3 => e1 ((h.cls x k hx hk).2 (by
      obtain ⟨_, b1, b2, _⟩ := hl x hx
      rw [h3] at b1 b2
      exact ⟨b1, b2⟩))
    by_cases e2 : ls x < k
    · rw [if_pos e2, if_pos (by omega)]
    · rw [if_neg e2, if_neg (by omega)]
/-- The nodes of a number. -/
def cmN (N : Nat) (o : Nat → Nat) (j : Nat) : List Nat := (List.range N).filter fun x => decide (o x = j)
theorem mem_cmN {j x : Nat} : x ∈ cmN N o j ↔ x < N ∧ o x = j := by unfold cmN; simp
/-- They are a component beside those of lower numbers. -/
theorem PnP.comp (h : PnP N E o c) (hE : ∀ x, x < N → ∀ y ∈ E x, y < N) {j : Nat} (hj : j < c) : CompP N E (fun x => decide (x < N ∧ o x < j)) (cmN N o j) := by
  refine ⟨fun e => ?_, by unfold cmN; exact List.nodup_range.filter _, fun x hx => ?_, fun x hx y hy => ?_, fun x hx y hy => ?_⟩
  · obtain ⟨x, h1, h2⟩ := h.all j hj
    have := mem_cmN.2 ⟨h1, h2⟩
    rw [e] at this; cases this
  · obtain ⟨h1, h2⟩ := mem_cmN.1 hx
    exact ⟨h1, by simp; omega⟩
  · obtain ⟨h1, h2⟩ := mem_cmN.1 hx
    obtain ⟨h3, h4⟩ := mem_cmN.1 hy
    exact ((h.cls x y h1 h3).1 (h2.trans h4.symm)).1
  · obtain ⟨h1, h2⟩ := mem_cmN.1 hx
    have h3 := hE x h1 y hy
    have h4 := h.ord x y h1 h3 hy
    by_cases e : o y = j
    · exact .inl (mem_cmN.2 ⟨h3, e⟩)
    · right
      simp
      exact ⟨h3, by omega⟩
end

end Go.Proofs.YtjijagnpcmonbaaDoor.D
