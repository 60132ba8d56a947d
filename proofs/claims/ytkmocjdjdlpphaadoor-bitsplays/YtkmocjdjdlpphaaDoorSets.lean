/-
  Several sets of one size in memory, each in a block of its own: what the calls do to them.
-/
import Derived.Test.YtkmocjdjdlpphaaDoorNothingSteps
namespace Go.Proofs.YtkmocjdjdlpphaaDoor
open Go.RowKit Go.Shelf

/-- The sets S (block, members), all of size n, none of them a block that was there in w; and nothing that was there in w has turned. -/
structure SetsAt (w W : World) (S : List (Nat × Nat)) (n : Nat) : Prop where
  bel : Below w.heap.size w W
  set : ∀ b m, (b, m) ∈ S → w.heap.size ≤ b ∧ SetM W (some ⟨b, 0, none⟩) n m
  apart : (S.map (·.1)).Nodup

theorem SetsAt.keep {w W W' : World} {S : List (Nat × Nat)} {n : Nat} (h : SetsAt w W S n) (hb : Below W.heap.size W W') : SetsAt w W' S n :=
  ⟨h.bel.trans (hb.mono h.bel.size), fun b m hm => ⟨(h.set b m hm).1, (h.set b m hm).2.keep hb⟩, h.apart⟩
theorem SetsAt.alloc {w W : World} {S : List (Nat × Nat)} {n : Nat} (h : SetsAt w W S n) (o : Obj) : SetsAt w (W.alloc o) S n := h.keep ((Below.refl _ W).alloc (Nat.le_refl _) o)
theorem SetsAt.drewN {w W : World} {S : List (Nat × Nat)} {n : Nat} (h : SetsAt w W S n) (k : Nat) : SetsAt w (W.drewN k) S n := h.keep (Below.drewN' (Below.refl _ W) k)
theorem SetsAt.lt {w W : World} {S : List (Nat × Nat)} {n b m : Nat} (h : SetsAt w W S n) (hm : (b, m) ∈ S) : b < W.heap.size := (h.set b m hm).2.row.lt
theorem SetsAt.perm {w W : World} {S S' : List (Nat × Nat)} {n : Nat} (h : SetsAt w W S n) (hp : S.Perm S') : SetsAt w W S' n :=
  ⟨h.bel, fun b m hm => h.set b m (hp.symm.subset hm), (hp.map _).nodup_iff.1 h.apart⟩

/-- A new set. -/
theorem SetsAt.more {w W W' : World} {S : List (Nat × Nat)} {n b m : Nat} (h : SetsAt w W S n) (hb : W.heap.size ≤ b) (hB : Below W.heap.size W W') (hS : SetM W' (some ⟨b, 0, none⟩) n m) : SetsAt w W' ((b, m) :: S) n := by
  have hk := h.keep hB
  refine ⟨hk.bel, fun b' m' hm => ?_, ?_⟩
  · rcases List.mem_cons.1 hm with e | hm
    · cases e; exact ⟨Nat.le_trans h.bel.size hb, hS⟩
    · exact hk.set b' m' hm
  · rw [List.map_cons, List.nodup_cons]
    refine ⟨fun hin => ?_, h.apart⟩
    obtain ⟨⟨b', m'⟩, hm, e⟩ := List.mem_map.1 hin
    have : b' = b := e
    have := h.lt hm
    omega

/-- The first set turns. -/
theorem SetsAt.turn {w W W' : World} {S : List (Nat × Nat)} {n b m m' : Nat} (h : SetsAt w W ((b, m) :: S) n) (hb : But b W W') (hr : RowAt W' b n (wd m')) (hm' : m' < 2 ^ n) : SetsAt w W' ((b, m') :: S) n := by
  have hlt := h.lt (List.mem_cons_self ..)
  have hge := (h.set b m (List.mem_cons_self ..)).1
  have hn := (h.set b m (List.mem_cons_self ..)).2.1
  have hnd := h.apart
  rw [List.map_cons, List.nodup_cons] at hnd
  refine ⟨h.bel.trans (hb.below h.bel.size hge), fun b' m2 hm => ?_, by rw [List.map_cons, List.nodup_cons]; exact hnd⟩
  rcases List.mem_cons.1 hm with e | hm2
  · cases e; exact ⟨hge, SetM.of hr hn hm'⟩
  · have h2 := h.set b' m2 (List.mem_cons_of_mem _ hm2)
    refine ⟨h2.1, h2.2.but hb (fun b3 e e2 => ?_)⟩
    cases e
    rw [e2] at hm2
    exact hnd.1 (List.mem_map.2 ⟨_, hm2, rfl⟩)

/-- What may be handed to Union and Meets: the set itself, another one, nil. -/
def OkL (b : Nat) (S : List (Nat × Nat)) (L : List (Option Addr × Nat)) : Prop :=
  ∀ e ∈ L, e = (some ⟨b, 0, none⟩, 0) ∨ (∃ b' m', e = (some ⟨b', 0, none⟩, m') ∧ (b', m') ∈ S) ∨ e = (none, 0)

theorem mem_getD {L : List (Option Addr × Nat)} {i : Nat} (hi : i < L.length) : L.getD i (none, 0) ∈ L := by
  simp [List.getD, hi]

theorem sets_union {w W : World} {S : List (Nat × Nat)} {n b m len : Nat} {c : Nat → Nat} (hC : CountIs c) (hle : ∀ x, c x ≤ 1024) (h : SetsAt w W ((b, m) :: S) n) (L : List (Option Addr × Nat)) (hL : OkL b S L) (hlen : L.length = len) (hsm : len < 1152921504606846976) :
    Calls Tryd.prog 22 #[.pointer (some ⟨b, 0, none⟩), .slice (some ⟨W.heap.size, 0, none⟩) len len] (W.alloc (.cells (L.map (fun e => Value.pointer e.1)).toArray 34)) fun e w' =>
      e = .returned (.int .i64 ((c (uS n m L) : Int) - c m)) ∧ SetsAt w w' ((b, uS n m L) :: S) n := by
  subst hlen
  have hA := h.alloc (.cells (L.map (fun e => Value.pointer e.1)).toArray 34)
  have hS := (hA.set b m (List.mem_cons_self ..)).2
  have hnd := h.apart
  rw [List.map_cons, List.nodup_cons] at hnd
  refine (union_core b n m W.heap.size 0 L.length c L _ hC hle hS.1 hS.2.1 hS.row (by have := h.lt (List.mem_cons_self ..); omega) hsm (by simp) (new_ptrs W L) (fun i hi => ?_)).mono ?_
  · rcases hL _ (mem_getD hi) with e | ⟨b', m', e, hm⟩ | e
    · rw [e]; exact .inl ⟨rfl, rfl⟩
    · rw [e]
      refine .inr ⟨fun e2 => ?_, n, (hA.set b' m' (List.mem_cons_of_mem _ hm)).2⟩
      cases e2
      exact hnd.1 (List.mem_map.2 ⟨_, hm, rfl⟩)
    · rw [e]; exact .inr ⟨fun e2 => (by cases e2), 0, SetM.nil _⟩
  · rintro e w' ⟨rfl, hr, hb⟩
    exact ⟨rfl, hA.turn hb hr (uS_lt n m L hS.2.1)⟩

theorem sets_meets {w W : World} {S : List (Nat × Nat)} {n b m len : Nat} {c : Nat → Nat} (hC : CountIs c) (h : SetsAt w W S n) (hm : (b, m) ∈ S) (L : List (Option Addr × Nat)) (hL : ∀ e ∈ L, ∃ b' m', e = (some ⟨b', 0, none⟩, m') ∧ (b', m') ∈ S) (hlen : L.length = len) (hsm : len < 1152921504606846976) :
    Calls Tryd.prog 26 #[.pointer (some ⟨b, 0, none⟩), .slice (some ⟨W.heap.size, 0, none⟩) len len] (W.alloc (.cells (L.map (fun e => Value.pointer e.1)).toArray 34)) fun e w' =>
      e = .returned (.bool (decide (0 < c (iS m L)))) ∧ SetsAt w w' S n := by
  subst hlen
  have hA := h.alloc (.cells (L.map (fun e => Value.pointer e.1)).toArray 34)
  refine (meets_core _ n m W.heap.size 0 L.length c L _ hC (hA.set b m hm).2 hsm (by simp) (new_ptrs W L) (fun i hi => ?_)).mono ?_
  · obtain ⟨b', m', e, hm'⟩ := hL _ (mem_getD hi)
    rw [e]; exact ⟨n, (hA.set b' m' hm').2⟩
  · rintro e w' ⟨rfl, hb⟩
    exact ⟨rfl, hA.keep hb⟩

theorem sets_meets0 {w W : World} {S : List (Nat × Nat)} {n b m : Nat} {c : Nat → Nat} (hC : CountIs c) (h : SetsAt w W S n) (hm : (b, m) ∈ S) :
    Calls Tryd.prog 26 #[.pointer (some ⟨b, 0, none⟩), .slice none 0 0] W fun e w' => e = .returned (.bool (decide (0 < c m))) ∧ SetsAt w w' S n := by
  refine (meets_none _ n m c none 0 W hC (h.set b m hm).2).mono ?_
  rintro e w' ⟨rfl, hb⟩
  exact ⟨rfl, h.keep hb⟩

theorem sets_equal {w W : World} {S : List (Nat × Nat)} {n b m b' m' : Nat} (h : SetsAt w W S n) (hm : (b, m) ∈ S) (hm' : (b', m') ∈ S) :
    Calls Tryd.prog 23 #[.pointer (some ⟨b, 0, none⟩), .pointer (some ⟨b', 0, none⟩)] W fun e w' => e = .returned (.bool (decide (m = m'))) ∧ SetsAt w w' S n := by
  refine (equal_any _ _ n m n m' W (h.set b m hm).2 (h.set b' m' hm').2).mono ?_
  rintro e w' ⟨rfl, hb⟩
  exact ⟨by simp [eqB], h.keep hb⟩

theorem sets_count {w W : World} {S : List (Nat × Nat)} {n b m : Nat} {c : Nat → Nat} (hC : CountIs c) (h : SetsAt w W S n) (hm : (b, m) ∈ S) :
    Calls Tryd.prog 24 #[.pointer (some ⟨b, 0, none⟩)] W fun e w' => e = .returned (.int .i64 (c m : Nat)) ∧ SetsAt w w' S n := by
  refine (hC _ n m W (h.set b m hm).2).mono ?_
  rintro e w' ⟨rfl, hb⟩
  exact ⟨rfl, h.keep hb⟩

theorem sets_has {w W : World} {S : List (Nat × Nat)} {n b m : Nat} (x : Int) (h : SetsAt w W S n) (hm : (b, m) ∈ S) :
    Calls Tryd.prog 25 #[.pointer (some ⟨b, 0, none⟩), .int .i64 x] W fun e w' => e = .returned (.bool (hasB m x)) ∧ Below W.heap.size W w' ∧ SetsAt w w' S n := by
  refine (has_any _ n m x W (h.set b m hm).2).mono ?_
  rintro e w' ⟨rfl, k, rfl⟩
  exact ⟨rfl, Below.drewN' (Below.refl _ W) k, h.drewN k⟩

theorem sets_copy {w W : World} {S : List (Nat × Nat)} {n b m : Nat} (h : SetsAt w W S n) (hm : (b, m) ∈ S) :
    Calls Tryd.prog 21 #[.pointer (some ⟨b, 0, none⟩)] W fun e w' => ∃ b', e = .returned (.pointer (some ⟨b', 0, none⟩)) ∧ SetsAt w w' ((b', m) :: S) n := by
  have hS := (h.set b m hm).2
  refine (copy_any _ n m W hS).mono ?_
  rintro e w' ⟨b', rfl, hge, hr, hb⟩
  exact ⟨b', rfl, h.more hge hb (SetM.of hr hS.1 hS.2.1)⟩

theorem sets_of {w W : World} {S : List (Nat × Nat)} (z : Int) (a : Option Addr) (cap : Nat) (l : List Int) (h : SetsAt w W S (clampN z)) (hl : IntsAt w a l) (hlen : l.length < 1152921504606846976) :
    Calls Tryd.prog 10 #[.int .i64 z, .slice a l.length cap] W fun e w' => ∃ b, e = .returned (.pointer (some ⟨b, 0, none⟩)) ∧ SetsAt w w' ((b, (addS (clampN z) 0 l).1) :: S) (clampN z) := by
  refine (of_any z a cap l W (hl.below h.bel) hlen).mono ?_
  rintro e w' ⟨rfl, hS, hb⟩
  exact ⟨_, rfl, h.more (Nat.le_refl _) hb hS⟩

/-- The members of a set lie in a new list. -/
theorem sets_members {w W : World} {S : List (Nat × Nat)} {n b m : Nat} {c : Nat → Nat} (hC : CountIs c) (hle : ∀ x, c x ≤ 1024) (hT : Tab w) (hw0 : 0 < w.heap.size) (h : SetsAt w W S n) (hm : (b, m) ∈ S) :
    Calls Tryd.prog 14 #[.pointer (some ⟨b, 0, none⟩)] W fun e w' => ∃ a cap, e = .returned (.slice a (mems 1024 m).length cap) ∧
      ((a = none ∧ mems 1024 m = []) ∨ ∃ g, a = some ⟨g, 0, none⟩ ∧ W.heap.size ≤ g ∧ g < w'.heap.size ∧ ∀ i, i < (mems 1024 m).length → w'.cell? ⟨g, 0 + i, none⟩ = some (.int .i64 ((mems 1024 m).getD i 0))) ∧ SetsAt w w' S n := by
  refine (callsIn_wide.1 (members_in 3 (by omega) c hC hle _ n m W (h.set b m hm).2 (hT.below h.bel hw0) (by have := h.bel.size; omega))).mono ?_
  rintro e w' ⟨v, rfl, hown, hb⟩
  have hk := h.keep hb
  generalize mems 1024 m = M at *
  rcases hown.2 with ⟨rfl, h0⟩ | ⟨g, cap, cur, rfl, hg, hh, _⟩
  · have : M = [] := List.length_eq_zero_iff.1 h0
    subst this
    exact ⟨none, 0, rfl, .inl ⟨rfl, rfl⟩, hk⟩
  · refine ⟨some ⟨g, 0, none⟩, cap, rfl, .inr ⟨g, rfl, hg, (Array.getElem?_eq_some_iff.1 hh).1, fun i hi => ?_⟩, hk⟩
    rw [Nat.zero_add, hown.cellAt i (by omega)]
    simp [List.getD, hi]

end Go.Proofs.YtkmocjdjdlpphaaDoor
