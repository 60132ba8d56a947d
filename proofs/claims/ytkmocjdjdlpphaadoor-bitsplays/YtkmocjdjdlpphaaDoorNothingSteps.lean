/-
  The steps of BitsNothing: what each call does to the law's sets.
-/
import Derived.Test.YtkmocjdjdlpphaaDoorAwake
import Derived.LoopN
namespace Go.Proofs.YtkmocjdjdlpphaaDoor
open Go.RowKit Go.Shelf

attribute [local go_sem] Oper.semAt_some

theorem But.whole {b n : Nat} {f : Nat → Nat} {w w' : World} (h : But b w w') (h1 : RowAt w b n f) (h2 : RowAt w' b n f) : Below w.heap.size w w' :=
  ⟨h.os, h.tape, h.output, h.size, fun k hk => by
    by_cases e : k = b
    · subst e; exact h2.trans h1.symm
    · exact h.block k hk e⟩

theorem row_zero {w : World} {b n' m' : Nat} (h : SetM w (some ⟨b, 0, none⟩) 0 0) (h' : SetM w (some ⟨b, 0, none⟩) n' m') : m' = 0 := by
  have e := h.row.size.symm.trans h'.row.size
  have : n' = 0 := by simpa using e.symm
  subst this
  exact h'.zero

/-- A union onto a set without room adds nothing, and changes nothing. -/
theorem union_zero (p : Option Addr) (bl off cap : Nat) (c : Nat → Nat) (L : List (Option Addr × Nat)) (w : World) (hC : CountIs c) (hle : ∀ x, c x ≤ 1024) (hp : SetM w p 0 0)
    (hlen : L.length < 1152921504606846976) (hlt : bl < w.heap.size) (hne : ∀ b, p = some ⟨b, 0, none⟩ → bl ≠ b)
    (hc : ∀ i, i < L.length → w.cell? ⟨bl, off + i, none⟩ = some (.pointer (L.getD i (none, 0)).1)) (ho : ∀ i, i < L.length → ∃ n', SetM w (L.getD i (none, 0)).1 n' (L.getD i (none, 0)).2) :
    Calls Tryd.prog 22 #[.pointer p, .slice (some ⟨bl, off, none⟩) L.length cap] w fun e w' => e = .returned (.int .i64 0) ∧ Below w.heap.size w w' := by
  rcases hp.2.2 with ⟨rfl, _⟩ | ⟨b, rfl, hr⟩
  · refine (union_nil _ _ _ w).mono ?_
    rintro e w' ⟨rfl, rfl⟩
    exact ⟨rfl, Below.refl _ _⟩
  · have hu : uS 0 0 L = 0 := by have := uS_lt 0 0 L (by decide); simpa using this
    refine (union_core b 0 0 bl off cap c L w hC hle (by decide) (by decide) hr (hne b rfl) hlen hlt hc ?_).mono ?_
    · intro i hi
      obtain ⟨n', hS⟩ := ho i hi
      by_cases hq : (L.getD i (none, 0)).1 = some ⟨b, 0, none⟩
      · left
        rw [hq] at hS
        exact ⟨hq, row_zero hp hS⟩
      · exact .inr ⟨hq, n', hS⟩
    · rintro e w' ⟨rfl, h1, h2⟩
      rw [hu] at *
      exact ⟨by simp, h2.whole hr h1⟩

theorem add_zero' (p a : Option Addr) (cap : Nat) (l : List Int) (w : World) (h : SetM w p 0 0) (hl : IntsAt w a l) (hlen : l.length < 1152921504606846976) :
    Calls Tryd.prog 15 #[.pointer p, .slice a l.length cap] w fun e w' => e = .returned (.int .i64 0) ∧ w' = w := by
  rcases hl with rfl | ⟨b, off, rfl, hc⟩
  · exact add_none a cap p w
  · exact add_zero p b off cap l w h hlen hc

theorem drop_zero' (p a : Option Addr) (cap : Nat) (l : List Int) (w : World) (h : SetM w p 0 0) (hl : IntsAt w a l) (hlen : l.length < 1152921504606846976) :
    Calls Tryd.prog 16 #[.pointer p, .slice a l.length cap] w fun e w' => e = .returned (.int .i64 0) ∧ ∃ k, w' = w.drewN k := by
  rcases hl with rfl | ⟨b, off, rfl, hc⟩
  · refine (drop_none a cap p w).mono ?_
    rintro e w' ⟨rfl, rfl⟩
    exact ⟨rfl, 0, rfl⟩
  · exact drop_zero p b off cap l w h hlen hc

/-- What holds while the law goes on: w: where it began; R: its answer's cell; Bb: the two sets' list; Bo, Bx: its two sets; pe: the one that is looked at. -/
structure NInv (w W : World) (R Bb Bo Bx nx mx : Nat) (pe : Option Addr) (ds : List Nat) : Prop where
  bel : Below w.heap.size w W
  box : Boxed W R 4 (.bool false)
  both : W.heap[Bb]? = some (.cells #[.pointer none, .pointer (some ⟨Bo, 0, none⟩)] 34 (0, 0))
  sx : SetM W (some ⟨Bx, 0, none⟩) nx mx
  so : SetM W (some ⟨Bo, 0, none⟩) 0 0
  se : SetM W pe 0 0
  marks : ∀ D ∈ ds, w.heap.size ≤ D ∧ W.heap[D]? = some (.deferred (some []))

theorem NInv.keep {w W W' : World} {R Bb Bo Bx nx mx : Nat} {pe : Option Addr} {ds : List Nat} (h : NInv w W R Bb Bo Bx nx mx pe ds) (hb : Below W.heap.size W W') : NInv w W' R Bb Bo Bx nx mx pe ds :=
  ⟨h.bel.trans (hb.mono h.bel.size), (hb.block R h.box.lt).trans h.box, (hb.block Bb (Array.getElem?_eq_some_iff.1 h.both).1).trans h.both, h.sx.keep hb, h.so.keep hb, h.se.keep hb, fun D hD => ⟨(h.marks D hD).1, (hb.block D (Array.getElem?_eq_some_iff.1 (h.marks D hD).2).1).trans (h.marks D hD).2⟩⟩
theorem NInv.alloc {w W : World} {R Bb Bo Bx nx mx : Nat} {pe : Option Addr} {ds : List Nat} (h : NInv w W R Bb Bo Bx nx mx pe ds) (o : Obj) : NInv w (W.alloc o) R Bb Bo Bx nx mx pe ds :=
  h.keep ((Below.refl _ W).alloc (Nat.le_refl _) o)
theorem NInv.drewN {w W : World} {R Bb Bo Bx nx mx : Nat} {pe : Option Addr} {ds : List Nat} (h : NInv w W R Bb Bo Bx nx mx pe ds) (k : Nat) : NInv w (W.drewN k) R Bb Bo Bx nx mx pe ds :=
  h.keep (Below.drewN' (Below.refl _ W) k)
theorem NInv.turn {w W : World} {R Bb Bo Bx nx mx : Nat} {pe : Option Addr} {ds : List Nat} (h : NInv w W R Bb Bo Bx nx mx pe ds) : NInv w W R Bb Bo Bx nx mx (some ⟨Bo, 0, none⟩) ds :=
  ⟨h.bel, h.box, h.both, h.sx, h.so, h.so, h.marks⟩

theorem NInv.mark {w W : World} {R Bb Bo Bx nx mx : Nat} {pe : Option Addr} {ds : List Nat} (h : NInv w W R Bb Bo Bx nx mx pe ds) {D : Nat} (hw : w.heap.size ≤ D) (hD : W.heap[D]? = some (.deferred (some []))) : NInv w W R Bb Bo Bx nx mx pe (D :: ds) :=
  ⟨h.bel, h.box, h.both, h.sx, h.so, h.se, fun E hE => by
    rcases List.mem_cons.1 hE with rfl | hE
    · exact ⟨hw, hD⟩
    · exact h.marks E hE⟩

theorem new_ptrs (w : World) (L : List (Option Addr × Nat)) : ∀ i, i < L.length → (w.alloc (.cells (L.map (fun e => Value.pointer e.1)).toArray 34)).cell? ⟨w.heap.size, 0 + i, none⟩ = some (.pointer (L.getD i (none, 0)).1) := fun i hi => by
  rw [cell_of_row _ _ _ _ _ _ (heap_alloc_last w _)]
  simp [List.getD, hi]

theorem two_sets {w : World} {p q : Option Addr} {m m' : Nat} (h1 : ∃ n, SetM w p n m) (h2 : ∃ n, SetM w q n m') : ∀ i, i < [(p, m), (q, m')].length → ∃ n', SetM w ([(p, m), (q, m')].getD i (none, 0)).1 n' ([(p, m), (q, m')].getD i (none, 0)).2
  | 0, _ => h1
  | 1, _ => h2
theorem one_set {w : World} {p : Option Addr} {m : Nat} (h1 : ∃ n, SetM w p n m) : ∀ i, i < [(p, m)].length → ∃ n', SetM w ([(p, m)].getD i (none, 0)).1 n' ([(p, m)].getD i (none, 0)).2
  | 0, _ => h1

/-- e.Union(x, e) adds nothing. -/
theorem step_union {w W : World} {R Bb Bo Bx nx mx : Nat} {pe : Option Addr} {ds : List Nat} {c : Nat → Nat} (hC : CountIs c) (hle : ∀ x, c x ≤ 1024) (h : NInv w W R Bb Bo Bx nx mx pe ds) :
    Calls Tryd.prog 22 #[.pointer pe, .slice (some ⟨W.heap.size, 0, none⟩) 2 2] (W.alloc (.cells #[.pointer (some ⟨Bx, 0, none⟩), .pointer pe] 34)) fun e w' =>
      e = .returned (.int .i64 0) ∧ NInv w w' R Bb Bo Bx nx mx pe ds := by
  have hA := h.alloc (.cells #[.pointer (some ⟨Bx, 0, none⟩), .pointer pe] 34)
  refine (union_zero pe W.heap.size 0 2 c [(some ⟨Bx, 0, none⟩, mx), (pe, 0)] _ hC hle hA.se (by simp) (by simp) (fun b hb => ?_) (new_ptrs W _) (two_sets ⟨_, hA.sx⟩ ⟨_, hA.se⟩)).mono ?_
  · subst hb; have := h.se.row.lt; omega
  · rintro e w' ⟨rfl, hb⟩
    exact ⟨rfl, hA.keep hb⟩

theorem iS_zero (L : List (Option Addr × Nat)) : iS 0 L = 0 := by have := iS_lt 0 0 L (by decide); simpa using this

/-- e.Meets(), e.Meets(x), x.Meets(e): no. -/
theorem step_meets0 {w W : World} {R Bb Bo Bx nx mx : Nat} {pe : Option Addr} {ds : List Nat} {c : Nat → Nat} (hC : CountIs c) (h0 : c 0 = 0) (h : NInv w W R Bb Bo Bx nx mx pe ds) :
    Calls Tryd.prog 26 #[.pointer pe, .slice none 0 0] W fun e w' => e = .returned (.bool false) ∧ NInv w w' R Bb Bo Bx nx mx pe ds := by
  refine (meets_none pe 0 0 c none 0 W hC h.se).mono ?_
  rintro e w' ⟨rfl, hb⟩
  exact ⟨by rw [h0]; rfl, h.keep hb⟩
theorem step_meets1 {w W : World} {R Bb Bo Bx nx mx : Nat} {pe : Option Addr} {ds : List Nat} {c : Nat → Nat} (hC : CountIs c) (h0 : c 0 = 0) (h : NInv w W R Bb Bo Bx nx mx pe ds) :
    Calls Tryd.prog 26 #[.pointer pe, .slice (some ⟨W.heap.size, 0, none⟩) 1 1] (W.alloc (.cells #[.pointer (some ⟨Bx, 0, none⟩)] 34)) fun e w' => e = .returned (.bool false) ∧ NInv w w' R Bb Bo Bx nx mx pe ds := by
  have hA := h.alloc (.cells #[.pointer (some ⟨Bx, 0, none⟩)] 34)
  refine (meets_core pe 0 0 W.heap.size 0 1 c [(some ⟨Bx, 0, none⟩, mx)] _ hC hA.se (by simp) (by simp) (new_ptrs W _) (one_set ⟨_, hA.sx⟩)).mono ?_
  rintro e w' ⟨rfl, hb⟩
  exact ⟨by rw [iS_zero, h0]; rfl, hA.keep hb⟩
theorem step_meets2 {w W : World} {R Bb Bo Bx nx mx : Nat} {pe : Option Addr} {ds : List Nat} {c : Nat → Nat} (hC : CountIs c) (h0 : c 0 = 0) (h : NInv w W R Bb Bo Bx nx mx pe ds) :
    Calls Tryd.prog 26 #[.pointer (some ⟨Bx, 0, none⟩), .slice (some ⟨W.heap.size, 0, none⟩) 1 1] (W.alloc (.cells #[.pointer pe] 34)) fun e w' => e = .returned (.bool false) ∧ NInv w w' R Bb Bo Bx nx mx pe ds := by
  have hA := h.alloc (.cells #[.pointer pe] 34)
  refine (meets_core _ nx mx W.heap.size 0 1 c [(pe, 0)] _ hC hA.sx (by simp) (by simp) (new_ptrs W _) (one_set ⟨_, hA.se⟩)).mono ?_
  rintro e w' ⟨rfl, hb⟩
  have e0 : iS mx [(pe, 0)] = 0 := by simp [iS]
  exact ⟨by rw [e0, h0]; rfl, hA.keep hb⟩

/-- len(e.Members()) is 0. -/
theorem step_members {w W : World} {R Bb Bo Bx nx mx : Nat} {pe : Option Addr} {ds : List Nat} {c : Nat → Nat} (hC : CountIs c) (hle : ∀ x, c x ≤ 1024) (hT : Tab w) (hw0 : 0 < w.heap.size) (h : NInv w W R Bb Bo Bx nx mx pe ds) :
    Calls Tryd.prog 14 #[.pointer pe] W fun e w' => ∃ a cap, e = .returned (.slice a 0 cap) ∧ NInv w w' R Bb Bo Bx nx mx pe ds := by
  refine (callsIn_wide.1 (members_in 3 (by omega) c hC hle pe 0 0 W h.se (hT.below h.bel hw0) (by have := h.bel.size; omega))).mono ?_
  rintro e w' ⟨v, rfl, hown, hb⟩
  have e0 : mems 1024 0 = [] := by simp [mems]
  rw [e0] at hown
  rcases hown.2 with ⟨rfl, _⟩ | ⟨g, cap, _, rfl, _⟩
  · exact ⟨_, _, rfl, h.keep hb⟩
  · exact ⟨_, _, rfl, h.keep hb⟩

theorem step_equal {w W : World} {R Bb Bo Bx nx mx : Nat} {pe p q : Option Addr} {ds : List Nat} (h : NInv w W R Bb Bo Bx nx mx pe ds) (hp : SetM W p 0 0) (hq : SetM W q 0 0) :
    Calls Tryd.prog 23 #[.pointer p, .pointer q] W fun e w' => e = .returned (.bool true) ∧ Below W.heap.size W w' ∧ NInv w w' R Bb Bo Bx nx mx pe ds := by
  refine (equal_any p q 0 0 0 0 W hp hq).mono ?_
  rintro e w' ⟨rfl, hb⟩
  exact ⟨rfl, hb, h.keep hb⟩

theorem step_equalx {w W : World} {R Bb Bo Bx nx mx len : Nat} {pe : Option Addr} {ds : List Nat} (h : NInv w W R Bb Bo Bx nx mx pe ds) (hcl : nx = 0 ↔ len = 0) :
    Calls Tryd.prog 23 #[.pointer pe, .pointer (some ⟨Bx, 0, none⟩)] W fun e w' => e = .returned (.bool ((len : Int) == 0)) ∧ NInv w w' R Bb Bo Bx nx mx pe ds := by
  refine (equal_any pe _ 0 0 nx mx W h.se h.sx).mono ?_
  rintro e w' ⟨rfl, hb⟩
  refine ⟨?_, h.keep hb⟩
  have e0 : eqB 0 0 nx mx = ((len : Int) == 0) := by
    unfold eqB
    by_cases hn : nx = 0
    · subst hn
      have hm := h.sx.zero
      subst hm
      have : len = 0 := hcl.1 rfl
      subst this
      rfl
    · have : ¬ len = 0 := fun hh => hn (hcl.2 hh)
      rw [decide_eq_false (fun hh => hn hh.1.symm)]
      symm
      exact beq_eq_false_iff_ne.2 (by omega)
  rw [e0]

/-- The way out behind two ranges over a function. -/
theorem leave_two {w X : World} {R Bb Bo Bx nx mx D1 D2 k : Nat} {pe : Option Addr} (h : NInv w X R Bb Bo Bx nx mx pe [D2, D1]) (hne : D1 ≠ D2) (hR : w.heap.size ≤ R) (tmps : Array Value) (h4 : tmps.getD 4 undef = .pointer (some ⟨R, 0, none⟩)) :
    LeavesInM Fence.wide k Tryd.prog Tryd.f6 tmps (fun e w' => e = .returned (.bool true) ∧ Below w.heap.size w w') [{ target := .collected D2, args := #[] }, { target := .collected D1, args := #[] }] .returning (X.setCell ⟨R, 0, none⟩ (.bool true)) := by
  obtain ⟨l2, k2⟩ := h.marks D2 (by simp)
  obtain ⟨l1, k1⟩ := h.marks D1 (by simp)
  have hk : KeepsOthers X (X.setCell ⟨R, 0, none⟩ (.bool true)) := KeepsOthers.setCell _ _ _
  have k2' := hk.same D2 _ k2 rfl
  have k1' := hk.same D1 _ k1 rfl
  have k1'' : ((X.setCell ⟨R, 0, none⟩ (.bool true)).putObj D2 (.deferred none)).heap[D1]? = some (.deferred (some [])) := (World.putObj_heap_other hne).trans k1'
  refine ⟨by simp, .inl ⟨_, _, rfl, run_takeDeferred k2', ?_⟩⟩
  refine ⟨by simp, .inl ⟨_, _, rfl, run_takeDeferred k1'', ?_⟩⟩
  have hB : Boxed (X.setCell ⟨R, 0, none⟩ (.bool true)) R 4 (.bool true) := h.box.set _
  have n2 : R ≠ D2 := fun e => by have hx := h.box; rw [e] at hx; have := hx.symm.trans k2; simp at this
  have n1 : R ≠ D1 := fun e => by have hx := h.box; rw [e] at hx; have := hx.symm.trans k1; simp at this
  have hB2 : Boxed ((X.setCell ⟨R, 0, none⟩ (.bool true)).putObj D2 (.deferred none)) R 4 (.bool true) := (World.putObj_heap_other n2).trans hB
  have hB3 : Boxed (((X.setCell ⟨R, 0, none⟩ (.bool true)).putObj D2 (.deferred none)).putObj D1 (.deferred none)) R 4 (.bool true) := (World.putObj_heap_other n1).trans hB2
  have hc := hB3.cell
  have h4' : tmps[4]?.getD undef = .pointer (some ⟨R, 0, none⟩) := by simpa using h4
  have b1 : Below w.heap.size w (X.setCell ⟨R, 0, none⟩ (.bool true)) := h.bel.setCell (p := ⟨R, 0, none⟩) hR _
  have b2 := b1.trans (belowK_b (w := w) (Nat.le_refl _) _ D2 _ (.deferred none) l2 k2' rfl rfl)
  have b3 := b2.trans (belowK_b (w := w) (Nat.le_refl _) _ D1 _ (.deferred none) l1 k1'' rfl rfl)
  refine ⟨.bool true, ?_, rfl, b3⟩
  simp [results, Tryd.f6, go_sem, h4', hc]

end Go.Proofs.YtkmocjdjdlpphaaDoor
