/-
  What the calls of a step that takes several sets do: 'some', Union, Meets.
-/
import Derived.Test.YtkmocjdjdlpphaaDoorStepLaws
namespace Go.Proofs.YtkmocjdjdlpphaaDoor
open Go.RowKit Go.Shelf

def kOf (N : Nat) (l : List Int) (j : Nat) : Nat := pickN (l.getD j 0) (N + 1)
theorem kOf_le (N : Nat) (l : List Int) (j : Nat) : kOf N l j ≤ N := Nat.le_of_lt_succ (pickN_lt _ _ (Nat.succ_pos N))
def pOf (N : Nat) (b : Nat → Nat) (l : List Int) (j : Nat) : Option Addr := if kOf N l j < N then some ⟨b (kOf N l j), 0, none⟩ else none
/-- The members of the sets that are told, without those of set i. -/
def uOf (N i : Nat) (f : Nat → Nat) (l : List Int) (j : Nat) : Nat := if kOf N l j < N ∧ kOf N l j ≠ i then f (kOf N l j) else 0
/-- The members of the sets that are told. -/
def iOf (N : Nat) (f : Nat → Nat) (l : List Int) (j : Nat) : Nat := if kOf N l j < N then f (kOf N l j) else 0
def rowOf (p : Nat → Option Addr) (m : Nat → Nat) (k : Nat) : List (Option Addr × Nat) := (List.range k).map (fun j => (p j, m j))
theorem rowOf_length (p : Nat → Option Addr) (m : Nat → Nat) (k : Nat) : (rowOf p m k).length = k := by simp [rowOf]
theorem rowOf_at (p : Nat → Option Addr) (m : Nat → Nat) (k j : Nat) (hj : j < k) : (rowOf p m k).getD j (none, 0) = (p j, m j) := by simp [rowOf, List.getD, hj]
theorem rowOf_snd (p : Nat → Option Addr) (m : Nat → Nat) (k : Nat) : (rowOf p m k).map (·.2) = (List.range k).map m := by simp [rowOf]

/-- What 'some' has made of all numbers. -/
structure SomeS (base : Nat) (V : World) (N : Nat) (F : Fam) (l : List Int) (r : Nat → Nat) (aX aR : Option Addr) (cX cR : Nat) : Prop where
  xs : V.ownsRow base 34 1 (.slice aX l.length cX) l.length (optL (pOf N F.b l) l.length)
  rs : V.ownsRow base 35 1 (.slice aR l.length cR) l.length (ptrsL r l.length)
  each : ∀ j, j < l.length → (kOf N l j < N ∧ r j = F.br (kOf N l j)) ∨ (kOf N l j = N ∧ REmpty V (r j))

theorem slice_row {V : World} {base e n : Nat} {a : Option Addr} {c : Nat} {xs : List Value} (h : V.ownsRow base e 1 (.slice a n c) n xs) (hn : n ≠ 0) : ∃ g cs fz, a = some ⟨g, 0, none⟩ ∧ V.heap[g]? = some (.cells cs e fz) ∧ ∀ j, j < n → V.cell? ⟨g, j, none⟩ = xs[j]? := by
  have hx := h
  rcases h.2 with ⟨h1, h0⟩ | ⟨g, cap, cur, h1, _, hh, _⟩
  · simp only [Value.slice.injEq] at h1; exact absurd h1.2.1 hn
  · simp only [Value.slice.injEq, true_and] at h1
    obtain ⟨rfl, rfl⟩ := h1
    exact ⟨g, _, _, rfl, hh, fun j hj => hx.cellAt j (by omega)⟩

section
variable {w V V' : World} {Bw N g g' cx cr : Nat} {F : Fam} {Bo : Nat} {kind A B : Int} {sl : Value} {i j : Nat} {a aX aR : Option Addr} {cap cX cR : Nat} {l : List Int} {base : Nat} {r : Nat → Nat}

theorem sat_some (hl : IntsAt w a l) (hlen : l.length ≤ 17592186043904) (h64 : ∀ x ∈ l, -9223372036854775808 ≤ x ∧ x ≤ 9223372036854775807) (h : SAt w V Bw N g g' cx cr F Bo kind A B sl) :
    Calls Tryd.prog 30 #[.pointer (some ⟨Bw, 0, none⟩), .slice a l.length cap] V fun e w' => ∃ aX aR cX cR r, e = .returned (.tuple #[.slice aX l.length cX, .slice aR l.length cR]) ∧ SomeS V.heap.size w' N F l r aX aR cX cR ∧ SAt w w' Bw N g g' cx cr F Bo kind A B sl := by
  have hb : ∀ k, k < l.length → -9223372036854775808 ≤ l.getD k 0 ∧ l.getD k 0 ≤ 9223372036854775807 := by
    intro k hk
    have : l.getD k 0 = l[k] := by simp [List.getD, hk]
    rw [this]; exact h64 _ (List.getElem_mem hk)
  refine (some_core w V Bw N _ _ cx cr F a cap l.length (fun k => l.getD k 0) (kOf N l) (pOf N F.b l) h.inv hlen ?_ ?_ (kOf_le N l) ?_ ?_).mono ?_
  · intro k hk
    rcases hl with rfl | ⟨b, off, rfl, hc⟩
    · exact absurd hk (Nat.not_lt_zero k)
    · exact ⟨b, off, rfl, by rw [h.inv.bel.cell (by exact World.block_lt_of_cell? w _ (hc k hk))]; exact hc k hk⟩
  · intro k wr hk
    exact pick_more _ N wr (hb k hk).1 (hb k hk).2 h.inv.le.1
  · intro k hk; unfold pOf; rw [if_neg (by omega)]
  · intro k hk; unfold pOf; rw [if_pos hk]
  · rintro e w' ⟨vX, vR, r, rfl, hS⟩
    obtain ⟨aX, cX, rfl⟩ : ∃ aX cX, vX = .slice aX l.length cX := by
      rcases hS.xs.2 with ⟨rfl, h0⟩ | ⟨g, cap, cur, rfl, _⟩
      · exact ⟨none, 0, by rw [h0]⟩
      · exact ⟨_, _, rfl⟩
    obtain ⟨aR, cR, rfl⟩ : ∃ aR cR, vR = .slice aR l.length cR := by
      rcases hS.rs.2 with ⟨rfl, h0⟩ | ⟨g, cap, cur, rfl, _⟩
      · exact ⟨none, 0, by rw [h0]⟩
      · exact ⟨_, _, rfl⟩
    refine ⟨aX, aR, cX, cR, r, rfl, ⟨hS.xs, hS.rs, fun j hj => ?_⟩, h.keep hS.bel⟩
    rcases hS.each j hj with h1 | ⟨h1, _, h2⟩
    · exact .inl h1
    · exact .inr ⟨h1, h2⟩

theorem SomeS.but {b : Nat} {cs : Array Value} {t : TypeId} {fz : Nat × Nat} (h : SomeS base V N F l r aX aR cX cR) (hb : But b V V') (hrow : V.heap[b]? = some (.cells cs t fz)) (h1 : t ≠ 34) (h2 : t ≠ 35) (h3 : t ≠ 70) : SomeS base V' N F l r aX aR cX cR :=
  ⟨h.xs.kept hb.grown (row_apart h.xs hrow h1), h.rs.kept hb.grown (row_apart h.rs hrow h2), fun j hj => by
    rcases h.each j hj with h' | ⟨h', h''⟩
    · exact .inl h'
    · exact .inr ⟨h', (hb.block _ h''.lt (cells_ne h'' hrow (Ne.symm h3))).trans h''⟩⟩
theorem SomeS.keep (h : SomeS base V N F l r aX aR cX cR) (hb : Below V.heap.size V V') : SomeS base V' N F l r aX aR cX cR :=
  ⟨h.xs.kept (below_grown hb) (by cases h' : (Value.slice aX l.length cX).ownBlock <;> simp), h.rs.kept (below_grown hb) (by cases h' : (Value.slice aR l.length cR).ownBlock <;> simp), fun j hj => by
    rcases h.each j hj with h' | ⟨h', h''⟩
    · exact .inl h'
    · exact .inr ⟨h', (hb.block _ h''.lt).trans h''⟩⟩

theorem SomeS.congr {F' : Fam} (h : SomeS base V N F l r aX aR cX cR) (h1 : F'.b = F.b) (h2 : F'.br = F.br) : SomeS base V N F' l r aX aR cX cR :=
  ⟨by rw [h1]; exact h.xs, h.rs, by rw [h2]; exact h.each⟩

/-- What a union comes to. -/
def uniM (N i n m : Nat) (f : Nat → Nat) (l : List Int) : Nat := uS n m (rowOf (pOf N (fun _ => 0) l) (uOf N i f l) l.length)
theorem uniM_row (N i n m : Nat) (f : Nat → Nat) (l : List Int) (p : Nat → Option Addr) : uS n m (rowOf p (uOf N i f l) l.length) = uniM N i n m f l :=
  uS_congr n m _ _ (by rw [rowOf_snd, rowOf_snd])
theorem uniM_lt (N i n m : Nat) (f : Nat → Nat) (l : List Int) (hm : m < 2 ^ n) : uniM N i n m f l < 2 ^ n := uS_lt _ _ _ hm
theorem uniM_congr {N i n m : Nat} {f f' : Nat → Nat} {l : List Int} (h : ∀ j, j < N → j ≠ i → f j = f' j) : uniM N i n m f l = uniM N i n m f' l := by
  have : uOf N i f l = uOf N i f' l := by
    funext j
    unfold uOf
    by_cases hj : kOf N l j < N ∧ kOf N l j ≠ i
    · rw [if_pos hj, if_pos hj]; exact h _ hj.1 hj.2
    · rw [if_neg hj, if_neg hj]
  unfold uniM
  rw [this]
theorem uniM_none (N i n m : Nat) (f : Nat → Nat) : uniM N i n m f [] = m := rfl

theorem sat_union (hi : i < N) (hlen : l.length ≤ 17592186043904) (h : SAt w V Bw N g g' cx cr F Bo kind A B sl) (hS : SomeS base V N F l r aX aR cX cR) :
    Calls Tryd.prog 22 #[.pointer (some ⟨F.b i, 0, none⟩), .slice aX l.length cX] V fun e w' => e = .returned (.int .i64 ((cnt (uniM N i (F.n i) (F.mx i) F.mx l) : Int) - cnt (F.mx i))) ∧ SAt w w' Bw N g g' cx cr { F with mx := upd F.mx i (uniM N i (F.n i) (F.mx i) F.mx l) } Bo kind A B sl ∧ SomeS base w' N F l r aX aR cX cR := by
  have hs := (h.inv.sets i hi).2
  have key : Calls Tryd.prog 22 #[.pointer (some ⟨F.b i, 0, none⟩), .slice aX l.length cX] V fun e w' => e = .returned (.int .i64 ((cnt (uniM N i (F.n i) (F.mx i) F.mx l) : Int) - cnt (F.mx i))) ∧ RowAt w' (F.b i) (F.n i) (wd (uniM N i (F.n i) (F.mx i) F.mx l)) ∧ But (F.b i) V w' := by
    by_cases hne : l = []
    · subst hne
      rw [uniM_none]
      refine (union_none (F.b i) (F.n i) (F.mx i) cnt aX cX V hs.row hs.1 hs.2.1 countIs (fun x => pc_le 1024 x)).mono ?_
      rintro e w' ⟨rfl, hb⟩
      exact ⟨by rw [Int.sub_self], hs.row.below hb hs.row.lt, But.of_below hb⟩
    · have hl0 : l.length ≠ 0 := fun e => hne (List.length_eq_zero_iff.1 e)
      obtain ⟨bl, cs, fz, rfl, hrow, hcell⟩ := slice_row hS.xs hl0
      have := union_core (F.b i) (F.n i) (F.mx i) bl 0 cX cnt (rowOf (pOf N F.b l) (uOf N i F.mx l) l.length) V countIs (fun x => pc_le 1024 x) hs.1 hs.2.1 hs.row (cells_ne hrow hs.row (by decide)) (by rw [rowOf_length]; omega) (Array.getElem?_eq_some_iff.1 hrow).1 ?_ ?_
      · rw [rowOf_length, uniM_row] at this; exact this
      · intro k hk
        rw [rowOf_length] at hk
        rw [rowOf_at _ _ _ _ hk, Nat.zero_add, hcell k hk, optL_at _ _ _ hk]
      · intro k hk
        rw [rowOf_length] at hk
        rw [rowOf_at _ _ _ _ hk]
        show OtherOk V (F.b i) (pOf N F.b l k) (uOf N i F.mx l k)
        unfold pOf uOf
        by_cases hkN : kOf N l k < N
        · rw [if_pos hkN]
          by_cases hki : kOf N l k = i
          · rw [if_neg (fun h' => h'.2 hki), hki]; exact .inl ⟨rfl, rfl⟩
          · rw [if_pos ⟨hkN, hki⟩]
            refine .inr ⟨fun e => hki (h.inv.apx _ _ hkN hi ?_), _, (h.inv.sets _ hkN).2⟩
            simpa using e
        · rw [if_neg hkN, if_neg (fun h' => hkN h'.1)]
          exact .inr ⟨by simp, 0, SetM.nil V⟩
  refine key.mono ?_
  rintro e w' ⟨rfl, hr, hb⟩
  exact ⟨rfl, h.turnX hi hb hr (uniM_lt _ _ _ _ _ _ hs.2.1), hS.but hb hs.row (by decide) (by decide) (by decide)⟩

theorem sat_runion (hi : i < N) (hlen : l.length ≤ 17592186043904) (h : SAt w V Bw N g g' cx cr F Bo kind A B sl) (hS : SomeS base V N F l r aX aR cX cR) :
    Calls Tryd.prog 31 #[.pointer (some ⟨F.br i, 0, none⟩), .slice aR l.length cR] V fun e w' => e = .returned (.int .i64 ((cnt (uniM N i (F.n i) (F.mr i) F.mr l) : Int) - cnt (F.mr i))) ∧ SAt w w' Bw N g g' cx cr { F with mr := upd F.mr i (uniM N i (F.n i) (F.mr i) F.mr l) } Bo kind A B sl := by
  have hs := (h.inv.refs i hi).2
  have key : Calls Tryd.prog 31 #[.pointer (some ⟨F.br i, 0, none⟩), .slice aR l.length cR] V fun e w' => e = .returned (.int .i64 ((cnt (uniM N i (F.n i) (F.mr i) F.mr l) : Int) - cnt (F.mr i))) ∧ RefAt w' (F.br i) (F.bi i) (F.n i) (uniM N i (F.n i) (F.mr i) F.mr l) ∧ But (F.bi i) V w' := by
    by_cases hne : l = []
    · subst hne
      rw [uniM_none]
      refine (runion_none (F.br i) aR cR V).mono ?_
      rintro e w' ⟨rfl, rfl⟩
      exact ⟨by rw [Int.sub_self], hs, But.refl _ _⟩
    · have hl0 : l.length ≠ 0 := fun e => hne (List.length_eq_zero_iff.1 e)
      obtain ⟨bl, cs, fz, rfl, hrow, hcell⟩ := slice_row hS.rs hl0
      have := runion_row (F.br i) (F.bi i) (F.n i) (F.mr i) bl 0 cR (rowOf (fun j => some ⟨r j, 0, none⟩) (uOf N i F.mr l) l.length) V hs (by rw [rowOf_length]; omega) (cells_ne hrow hs.row (by decide)) (Array.getElem?_eq_some_iff.1 hrow).1 ?_ ?_
      · rw [rowOf_length, uniM_row] at this; exact this
      · intro k hk
        rw [rowOf_length] at hk
        rw [rowOf_at _ _ _ _ hk, Nat.zero_add, hcell k hk, ptrsL_at _ _ _ hk]
      · intro k hk
        rw [rowOf_length] at hk
        rw [rowOf_at _ _ _ _ hk]
        show OtherR V (F.br i) (F.bi i) (some ⟨r k, 0, none⟩) (uOf N i F.mr l k)
        unfold uOf
        rcases hS.each k hk with ⟨hkN, hrk⟩ | ⟨hkN, hrk⟩
        · rw [hrk]
          by_cases hki : kOf N l k = i
          · rw [if_neg (fun h' => h'.2 hki), hki]; exact .inl ⟨rfl, rfl⟩
          · rw [if_pos ⟨hkN, hki⟩]
            have hsk := (h.inv.refs _ hkN).2
            exact .inr (.inl ⟨_, _, _, rfl, cells_ne hsk.head hs.row (by decide), fun e => hki (h.inv.apr _ _ hkN hi e), hsk⟩)
        · rw [if_neg (fun h' => by omega)]
          exact .inr (.inr ⟨_, rfl, hrk, cells_ne hrk hs.row (by decide), rfl⟩)
  refine key.mono ?_
  rintro e w' ⟨rfl, hr, hb⟩
  exact ⟨rfl, h.turnR hi hb hr⟩

/-- Whether all have a member in common. -/
def metM (N m : Nat) (f : Nat → Nat) (l : List Int) : Nat := iS m (rowOf (pOf N (fun _ => 0) l) (iOf N f l) l.length)
theorem metM_row (N m : Nat) (f : Nat → Nat) (l : List Int) (p : Nat → Option Addr) : iS m (rowOf p (iOf N f l) l.length) = metM N m f l :=
  iS_congr m _ _ (by rw [rowOf_snd, rowOf_snd])
theorem metM_congr {N m : Nat} {f f' : Nat → Nat} {l : List Int} (h : ∀ j, j < N → f j = f' j) : metM N m f l = metM N m f' l := by
  have : iOf N f l = iOf N f' l := by
    funext j
    unfold iOf
    by_cases hj : kOf N l j < N
    · rw [if_pos hj, if_pos hj]; exact h _ hj
    · rw [if_neg hj, if_neg hj]
  unfold metM
  rw [this]
theorem metM_none (N m : Nat) (f : Nat → Nat) : metM N m f [] = m := rfl

theorem sat_meets (hi : i < N) (hlen : l.length ≤ 17592186043904) (h : SAt w V Bw N g g' cx cr F Bo kind A B sl) (hS : SomeS base V N F l r aX aR cX cR) :
    Calls Tryd.prog 26 #[.pointer (some ⟨F.b i, 0, none⟩), .slice aX l.length cX] V fun e w' => e = .returned (.bool (decide (0 < cnt (metM N (F.mx i) F.mx l)))) ∧ SAt w w' Bw N g g' cx cr F Bo kind A B sl ∧ SomeS base w' N F l r aX aR cX cR := by
  have hs := (h.inv.sets i hi).2
  have key : Calls Tryd.prog 26 #[.pointer (some ⟨F.b i, 0, none⟩), .slice aX l.length cX] V fun e w' => e = .returned (.bool (decide (0 < cnt (metM N (F.mx i) F.mx l)))) ∧ Below V.heap.size V w' := by
    by_cases hne : l = []
    · subst hne
      rw [metM_none]
      exact meets_none _ (F.n i) (F.mx i) cnt aX cX V countIs hs
    · have hl0 : l.length ≠ 0 := fun e => hne (List.length_eq_zero_iff.1 e)
      obtain ⟨bl, cs, fz, rfl, hrow, hcell⟩ := slice_row hS.xs hl0
      have := meets_core (some ⟨F.b i, 0, none⟩) (F.n i) (F.mx i) bl 0 cX cnt (rowOf (pOf N F.b l) (iOf N F.mx l) l.length) V countIs hs (by rw [rowOf_length]; omega) (Array.getElem?_eq_some_iff.1 hrow).1 ?_ ?_
      · rw [rowOf_length, metM_row] at this; exact this
      · intro k hk
        rw [rowOf_length] at hk
        rw [rowOf_at _ _ _ _ hk, Nat.zero_add, hcell k hk, optL_at _ _ _ hk]
      · intro k hk
        rw [rowOf_length] at hk
        rw [rowOf_at _ _ _ _ hk]
        show ∃ n', SetM V (pOf N F.b l k) n' (iOf N F.mx l k)
        unfold pOf iOf
        by_cases hkN : kOf N l k < N
        · rw [if_pos hkN, if_pos hkN]; exact ⟨_, (h.inv.sets _ hkN).2⟩
        · rw [if_neg hkN, if_neg hkN]; exact ⟨0, SetM.nil V⟩
  refine key.mono ?_
  rintro e w' ⟨rfl, hb⟩
  exact ⟨rfl, h.keep hb, hS.keep hb⟩

theorem sat_rmeets (hi : i < N) (hlen : l.length ≤ 17592186043904) (h : SAt w V Bw N g g' cx cr F Bo kind A B sl) (hS : SomeS base V N F l r aX aR cX cR) :
    Calls Tryd.prog 32 #[.pointer (some ⟨F.br i, 0, none⟩), .slice aR l.length cR] V fun e w' => e = .returned (.bool (decide (0 < cnt (metM N (F.mr i) F.mr l)))) ∧ SAt w w' Bw N g g' cx cr F Bo kind A B sl ∧ SomeS base w' N F l r aX aR cX cR := by
  have hs := (h.inv.refs i hi).2
  have key : Calls Tryd.prog 32 #[.pointer (some ⟨F.br i, 0, none⟩), .slice aR l.length cR] V fun e w' => e = .returned (.bool (decide (0 < cnt (metM N (F.mr i) F.mr l)))) ∧ w' = V := by
    by_cases hne : l = []
    · subst hne
      rw [metM_none]
      exact rmeets_none _ _ _ _ cR aR V hs
    · have hl0 : l.length ≠ 0 := fun e => hne (List.length_eq_zero_iff.1 e)
      obtain ⟨bl, cs, fz, rfl, hrow, hcell⟩ := slice_row hS.rs hl0
      have := rmeets_row (F.br i) (F.bi i) (F.n i) (F.mr i) bl 0 cR (rowOf (fun j => some ⟨r j, 0, none⟩) (iOf N F.mr l) l.length) V hs (by rw [rowOf_length]; omega) ?_ ?_
      · rw [rowOf_length, metM_row] at this; exact this
      · intro k hk
        rw [rowOf_length] at hk
        rw [rowOf_at _ _ _ _ hk, Nat.zero_add, hcell k hk, ptrsL_at _ _ _ hk]
      · intro k hk
        rw [rowOf_length] at hk
        rw [rowOf_at _ _ _ _ hk]
        show AnyRef V (some ⟨r k, 0, none⟩) (iOf N F.mr l k)
        unfold iOf
        rcases hS.each k hk with ⟨hkN, hrk⟩ | ⟨hkN, hrk⟩
        · rw [if_pos hkN, hrk]; exact .inl ⟨_, _, _, rfl, (h.inv.refs _ hkN).2⟩
        · rw [if_neg (by omega)]; exact .inr ⟨_, rfl, hrk, rfl⟩
  refine key.mono ?_
  rintro e w' ⟨rfl, rfl⟩
  exact ⟨rfl, h, hS⟩
end

end Go.Proofs.YtkmocjdjdlpphaaDoor
