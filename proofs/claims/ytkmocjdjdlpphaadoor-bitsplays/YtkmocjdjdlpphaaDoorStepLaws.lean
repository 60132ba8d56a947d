/-
  What the calls of a step do to the sets of a script.
-/
import Derived.Test.YtkmocjdjdlpphaaDoorStepEqual
namespace Go.Proofs.YtkmocjdjdlpphaaDoor
open Go.RowKit Go.Shelf

section
variable {w V V' : World} {Bw N g g' cx cr : Nat} {F : Fam} {Bo : Nat} {kind A B : Int} {sl : Value} {i j : Nat} {a : Option Addr} {cap : Nat} {l : List Int} {gL : Nat}

theorem SAt.turnX (h : SAt w V Bw N g g' cx cr F Bo kind A B sl) {m' : Nat} (hi : i < N) (hb : But (F.b i) V V') (hr : RowAt V' (F.b i) (F.n i) (wd m')) (hm : m' < 2 ^ F.n i) : SAt w V' Bw N g g' cx cr { F with mx := upd F.mx i m' } Bo kind A B sl :=
  ⟨h.inv.turnX hi hb hr hm, (hb.block Bo (Array.getElem?_eq_some_iff.1 h.box).1 (cells_ne h.box (h.inv.sets i hi).2.row (by decide))).trans h.box⟩
theorem SAt.turnR (h : SAt w V Bw N g g' cx cr F Bo kind A B sl) {m' : Nat} (hi : i < N) (hb : But (F.bi i) V V') (hr : RefAt V' (F.br i) (F.bi i) (F.n i) m') : SAt w V' Bw N g g' cx cr { F with mr := upd F.mr i m' } Bo kind A B sl :=
  ⟨h.inv.turnR hi hb hr, (hb.block Bo (Array.getElem?_eq_some_iff.1 h.box).1 (cells_ne h.box (h.inv.refs i hi).2.row (by decide))).trans h.box⟩
theorem LentAt.butX (h : LentAt V gL l 8) (hA : SAt w V Bw N g g' cx cr F Bo kind A B sl) (hi : i < N) (hb : But (F.b i) V V') : LentAt V' gL l 8 :=
  (hb.block gL h.lt (cells_ne h (hA.inv.sets i hi).2.row (by decide))).trans h
theorem LentAt.butR (h : LentAt V gL l 8) (hA : SAt w V Bw N g g' cx cr F Bo kind A B sl) (hi : i < N) (hb : But (F.bi i) V V') : LentAt V' gL l 8 :=
  (hb.block gL h.lt (cells_ne h (hA.inv.refs i hi).2.row (by decide))).trans h
theorem LentAt.keep (h : LentAt V gL l 8) (hb : Below V.heap.size V V') : LentAt V' gL l 8 := (hb.block gL h.lt).trans h

theorem sat_lent (hl : IntsAt w a l) (hlen : l.length ≤ 17592186043904) (h : SAt w V Bw N g g' cx cr F Bo kind A B sl) :
    Calls Tryd.prog 28 #[.slice a l.length cap] V fun e w' => e = .returned (.tuple #[.slice (some ⟨V.heap.size, 0, none⟩) l.length (l.length + 8), .slice (some ⟨V.heap.size, 0, none⟩) (l.length + 8) (l.length + 8)]) ∧ SAt w w' Bw N g g' cx cr F Bo kind A B sl ∧ LentAt w' V.heap.size l 8 := by
  refine (lent_any a cap l V (hl.below h.inv.bel) (by omega)).mono ?_
  rintro e w' ⟨rfl, hL, hb⟩
  exact ⟨rfl, h.keep hb, hL⟩

theorem sat_add (hi : i < N) (hlen : l.length ≤ 17592186043904) (h : SAt w V Bw N g g' cx cr F Bo kind A B sl) (hL : LentAt V gL l 8) :
    Calls Tryd.prog 15 #[.pointer (some ⟨F.b i, 0, none⟩), .slice (some ⟨gL, 0, none⟩) l.length cap] V fun e w' => e = .returned (.int .i64 ((addS (F.n i) (F.mx i) l).2 : Nat)) ∧ SAt w w' Bw N g g' cx cr { F with mx := upd F.mx i (addS (F.n i) (F.mx i) l).1 } Bo kind A B sl ∧ LentAt w' gL l 8 := by
  have hs := (h.inv.sets i hi).2
  refine (add_row (F.b i) (F.n i) (F.mx i) gL 0 cap l V hs.1 hs.2.1 hs.row (cells_ne hL hs.row (by decide)) (by omega) (fun k hk => ?_)).mono ?_
  · rw [cell_of_row V gL (0 + k) _ _ _ hL, Nat.zero_add]; simpa using lentL_front l 8 k hk
  · rintro e w' ⟨rfl, hr, hm, hb⟩
    exact ⟨rfl, h.turnX hi hb hr hm, hL.butX h hi hb⟩

theorem sat_drop (hi : i < N) (hlen : l.length ≤ 17592186043904) (h : SAt w V Bw N g g' cx cr F Bo kind A B sl) (hL : LentAt V gL l 8) :
    Calls Tryd.prog 16 #[.pointer (some ⟨F.b i, 0, none⟩), .slice (some ⟨gL, 0, none⟩) l.length cap] V fun e w' => e = .returned (.int .i64 ((dropS (F.mx i) l).2 : Nat)) ∧ SAt w w' Bw N g g' cx cr { F with mx := upd F.mx i (dropS (F.mx i) l).1 } Bo kind A B sl ∧ LentAt w' gL l 8 := by
  have hs := (h.inv.sets i hi).2
  refine (drop_row (F.b i) (F.n i) (F.mx i) gL 0 cap l V hs.1 hs.2.1 hs.row (cells_ne hL hs.row (by decide)) (by omega) (fun k hk => ?_)).mono ?_
  · rw [cell_of_row V gL (0 + k) _ _ _ hL, Nat.zero_add]; simpa using lentL_front l 8 k hk
  · rintro e w' ⟨rfl, hr, hm, hb⟩
    exact ⟨rfl, h.turnX hi hb hr hm, hL.butX h hi hb⟩

theorem sat_radd (hi : i < N) (hl : IntsAt w a l) (hlen : l.length ≤ 17592186043904) (h : SAt w V Bw N g g' cx cr F Bo kind A B sl) (hL : LentAt V gL l 8) :
    Calls Tryd.prog 18 #[.pointer (some ⟨F.br i, 0, none⟩), .slice a l.length cap] V fun e w' => e = .returned (.int .i64 ((addS (F.n i) (F.mr i) l).2 : Nat)) ∧ SAt w w' Bw N g g' cx cr { F with mr := upd F.mr i (addS (F.n i) (F.mr i) l).1 } Bo kind A B sl ∧ LentAt w' gL l 8 := by
  have hs := (h.inv.refs i hi).2
  have hlow := (h.inv.refs i hi).1
  have hid : ∀ m, addS (F.n i) m [] = (m, 0) := fun _ => rfl
  have key : Calls Tryd.prog 18 #[.pointer (some ⟨F.br i, 0, none⟩), .slice a l.length cap] V fun e w' => e = .returned (.int .i64 ((addS (F.n i) (F.mr i) l).2 : Nat)) ∧ RefAt w' (F.br i) (F.bi i) (F.n i) (addS (F.n i) (F.mr i) l).1 ∧ But (F.bi i) V w' := by
    by_cases hne : l = []
    · subst hne
      refine (radd_none (F.br i) a cap V).mono ?_
      rintro e w' ⟨rfl, rfl⟩
      exact ⟨rfl, by rw [hid]; exact hs, But.refl _ _⟩
    · rcases hl with rfl | ⟨bl, off, rfl, hc⟩
      · exact absurd rfl hne
      · have hlt : bl < w.heap.size := World.block_lt_of_cell? w _ (hc 0 (List.length_pos_iff.2 hne))
        exact radd_row (F.br i) (F.bi i) (F.n i) (F.mr i) bl off cap l V hs (by omega) (by omega) (fun k hk => by rw [h.inv.bel.cell (by exact hlt)]; exact hc k hk)
  refine key.mono ?_
  rintro e w' ⟨rfl, hr, hb⟩
  exact ⟨rfl, h.turnR hi hb hr, hL.butR h hi hb⟩

theorem sat_rdrop (hi : i < N) (hl : IntsAt w a l) (hlen : l.length ≤ 17592186043904) (h : SAt w V Bw N g g' cx cr F Bo kind A B sl) (hL : LentAt V gL l 8) :
    Calls Tryd.prog 19 #[.pointer (some ⟨F.br i, 0, none⟩), .slice a l.length cap] V fun e w' => e = .returned (.int .i64 ((dropS (F.mr i) l).2 : Nat)) ∧ SAt w w' Bw N g g' cx cr { F with mr := upd F.mr i (dropS (F.mr i) l).1 } Bo kind A B sl ∧ LentAt w' gL l 8 := by
  have hs := (h.inv.refs i hi).2
  have hlow := (h.inv.refs i hi).1
  have hid : ∀ m, dropS m [] = (m, 0) := fun _ => rfl
  have key : Calls Tryd.prog 19 #[.pointer (some ⟨F.br i, 0, none⟩), .slice a l.length cap] V fun e w' => e = .returned (.int .i64 ((dropS (F.mr i) l).2 : Nat)) ∧ RefAt w' (F.br i) (F.bi i) (F.n i) (dropS (F.mr i) l).1 ∧ But (F.bi i) V w' := by
    by_cases hne : l = []
    · subst hne
      refine (rdrop_none (F.br i) a cap V).mono ?_
      rintro e w' ⟨rfl, rfl⟩
      exact ⟨rfl, by rw [hid]; exact hs, But.refl _ _⟩
    · rcases hl with rfl | ⟨bl, off, rfl, hc⟩
      · exact absurd rfl hne
      · have hlt : bl < w.heap.size := World.block_lt_of_cell? w _ (hc 0 (List.length_pos_iff.2 hne))
        exact rdrop_row (F.br i) (F.bi i) (F.n i) (F.mr i) bl off cap l V hs (by omega) (by omega) (fun k hk => by rw [h.inv.bel.cell (by exact hlt)]; exact hc k hk)
  refine key.mono ?_
  rintro e w' ⟨rfl, hr, hb⟩
  exact ⟨rfl, h.turnR hi hb hr, hL.butR h hi hb⟩

theorem sat_whole {capA : Nat} (hl : IntsAt w a l) (hlen : l.length ≤ 17592186043904) (h : SAt w V Bw N g g' cx cr F Bo kind A B sl) (hL : LentAt V gL l 8) :
    Calls Tryd.prog 29 #[.slice (some ⟨gL, 0, none⟩) (l.length + 8) capA, .slice a l.length cap] V fun e w' => e = .returned (.bool true) ∧ SAt w w' Bw N g g' cx cr F Bo kind A B sl := by
  refine (whole_any gL capA a cap l V hL (hl.below h.inv.bel) (by omega)).mono ?_
  rintro e w' ⟨rfl, k, rfl⟩
  exact ⟨rfl, h.drewN k⟩

theorem sat_is (hi : i < N) (hT : Tab w) (hw0 : 0 < w.heap.size) (hs : F.mx i = F.mr i) (h : SAt w V Bw N g g' cx cr F Bo kind A B sl) :
    Calls Tryd.prog 9 #[.pointer (some ⟨F.b i, 0, none⟩), .pointer (some ⟨F.br i, 0, none⟩)] V fun e w' => e = .returned (.bool true) ∧ SAt w w' Bw N g g' cx cr F Bo kind A B sl := by
  have h2 := (h.inv.refs i hi).2
  rw [← hs] at h2
  refine (is_any (F.b i) (F.br i) (F.bi i) (F.n i) (F.mx i) V ⟨Below.refl _ _, (h.inv.sets i hi).2, h2, hT.below h.inv.bel hw0⟩).mono ?_
  rintro e w' ⟨rfl, hb⟩
  exact ⟨rfl, h.keep hb⟩
end

/-- Both turned alike. -/
theorem Same.turn {N i m' : Nat} {F : Fam} (h : Same N F) : Same N { F with mx := upd F.mx i m', mr := upd F.mr i m' } := by
  intro j hj
  show upd F.mx i m' j = upd F.mr i m' j
  by_cases e : j = i
  · subst e; rw [upd_same, upd_same]
  · rw [upd_other _ e, upd_other _ e]; exact h j hj

end Go.Proofs.YtkmocjdjdlpphaaDoor
