/-
  A set more, and the document's: what a step that appends leaves.
-/
import Derived.Test.YtkmocjdjdlpphaaDoorStepLaws
namespace Go.Proofs.YtkmocjdjdlpphaaDoor
open Go.RowKit Go.Shelf

theorem grown_other {W W' : World} {base e n g : Nat} {v : Value} {xs : List Value} {cs : Array Value} {t : TypeId} {fz : Nat × Nat} (hown : W.ownsRow base e 1 v n xs) (hg : W.grownBy W' v.ownBlock) (hc : W.heap[g]? = some (.cells cs t fz)) (hne : t ≠ e) : W'.heap[g]? = some (.cells cs t fz) := by
  have hlt : g < W.heap.size := (Array.getElem?_eq_some_iff.1 hc).1
  rcases row_apart hown hc hne with h0 | h0
  · rw [h0] at hg; exact (hg.block g hlt (by simp)).trans hc
  · exact (hg.block g hlt h0.symm).trans hc

/-- What an append to one of the two rows and the store of its slice leave of all else. -/
theorem pushed_other {W W' : World} {base e n Bw k : Nat} {v v' : Value} {xs : List Value} {hd : Array Value} {fzh : Nat × Nat} (hown : W.ownsRow base e 1 v n xs) (hg : W.grownBy W' v.ownBlock) (hh : W.heap[Bw]? = some (.cells hd 28 fzh))
    {g : Nat} {cs : Array Value} {t : TypeId} {fz : Nat × Nat} (hc : W.heap[g]? = some (.cells cs t fz)) (hne : t ≠ e) (hn : t ≠ 28) : (W'.setCell ⟨Bw, k, none⟩ v').heap[g]? = some (.cells cs t fz) := by
  have h1 := grown_other hown hg hc hne
  exact ((But.setCell (But.refl Bw W') k v').block g (Array.getElem?_eq_some_iff.1 h1).1 (cells_ne hc hh hn)).trans h1

theorem own_form {W : World} {base e n : Nat} {v : Value} {xs : List Value} (h : W.ownsRow base e 1 v (n + 1) xs) : ∃ g c, v = .slice (some ⟨g, 0, none⟩) (n + 1) c := by
  rcases h.2 with ⟨_, h0⟩ | ⟨g, c, _, rfl, _⟩
  · omega
  · exact ⟨g, c, rfl⟩

section
variable {w W W1 W3 : World} {Bw Nx Nr : Nat} {vx vr : Value} {F : Fam} {o : Obj}

theorem PInv.pushX (h : PInv w W Bw Nx Nr vx vr F) (hlt : Nx < 64) (hle : Nr ≤ Nx) {b' n m : Nat} {vx' : Value} (hb : Below W.heap.size W W1) (hb' : W.heap.size ≤ b') (hs : SetM W1 (some ⟨b', 0, none⟩) n m)
    (hown : W3.ownsRow w.heap.size 34 1 vx' (Nx + 1) (ptrsL F.b Nx ++ [.pointer (some ⟨b', 0, none⟩)])) (hg : (W1.alloc o).grownBy W3 vx.ownBlock) :
    PInv w (W3.setCell ⟨Bw, 0, none⟩ vx') Bw (Nx + 1) Nr vx' vr { F with b := upd F.b Nx b', n := upd F.n Nx n, mx := upd F.mx Nx m } := by
  have h1 := h.keep hb
  have hal : Below W1.heap.size W1 (W1.alloc o) := (Below.refl _ W1).alloc (Nat.le_refl _) _
  have h2 := h1.keep hal
  have hs2 := hs.keep hal
  have hhead3 := grown_other h2.xs hg h2.head (by decide)
  have hbut : But Bw W3 (W3.setCell ⟨Bw, 0, none⟩ vx') := (But.refl _ _).setCell _ _
  have hbel3 : Below w.heap.size w W3 := below_append h1.bel h1.xs hg h1.bel.size
  have key := fun {g : Nat} {cs : Array Value} {t : TypeId} {fz : Nat × Nat} (hc : (W1.alloc o).heap[g]? = some (Obj.cells cs t fz)) (hne : t ≠ 34) (hn : t ≠ 28) => pushed_other (k := 0) (v' := vx') h2.xs hg h2.head hc hne hn
  refine ⟨hbel3.trans (hbut.below hbel3.size h.low), ?_, h.low, ?_, ?_, ?_, ?_, ?_, h.apr, ⟨hlt, h.le.2⟩⟩
  · rw [heap_setCell_same W3 Bw 0 _ _ _ hhead3]; rfl
  · have := hown.kept hbut.grown (row_apart hown hhead3 (by decide))
    rw [ptrsL_succ] at this; exact this
  · exact (h2.rs.kept hg (rows_apart h2.rs h2.xs (by decide))).kept hbut.grown (row_apart (h2.rs.kept hg (rows_apart h2.rs h2.xs (by decide))) hhead3 (by decide))
  · intro j hj
    show w.heap.size ≤ upd F.b Nx b' j ∧ SetM _ (some ⟨upd F.b Nx b' j, 0, none⟩) (upd F.n Nx n j) (upd F.mx Nx m j)
    by_cases e : j = Nx
    · subst e
      rw [upd_same, upd_same, upd_same]
      exact ⟨Nat.le_trans h.bel.size hb', SetM.of (key hs2.row (by decide) (by decide)) hs2.1 hs2.2.1⟩
    · rw [upd_other _ e, upd_other _ e, upd_other _ e]
      have := h2.sets j (by omega)
      exact ⟨this.1, SetM.of (key this.2.row (by decide) (by decide)) this.2.1 this.2.2.1⟩
  · intro j hj
    show w.heap.size ≤ F.bi j ∧ RefAt _ (F.br j) (F.bi j) (upd F.n Nx n j) (F.mr j)
    rw [upd_other _ (by omega)]
    have := h2.refs j hj
    exact ⟨this.1, key this.2.head (by decide) (by decide), key this.2.row (by decide) (by decide), this.2.ne, this.2.le, this.2.lt⟩
  · intro i j hi hj e
    have e' : upd F.b Nx b' i = upd F.b Nx b' j := e
    have hl : ∀ k, k < Nx → F.b k < W.heap.size := fun k hk => (h.sets k hk).2.row.lt
    by_cases ei : i = Nx
    · by_cases ej : j = Nx
      · omega
      · rw [ei, upd_same, upd_other _ ej] at e'
        have := hl j (by omega)
        omega
    · by_cases ej : j = Nx
      · rw [ej, upd_same, upd_other _ ei] at e'
        have := hl i (by omega)
        omega
      · rw [upd_other _ ei, upd_other _ ej] at e'
        exact h.apx i j (by omega) (by omega) e'

theorem PInv.pushR (h : PInv w W Bw Nx Nr vx vr F) (hlt : Nr < 64) {br' bi' m : Nat} {vr' : Value} (hb : Below W.heap.size W W1) (hb' : W.heap.size ≤ bi') (hs : RefAt W1 br' bi' (F.n Nr) m)
    (hown : W3.ownsRow w.heap.size 35 1 vr' (Nr + 1) (ptrsL F.br Nr ++ [.pointer (some ⟨br', 0, none⟩)])) (hg : (W1.alloc o).grownBy W3 vr.ownBlock) :
    PInv w (W3.setCell ⟨Bw, 1, none⟩ vr') Bw Nx (Nr + 1) vx vr' { F with br := upd F.br Nr br', bi := upd F.bi Nr bi', mr := upd F.mr Nr m } := by
  have h1 := h.keep hb
  have hal : Below W1.heap.size W1 (W1.alloc o) := (Below.refl _ W1).alloc (Nat.le_refl _) _
  have h2 := h1.keep hal
  have hs2 := hs.keep hal
  have hhead3 := grown_other h2.rs hg h2.head (by decide)
  have hbut : But Bw W3 (W3.setCell ⟨Bw, 1, none⟩ vr') := (But.refl _ _).setCell _ _
  have hbel3 : Below w.heap.size w W3 := below_append h1.bel h1.rs hg h1.bel.size
  have key := fun {g : Nat} {cs : Array Value} {t : TypeId} {fz : Nat × Nat} (hc : (W1.alloc o).heap[g]? = some (Obj.cells cs t fz)) (hne : t ≠ 35) (hn : t ≠ 28) => pushed_other (k := 1) (v' := vr') h2.rs hg h2.head hc hne hn
  refine ⟨hbel3.trans (hbut.below hbel3.size h.low), ?_, h.low, ?_, ?_, ?_, ?_, h.apx, ?_, ⟨h.le.1, hlt⟩⟩
  · rw [heap_setCell_same W3 Bw 1 _ _ _ hhead3]; rfl
  · exact (h2.xs.kept hg (rows_apart h2.xs h2.rs (by decide))).kept hbut.grown (row_apart (h2.xs.kept hg (rows_apart h2.xs h2.rs (by decide))) hhead3 (by decide))
  · have := hown.kept hbut.grown (row_apart hown hhead3 (by decide))
    rw [ptrsL_succ] at this; exact this
  · intro j hj
    have := h2.sets j hj
    exact ⟨this.1, SetM.of (key this.2.row (by decide) (by decide)) this.2.1 this.2.2.1⟩
  · intro j hj
    show w.heap.size ≤ upd F.bi Nr bi' j ∧ RefAt _ (upd F.br Nr br' j) (upd F.bi Nr bi' j) (F.n j) (upd F.mr Nr m j)
    by_cases e : j = Nr
    · subst e
      rw [upd_same, upd_same, upd_same]
      exact ⟨Nat.le_trans h.bel.size hb', key hs2.head (by decide) (by decide), key hs2.row (by decide) (by decide), hs2.ne, hs2.le, hs2.lt⟩
    · rw [upd_other _ e, upd_other _ e, upd_other _ e]
      have := h2.refs j (by omega)
      exact ⟨this.1, key this.2.head (by decide) (by decide), key this.2.row (by decide) (by decide), this.2.ne, this.2.le, this.2.lt⟩
  · intro i j hi hj e
    have e' : upd F.bi Nr bi' i = upd F.bi Nr bi' j := e
    have hl : ∀ k, k < Nr → F.bi k < W.heap.size := fun k hk => (h.refs k hk).2.lti
    by_cases ei : i = Nr
    · by_cases ej : j = Nr
      · omega
      · rw [ei, upd_same, upd_other _ ej] at e'
        have := hl j (by omega)
        omega
    · by_cases ej : j = Nr
      · rw [ej, upd_same, upd_other _ ei] at e'
        have := hl i (by omega)
        omega
      · rw [upd_other _ ei, upd_other _ ej] at e'
        exact h.apr i j (by omega) (by omega) e'
end

/-- The sets, with two lists that may differ in length, and the step's own copy of what it is told, in block Bo. -/
structure QAt (w V : World) (Bw Nx Nr : Nat) (vx vr : Value) (F : Fam) (Bo : Nat) (kind A B : Int) (sl : Value) : Prop where
  inv : PInv w V Bw Nx Nr vx vr F
  box : V.heap[Bo]? = some (.cells #[.int .i64 kind, .int .i64 A, .int .i64 B, sl] 31 (0, 0))

section
variable {w V V' W1 W3 : World} {Bw Nx Nr : Nat} {vx vr : Value} {F : Fam} {Bo : Nat} {kind A B : Int} {sl : Value} {o : Obj} {g cx : Nat}
theorem QAt.keep (h : QAt w V Bw Nx Nr vx vr F Bo kind A B sl) (hb : Below V.heap.size V V') : QAt w V' Bw Nx Nr vx vr F Bo kind A B sl :=
  ⟨h.inv.keep hb, (hb.block Bo (Array.getElem?_eq_some_iff.1 h.box).1).trans h.box⟩
theorem QAt.drewN (h : QAt w V Bw Nx Nr vx vr F Bo kind A B sl) (k : Nat) : QAt w (V.drewN k) Bw Nx Nr vx vr F Bo kind A B sl := h.keep (Below.drewN' (Below.refl _ V) k)
theorem QAt.drew (h : QAt w V Bw Nx Nr vx vr F Bo kind A B sl) : QAt w V.drew Bw Nx Nr vx vr F Bo kind A B sl := h.keep ((Below.refl _ V).drew)
theorem QAt.a1 (h : QAt w V Bw Nx Nr vx vr F Bo kind A B sl) : V.cell? ⟨Bo, 1, none⟩ = some (.int .i64 A) := cell_of_row V Bo 1 _ _ _ h.box
theorem QAt.a3 (h : QAt w V Bw Nx Nr vx vr F Bo kind A B sl) : V.cell? ⟨Bo, 3, none⟩ = some sl := cell_of_row V Bo 3 _ _ _ h.box

theorem QAt.pushX (h : QAt w V Bw Nx Nr vx vr F Bo kind A B sl) (hlt : Nx < 64) (hle : Nr ≤ Nx) {b' n m : Nat} {vx' : Value} (hb : Below V.heap.size V W1) (hb' : V.heap.size ≤ b') (hs : SetM W1 (some ⟨b', 0, none⟩) n m)
    (hown : W3.ownsRow w.heap.size 34 1 vx' (Nx + 1) (ptrsL F.b Nx ++ [.pointer (some ⟨b', 0, none⟩)])) (hg : (W1.alloc o).grownBy W3 vx.ownBlock) :
    QAt w (W3.setCell ⟨Bw, 0, none⟩ vx') Bw (Nx + 1) Nr vx' vr { F with b := upd F.b Nx b', n := upd F.n Nx n, mx := upd F.mx Nx m } Bo kind A B sl := by
  have h2 := (h.keep hb).keep ((Below.refl _ W1).alloc (Nat.le_refl _) o)
  exact ⟨h.inv.pushX hlt hle hb hb' hs hown hg, pushed_other h2.inv.xs hg h2.inv.head h2.box (by decide) (by decide)⟩

theorem QAt.pushR (h : QAt w V Bw Nx Nr vx vr F Bo kind A B sl) (hlt : Nr < 64) {br' bi' m : Nat} {vr' : Value} (hb : Below V.heap.size V W1) (hb' : V.heap.size ≤ bi') (hs : RefAt W1 br' bi' (F.n Nr) m)
    (hown : W3.ownsRow w.heap.size 35 1 vr' (Nr + 1) (ptrsL F.br Nr ++ [.pointer (some ⟨br', 0, none⟩)])) (hg : (W1.alloc o).grownBy W3 vr.ownBlock) :
    QAt w (W3.setCell ⟨Bw, 1, none⟩ vr') Bw Nx (Nr + 1) vx vr' { F with br := upd F.br Nr br', bi := upd F.bi Nr bi', mr := upd F.mr Nr m } Bo kind A B sl := by
  have h2 := (h.keep hb).keep ((Below.refl _ W1).alloc (Nat.le_refl _) o)
  exact ⟨h.inv.pushR hlt hb hb' hs hown hg, pushed_other h2.inv.rs hg h2.inv.head h2.box (by decide) (by decide)⟩

/-- Behind the append, ahead of the store: the struct's two cells. -/
theorem QAt.midX (h : QAt w V Bw Nx Nr vx vr F Bo kind A B sl) (hb : Below V.heap.size V W1) (hg : (W1.alloc o).grownBy W3 vx.ownBlock) : W3.cell? ⟨Bw, 0, none⟩ = some vx ∧ W3.frozen? ⟨Bw, 0, none⟩ = false := by
  have h2 := (h.keep hb).keep ((Below.refl _ W1).alloc (Nat.le_refl _) o)
  have h3 := grown_other h2.inv.xs hg h2.inv.head (by decide)
  exact ⟨cell_of_row W3 Bw 0 _ _ _ h3, frozen_of_row W3 Bw 0 _ _ h3⟩
theorem QAt.midR (h : QAt w V Bw Nx Nr vx vr F Bo kind A B sl) (hb : Below V.heap.size V W1) (hg : (W1.alloc o).grownBy W3 vr.ownBlock) : W3.cell? ⟨Bw, 1, none⟩ = some vr ∧ W3.frozen? ⟨Bw, 1, none⟩ = false := by
  have h2 := (h.keep hb).keep ((Below.refl _ W1).alloc (Nat.le_refl _) o)
  have h3 := grown_other h2.inv.rs hg h2.inv.head (by decide)
  exact ⟨cell_of_row W3 Bw 1 _ _ _ h3, frozen_of_row W3 Bw 1 _ _ h3⟩

theorem QAt.xat (h : QAt w V Bw Nx Nr (.slice (some ⟨g, 0, none⟩) Nx cx) vr F Bo kind A B sl) (j : Nat) (hj : j < Nx) : V.cell? ⟨g, j, none⟩ = some (.pointer (some ⟨F.b j, 0, none⟩)) := (h.inv.xs.cellAt j (by omega)).trans (ptrsL_at F.b Nx j hj)
theorem QAt.rat (h : QAt w V Bw Nx Nr vx (.slice (some ⟨g, 0, none⟩) Nr cx) F Bo kind A B sl) (j : Nat) (hj : j < Nr) : V.cell? ⟨g, j, none⟩ = some (.pointer (some ⟨F.br j, 0, none⟩)) := (h.inv.rs.cellAt j (by omega)).trans (ptrsL_at F.br Nr j hj)

theorem qat_rcopy (h : QAt w V Bw Nx Nr vx vr F Bo kind A B sl) {i : Nat} (hi : i < Nr) (hn : F.n Nr = F.n i) :
    Calls Tryd.prog 34 #[.pointer (some ⟨F.br i, 0, none⟩)] V fun e w' => ∃ br' bi', e = .returned (.pointer (some ⟨br', 0, none⟩)) ∧ V.heap.size ≤ bi' ∧ RefAt w' br' bi' (F.n Nr) (F.mr i) ∧ Below V.heap.size V w' := by
  rw [hn]
  refine (rcopy_core _ _ _ _ (mems 1024 (F.mr i)) V (h.inv.refs i hi).2 rfl).mono ?_
  rintro e w' ⟨br', bi', rfl, h1, _, h3, h4⟩
  exact ⟨br', bi', rfl, h1, h3, h4⟩

theorem qat_is (h : QAt w V Bw Nx Nr vx vr F Bo kind A B sl) {i j : Nat} (hi : i < Nx) (hj : j < Nr) (hT : Tab w) (hw0 : 0 < w.heap.size) (hn : F.n j = F.n i) (hm : F.mr j = F.mx i) :
    Calls Tryd.prog 9 #[.pointer (some ⟨F.b i, 0, none⟩), .pointer (some ⟨F.br j, 0, none⟩)] V fun e w' => e = .returned (.bool true) ∧ QAt w w' Bw Nx Nr vx vr F Bo kind A B sl := by
  have h2 := (h.inv.refs j hj).2
  rw [hn, hm] at h2
  refine (is_any (F.b i) (F.br j) (F.bi j) (F.n i) (F.mx i) V ⟨Below.refl _ _, (h.inv.sets i hi).2, h2, hT.below h.inv.bel hw0⟩).mono ?_
  rintro e w' ⟨rfl, hb⟩
  exact ⟨rfl, h.keep hb⟩
end

end Go.Proofs.YtkmocjdjdlpphaaDoor
