/-
  The steps of BitsGoes: what each call does to the law's sets and lists.
-/
import Derived.Test.YtkmocjdjdlpphaaDoorIs
namespace Go.Proofs.YtkmocjdjdlpphaaDoor
open Go.RowKit Go.Shelf

/-- The numbers of a list of the law's own, in a block from lo on. -/
def IntsFrom (lo : Nat) (w : World) (a : Option Addr) (l : List Int) : Prop :=
  l = [] ∨ ∃ g, a = some ⟨g, 0, none⟩ ∧ lo ≤ g ∧ ∀ i, i < l.length → w.cell? ⟨g, i, none⟩ = some (.int .i64 (l.getD i 0))

theorem IntsFrom.ints {lo : Nat} {w : World} {a : Option Addr} {l : List Int} (h : IntsFrom lo w a l) : IntsAt w a l := by
  rcases h with h | ⟨g, rfl, _, hc⟩
  · exact .inl h
  · exact .inr ⟨g, 0, rfl, fun i hi => by rw [Nat.zero_add]; exact hc i hi⟩
theorem IntsFrom.keep {lo : Nat} {w w' : World} {a : Option Addr} {l : List Int} (h : IntsFrom lo w a l) (hb : Below w.heap.size w w') : IntsFrom lo w' a l := by
  rcases h with h | ⟨g, rfl, hlo, hc⟩
  · exact .inl h
  · refine .inr ⟨g, rfl, hlo, fun i hi => ?_⟩
    rw [hb.cell (World.block_lt_of_cell? w _ (hc i hi))]; exact hc i hi
theorem IntsFrom.but {lo b : Nat} {w w' : World} {a : Option Addr} {l : List Int} (h : IntsFrom lo w a l) (hb : But b w w') (hlt : b < lo) : IntsFrom lo w' a l := by
  rcases h with h | ⟨g, rfl, hlo, hc⟩
  · exact .inl h
  · refine .inr ⟨g, rfl, hlo, fun i hi => ?_⟩
    rw [World.cell?_of_block (w := w) (hb.block g (World.block_lt_of_cell? w _ (hc i hi)) (by omega))]; exact hc i hi
theorem ints_from_own {w : World} {B : Nat} {v : Value} {M : List Int} (h : w.ownsRow B 3 1 v M.length (M.map (Value.int .i64))) : ∃ a cap, v = .slice a M.length cap ∧ IntsFrom B w a M := by
  rcases h.2 with ⟨rfl, h0⟩ | ⟨g, cap, cur, rfl, hg, hh, _⟩
  · have : M = [] := List.length_eq_zero_iff.1 h0
    subst this
    exact ⟨none, 0, rfl, .inl rfl⟩
  · refine ⟨some ⟨g, 0, none⟩, cap, rfl, .inr ⟨g, rfl, hg, fun i hi => ?_⟩⟩
    rw [h.cellAt i (by omega)]
    simp [List.getD, hi]

/-- What holds while the law goes on: R: its answer's cell; bx: its set; br, bi: the document's; Bw: what the members were (the list aw, M, from lo on); ba, bg: the two that All laid. -/
structure GInv (w W : World) (R bx bi br lo Bw ba bg n m0 mx mr : Nat) (aw : Option Addr) (cw : Nat) (M : List Int) : Prop where
  bel : Below w.heap.size w W
  box : Boxed W R 4 (.bool false)
  set : SetM W (some ⟨bx, 0, none⟩) n mx
  ref : RefAt W br bi n mr
  wbox : Boxed W Bw 29 (.slice aw M.length cw)
  was : IntsFrom lo W aw M
  all : RowAt W ba n (wd m0)
  again : RowAt W bg n (wd m0)
  ord : w.heap.size ≤ R ∧ R < bx ∧ bx < bi ∧ bi < br ∧ br < lo ∧ br < Bw ∧ br < ba ∧ br < bg

section
variable {w W W' : World} {R bx bi br lo Bw ba bg n m0 mx mr : Nat} {aw : Option Addr} {cw : Nat} {M : List Int}

theorem GInv.keep (h : GInv w W R bx bi br lo Bw ba bg n m0 mx mr aw cw M) (hb : Below W.heap.size W W') : GInv w W' R bx bi br lo Bw ba bg n m0 mx mr aw cw M :=
  ⟨h.bel.trans (hb.mono h.bel.size), (hb.block R h.box.lt).trans h.box, h.set.keep hb, h.ref.keep hb, (hb.block Bw h.wbox.lt).trans h.wbox, h.was.keep hb, h.all.below hb h.all.lt, h.again.below hb h.again.lt, h.ord⟩

theorem GInv.turn {mx' : Nat} (h : GInv w W R bx bi br lo Bw ba bg n m0 mx mr aw cw M) (hb : But bx W W') (hr : RowAt W' bx n (wd mx')) (hm : mx' < 2 ^ n) : GInv w W' R bx bi br lo Bw ba bg n m0 mx' mr aw cw M := by
  obtain ⟨o1, o2, o3, o4, o5, o6, o7, o8⟩ := h.ord
  exact ⟨h.bel.trans (hb.below h.bel.size (by omega)), (hb.block R h.box.lt (by omega)).trans h.box, SetM.of hr h.set.1 hm, h.ref.but hb (by omega) (by omega), (hb.block Bw h.wbox.lt (by omega)).trans h.wbox, h.was.but hb (by omega), h.all.but hb (by omega), h.again.but hb (by omega), h.ord⟩

theorem GInv.rturn {mr' : Nat} (h : GInv w W R bx bi br lo Bw ba bg n m0 mx mr aw cw M) (hb : But bi W W') (hr : RefAt W' br bi n mr') : GInv w W' R bx bi br lo Bw ba bg n m0 mx mr' aw cw M := by
  obtain ⟨o1, o2, o3, o4, o5, o6, o7, o8⟩ := h.ord
  exact ⟨h.bel.trans (hb.below h.bel.size (by omega)), (hb.block R h.box.lt (by omega)).trans h.box, h.set.but hb (fun b e => by cases e; omega), hr, (hb.block Bw h.wbox.lt (by omega)).trans h.wbox, h.was.but hb (by omega), h.all.but hb (by omega), h.again.but hb (by omega), h.ord⟩

theorem GInv.add (h : GInv w W R bx bi br lo Bw ba bg n m0 mx mr aw cw M) (a : Option Addr) (cap : Nat) (l : List Int) (hl : IntsAt w a l) (hlen : l.length < 1152921504606846976) :
    Calls Tryd.prog 15 #[.pointer (some ⟨bx, 0, none⟩), .slice a l.length cap] W fun e w' => e = .returned (.int .i64 ((addS n mx l).2 : Nat)) ∧ GInv w w' R bx bi br lo Bw ba bg n m0 (addS n mx l).1 mr aw cw M := by
  obtain ⟨o1, o2, o3, o4, o5, o6, o7, o8⟩ := h.ord
  rcases hl with rfl | ⟨bl, off, rfl, hc⟩
  · refine (add_none a cap _ W).mono ?_
    rintro e w' ⟨rfl, rfl⟩
    exact ⟨rfl, h⟩
  · by_cases hne : l = []
    · subst hne
      refine (add_none _ cap _ W).mono ?_
      rintro e w' ⟨rfl, rfl⟩
      exact ⟨rfl, h⟩
    · have hlt : bl < w.heap.size := World.block_lt_of_cell? w _ (hc 0 (List.length_pos_iff.2 hne))
      refine (add_row bx n mx bl off cap l W h.set.1 h.set.2.1 h.set.row (by omega) hlen (fun i hi => by rw [h.bel.cell (by exact hlt)]; exact hc i hi)).mono ?_
      rintro e w' ⟨rfl, hr, hm, hb⟩
      exact ⟨rfl, h.turn hb hr hm⟩

theorem GInv.drop (h : GInv w W R bx bi br lo Bw ba bg n m0 mx mr aw cw M) (a : Option Addr) (cap : Nat) (l : List Int) (hl : IntsAt w a l) (hlen : l.length < 1152921504606846976) :
    Calls Tryd.prog 16 #[.pointer (some ⟨bx, 0, none⟩), .slice a l.length cap] W fun e w' => e = .returned (.int .i64 ((dropS mx l).2 : Nat)) ∧ GInv w w' R bx bi br lo Bw ba bg n m0 (dropS mx l).1 mr aw cw M := by
  obtain ⟨o1, o2, o3, o4, o5, o6, o7, o8⟩ := h.ord
  rcases hl with rfl | ⟨bl, off, rfl, hc⟩
  · refine (drop_none a cap _ W).mono ?_
    rintro e w' ⟨rfl, rfl⟩
    exact ⟨rfl, h⟩
  · by_cases hne : l = []
    · subst hne
      refine (drop_none _ cap _ W).mono ?_
      rintro e w' ⟨rfl, rfl⟩
      exact ⟨rfl, h⟩
    · have hlt : bl < w.heap.size := World.block_lt_of_cell? w _ (hc 0 (List.length_pos_iff.2 hne))
      refine (drop_row bx n mx bl off cap l W h.set.1 h.set.2.1 h.set.row (by omega) hlen (fun i hi => by rw [h.bel.cell (by exact hlt)]; exact hc i hi)).mono ?_
      rintro e w' ⟨rfl, hr, hm, hb⟩
      exact ⟨rfl, h.turn hb hr hm⟩

theorem GInv.radd (h : GInv w W R bx bi br lo Bw ba bg n m0 mx mr aw cw M) (a : Option Addr) (cap : Nat) (l : List Int) (hl : IntsAt w a l) (hlen : l.length < 1152921504606846976) :
    Calls Tryd.prog 18 #[.pointer (some ⟨br, 0, none⟩), .slice a l.length cap] W fun e w' => e = .returned (.int .i64 ((addS n mr l).2 : Nat)) ∧ But bi W w' ∧ GInv w w' R bx bi br lo Bw ba bg n m0 mx (addS n mr l).1 aw cw M := by
  obtain ⟨o1, o2, o3, o4, o5, o6, o7, o8⟩ := h.ord
  rcases hl with rfl | ⟨bl, off, rfl, hc⟩
  · refine (radd_none br a cap W).mono ?_
    rintro e w' ⟨rfl, rfl⟩
    exact ⟨rfl, But.refl _ _, h⟩
  · by_cases hne : l = []
    · subst hne
      refine (radd_none br _ cap W).mono ?_
      rintro e w' ⟨rfl, rfl⟩
      exact ⟨rfl, But.refl _ _, h⟩
    · have hlt : bl < w.heap.size := World.block_lt_of_cell? w _ (hc 0 (List.length_pos_iff.2 hne))
      refine (radd_row br bi n mr bl off cap l W h.ref (by omega) hlen (fun i hi => by rw [h.bel.cell (by exact hlt)]; exact hc i hi)).mono ?_
      rintro e w' ⟨rfl, hr, hb⟩
      exact ⟨rfl, hb, h.rturn hb hr⟩

theorem GInv.rdrop (h : GInv w W R bx bi br lo Bw ba bg n m0 mx mr aw cw M) (a : Option Addr) (cap : Nat) (l : List Int) (hl : IntsAt w a l) (hlen : l.length < 1152921504606846976) :
    Calls Tryd.prog 19 #[.pointer (some ⟨br, 0, none⟩), .slice a l.length cap] W fun e w' => e = .returned (.int .i64 ((dropS mr l).2 : Nat)) ∧ But bi W w' ∧ GInv w w' R bx bi br lo Bw ba bg n m0 mx (dropS mr l).1 aw cw M := by
  obtain ⟨o1, o2, o3, o4, o5, o6, o7, o8⟩ := h.ord
  rcases hl with rfl | ⟨bl, off, rfl, hc⟩
  · refine (rdrop_none br a cap W).mono ?_
    rintro e w' ⟨rfl, rfl⟩
    exact ⟨rfl, But.refl _ _, h⟩
  · by_cases hne : l = []
    · subst hne
      refine (rdrop_none br _ cap W).mono ?_
      rintro e w' ⟨rfl, rfl⟩
      exact ⟨rfl, But.refl _ _, h⟩
    · have hlt : bl < w.heap.size := World.block_lt_of_cell? w _ (hc 0 (List.length_pos_iff.2 hne))
      refine (rdrop_row br bi n mr bl off cap l W h.ref (by omega) hlen (fun i hi => by rw [h.bel.cell (by exact hlt)]; exact hc i hi)).mono ?_
      rintro e w' ⟨rfl, hr, hb⟩
      exact ⟨rfl, hb, h.rturn hb hr⟩

theorem GInv.alike (h : GInv w W R bx bi br lo Bw ba bg n m0 mx mx aw cw M) (hT : Tab w) (hw0 : 0 < w.heap.size) : Alike2 W W bx br bi n mx :=
  ⟨Below.refl _ _, h.set, h.ref, hT.below h.bel hw0⟩
end

/-- The way out behind ranges over a function, the answer in the cell R. -/
theorem leave_marks {fn : Func} (hfn : fn.results = #[.cell 8 4]) {w : World} {R k : Nat} (hR : w.heap.size ≤ R) (tmps : Array Value) (h8 : tmps.getD 8 undef = .pointer (some ⟨R, 0, none⟩)) (v : Bool) :
    ∀ (ds : List Nat) (X : World), Below w.heap.size w X → Boxed X R 4 (.bool v) → (∀ D ∈ ds, w.heap.size ≤ D ∧ X.heap[D]? = some (.deferred (some []))) → ds.Nodup →
      LeavesInM Fence.wide k Tryd.prog fn tmps (fun e w' => e = .returned (.bool v) ∧ Below w.heap.size w w') (ds.map (fun D => { target := .collected D, args := #[] })) .returning X
  | [], X, hb, hB, _, _ => by
    have hc := hB.cell
    have h8' : tmps[8]?.getD undef = .pointer (some ⟨R, 0, none⟩) := by simpa using h8
    refine ⟨.bool v, ?_, rfl, hb⟩
    simp [results, hfn, go_sem, h8', hc]
  | D :: ds, X, hb, hB, hD, hnd => by
    obtain ⟨l1, k1⟩ := hD D (List.mem_cons_self ..)
    rw [List.nodup_cons] at hnd
    have hne : R ≠ D := fun e => by rw [e] at hB; have := hB.symm.trans k1; simp at this
    refine ⟨by simp, .inl ⟨_, _, rfl, run_takeDeferred k1, ?_⟩⟩
    refine leave_marks hfn hR tmps h8 v ds _ (hb.trans (belowK_b (w := w) (Nat.le_refl _) _ D _ (.deferred none) l1 k1 rfl rfl)) ((World.putObj_heap_other hne).trans hB) (fun E hE => ?_) hnd.2
    obtain ⟨l2, k2⟩ := hD E (List.mem_cons_of_mem _ hE)
    exact ⟨l2, (World.putObj_heap_other (fun e => hnd.1 (by rw [← e]; exact hE))).trans k2⟩

theorem ownFrom_boxed {β : Type} (B0 B : Nat) (t : TypeId) (f : β → Value) : OwnFrom B0 (fun s W => Boxed W B t (f s)) := fun s W W' row hs hg hr => hs.kept hg (fun e => by
  obtain ⟨_, o, ho, hc⟩ := hr B e.symm
  rw [show W.heap[B]? = _ from hs] at ho; cases ho; cases hc)

/-- What holds behind the first range: besides, the cells of k and n, and the marks of the ranges so far. -/
structure GMid (w W : World) (R bx bi br lo Bw ba bg n m0 mx mr : Nat) (aw : Option Addr) (cw : Nat) (M : List Int) (Bk Bn K : Nat) (ds : List Nat) : Prop where
  inv : GInv w W R bx bi br lo Bw ba bg n m0 mx mr aw cw M
  kbox : Boxed W Bk 3 (.int .i64 K)
  nbox : Boxed W Bn 3 (.int .i64 K)
  marks : ∀ D ∈ ds, bi < D ∧ W.heap[D]? = some (.deferred (some []))
  nodup : ds.Nodup
  ord : bi < Bk ∧ bi < Bn

section
variable {w W W' : World} {R bx bi br lo Bw ba bg n m0 mx mr mr' : Nat} {aw : Option Addr} {cw : Nat} {M : List Int} {Bk Bn K : Nat} {ds : List Nat}

theorem GMid.keep (h : GMid w W R bx bi br lo Bw ba bg n m0 mx mr aw cw M Bk Bn K ds) (hb : Below W.heap.size W W') : GMid w W' R bx bi br lo Bw ba bg n m0 mx mr aw cw M Bk Bn K ds :=
  ⟨h.inv.keep hb, (hb.block Bk h.kbox.lt).trans h.kbox, (hb.block Bn h.nbox.lt).trans h.nbox,
    fun D hD => ⟨(h.marks D hD).1, (hb.block D (Array.getElem?_eq_some_iff.1 (h.marks D hD).2).1).trans (h.marks D hD).2⟩, h.nodup, h.ord⟩

theorem GMid.turn (h : GMid w W R bx bi br lo Bw ba bg n m0 mx mr aw cw M Bk Bn K ds) (hb : But bi W W') (hg : GInv w W' R bx bi br lo Bw ba bg n m0 mx mr' aw cw M) : GMid w W' R bx bi br lo Bw ba bg n m0 mx mr' aw cw M Bk Bn K ds :=
  ⟨hg, (hb.block Bk h.kbox.lt (by have := h.ord; omega)).trans h.kbox, (hb.block Bn h.nbox.lt (by have := h.ord; omega)).trans h.nbox,
    fun D hD => ⟨(h.marks D hD).1, (hb.block D (Array.getElem?_eq_some_iff.1 (h.marks D hD).2).1 (by have := (h.marks D hD).1; omega)).trans (h.marks D hD).2⟩, h.nodup, h.ord⟩

theorem GMid.mark (h : GMid w W R bx bi br lo Bw ba bg n m0 mx mr aw cw M Bk Bn K ds) (hb : Below W.heap.size W W') {D : Nat} (hD : W.heap.size ≤ D) (hk : W'.heap[D]? = some (.deferred (some []))) : GMid w W' R bx bi br lo Bw ba bg n m0 mx mr aw cw M Bk Bn K (D :: ds) := by
  have h' := h.keep hb
  refine ⟨h'.inv, h'.kbox, h'.nbox, ?_, ?_, h.ord⟩
  · intro E hE
    rcases List.mem_cons.1 hE with rfl | hE
    · have := h.kbox.lt; have := h.ord
      exact ⟨by omega, hk⟩
    · exact h'.marks E hE
  · refine List.nodup_cons.2 ⟨fun hE => ?_, h.nodup⟩
    have := (Array.getElem?_eq_some_iff.1 (h.marks D hE).2).1
    omega

theorem GMid.leave (h : GMid w W R bx bi br lo Bw ba bg n m0 mx mr aw cw M Bk Bn K ds) (v : Bool) {fn : Func} (hfn : fn.results = #[.cell 8 4]) {k : Nat} (tmps : Array Value) (h8 : tmps.getD 8 undef = .pointer (some ⟨R, 0, none⟩)) :
    LeavesInM Fence.wide k Tryd.prog fn tmps (fun e w' => e = .returned (.bool v) ∧ Below w.heap.size w w') (ds.map (fun D => { target := .collected D, args := #[] })) .returning (W.setCell ⟨R, 0, none⟩ (.bool v)) := by
  obtain ⟨o1, o2, o3, o4, o5, o6, o7, o8⟩ := h.inv.ord
  refine leave_marks hfn o1 tmps h8 v ds _ (h.inv.bel.setCell (p := ⟨R, 0, none⟩) o1 _) (h.inv.box.set _) (fun D hD => ?_) h.nodup
  obtain ⟨h1, h2⟩ := h.marks D hD
  exact ⟨by omega, (Below.heap_setCell _ _ _ D (by simp only; omega)).trans h2⟩
end

theorem next_is {pre M : List Int} (x : Int) (hpre : pre <+: M) (hl : pre.length < M.length) : M.getD pre.length 0 = x ↔ (pre ++ [x]) <+: M := by
  obtain ⟨t, rfl⟩ := hpre
  rw [List.prefix_append_right_inj]
  cases t with
  | nil => simp at hl
  | cons y t => simp [List.getD, List.cons_prefix_cons, eq_comm]

end Go.Proofs.YtkmocjdjdlpphaaDoor
