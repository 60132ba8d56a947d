/-
  Grammar of a builder, where there is one to tell.
-/
import Derived.Test.YtkbpnafahimeiaaGrammarWalk
namespace Go.Proofs.Ytkbpnafahimeiaa
open Go.RowKit Go.Maps Go.Shelf

attribute [local go_sem] Oper.semAt_some

theorem keepR {W W' : World} {B e s n : Nat} {v : Value} {xs : List Value} (h : W.ownsRow B e s v n xs) (hg : W.grownBy W' none) : Hid (W'.ownsRow B e s v n xs) := h.kept hg (by cases hv : v.ownBlock <;> simp)
theorem owns_hid {W : World} {B B' e s n : Nat} {v : Value} {xs : List Value} (h : W.ownsRow B e s v n xs) (hle : B' ≤ B) : Hid (W.ownsRow B' e s v n xs) := owns_lower h hle

/-- The told productions, in their own memory. -/
structure PNew (W : World) (B : Nat) (v : Value) (S : BS) (rg : Nat → Value) : Prop where
  row : W.ownsRow B 52 3 v S.prods.length (prodRow S.prods.length (fun i => sg S.sym (S.prods.getD i ⟨0, [], 0⟩).left) rg (fun i => (S.prods.getD i ⟨0, [], 0⟩).level))
  rights : ∀ i, i < S.prods.length → W.ownsRow B 3 1 (rg i) ((S.prods.getD i ⟨0, [], 0⟩).right.map (sg S.sym)).length (((S.prods.getD i ⟨0, [], 0⟩).right.map (sg S.sym)).map (Value.int .i64))
theorem keepP {W W' : World} {B : Nat} {v : Value} {S : BS} {rg : Nat → Value} (h : PNew W B v S rg) (hg : W.grownBy W' none) : Hid (PNew W' B v S rg) :=
  ⟨h.row.kept hg (by cases hv : v.ownBlock <;> simp), fun i hi => (h.rights i hi).kept hg (by cases hv : (rg i).ownBlock <;> simp)⟩
theorem pnew_of {X W : World} {B : Nat} {v : Value} {S : BS} {rg : Nat → Value} (h : NewProds X W X.heap.size v S.prods.length S.prods.length (fun i => sg S.sym (S.prods.getD i ⟨0, [], 0⟩).left) (fun i => (S.prods.getD i ⟨0, [], 0⟩).right.map (sg S.sym)) (fun i => (S.prods.getD i ⟨0, [], 0⟩).level) rg) (hle : B ≤ X.heap.size) : Hid (PNew W B v S rg) :=
  ⟨owns_lower h.row hle, fun i hi => owns_lower (h.rights i hi) hle⟩

theorem owns_off {W W' : World} {B e s n k : Nat} {v : Value} {xs : List Value} (h : W.ownsRow (k + 1) e s v n xs) (hst : W.grownBy W' (some k)) (hB : B ≤ k) : W'.ownsRow B e s v n xs := by
  refine owns_lower (h.kept hst ?_) (Nat.le_trans hB (Nat.le_succ k))
  cases hv : v.ownBlock with
  | none => exact .inl rfl
  | some g => have := (h.lt g hv).1; exact .inr (by simp; omega)

theorem gram_fin {w w0 W W' : World} {b Bs : Nat} {S : BS} {vt vn vl vp : Value} {rg : Nat → Value} (hM : GMid w0 W b w.heap.size Bs S vn) (hw0 : w.grownBy w0 none) (hlt : w.heap.size < w0.heap.size)
    (hT : W.ownsRow (w.heap.size + 1) 74 2 vt (S.terms.length + 1) (tmsL (S.tms S.terms.length))) (hL : W.ownsRow (w.heap.size + 1) 3 1 vl S.sides.length (S.sides.map (Value.int .i64))) (hP : PNew W (w.heap.size + 1) vp S rg) (hst : W.grownBy W' (some w.heap.size)) :
    GramNew W' w.heap.size S.gram vt vn vl vp ∧ w.grownBy W' none := by
  have hlo := hM.ord.lo
  refine ⟨gram_new (owns_off hT hst (Nat.le_refl _)) (owns_off (owns_lower hM.ord.outs (by omega)) hst (Nat.le_refl _)) (owns_off hL hst (Nat.le_refl _)) (owns_off hP.row hst (Nat.le_refl _)) (fun i hi => owns_off (hP.rights i hi) hst (Nat.le_refl _)), ?_⟩
  exact grown_new (grown_trans hw0 hM.ord.grown) hst (Nat.le_refl _)

theorem wrapJ (j : Nat) (h : j ≤ 64) : IntKind.i64.wrap (j : Int) = (j : Int) := by
  simp [IntKind.wrap, IntKind.signed, IntKind.bits]
  omega

theorem first_ok {S : BS} (h : S.OK) (h0 : 0 < S.prods.length) : ∃ j : Nat, S.first = -(j : Int) ∧ 1 ≤ j ∧ j ≤ S.nons.length := by
  have hb : -(S.nons.length : Int) ≤ S.first ∧ S.first < 0 := by
    unfold BS.first
    split
    · refine h.pl _ ?_
      have : S.prods.getD 0 ⟨0, [], 0⟩ = S.prods[0] := by simp [List.getD, h0]
      rw [this]; exact List.getElem_mem _
    · next hne =>
      rcases h.st with h' | h'
      · exact absurd h' hne
      · exact h'
  obtain ⟨j, hj⟩ := Int.eq_ofNat_of_zero_le (show 0 ≤ -S.first by omega)
  exact ⟨j, by omega, by omega, by omega⟩

set_option maxRecDepth 100000 in
set_option maxHeartbeats 8000000 in
theorem grammar_told (b : Nat) (S : BS) (w : World) (hB : BAt w b S) (h0 : 0 < S.prods.length) (hs : S.nons.length ≤ (ordOf S.prods).length) :
    Calls Try.prog 20 #[.pointer (some ⟨b, 0, none⟩)] w fun e w' => ∃ vt vn vl vp, e = .returned (.tuple #[.agg #[vt, vn, vl, .int .i64 S.gram.start, vp], .int .i64 0]) ∧ GramNew w' w.heap.size S.gram vt vn vl vp ∧ w.grownBy w' none := by
  obtain ⟨w0, hw0⟩ : ∃ w0, w0 = w.alloc (.cells #[.slice none 0 0, .slice none 0 0, .slice none 0 0, .int .i64 0, .slice none 0 0] 42) := ⟨_, rfl⟩
  have hG0 : w.grownBy w0 none := by rw [hw0]; exact World.grownBy_alloc w _ none
  have hlt0 : w.heap.size < w0.heap.size := by rw [hw0]; simp
  have hbox0 : w0.heap[w.heap.size]? = some (.cells #[.slice none 0 0, .slice none 0 0, .slice none 0 0, .int .i64 0, .slice none 0 0] 42 (0, 0)) := by rw [hw0]; exact heap_alloc_last w _
  have hB0 := hB.kept hG0
  obtain ⟨j, hfj, hj1, hjN⟩ := first_ok hB.1 h0
  obtain ⟨gp, cp, ra, rc, hc70, hPA⟩ := hB0.prodsAt h0
  have hl0 : ∀ X, w0.grownBy X none → X.cell? ⟨gp, 0, none⟩ = some (.int .i64 (S.prods.getD 0 ⟨0, [], 0⟩).left) := fun X hX => by
    rcases hPA X hX with h | ⟨b', off, he, h⟩
    · omega
    · simp only [Option.some.injEq, Addr.mk.injEq, and_true] at he
      obtain ⟨rfl, rfl⟩ := he
      have := (h 0 h0).1
      simpa using this
  have hc70' : ∀ X, w0.grownBy X none → X.cell? ⟨b, 70, none⟩ = some (.slice (some ⟨gp, 0, none⟩) S.prods.length cp) := fun X hX => hX.cell hc70 (by simp)
  have hst : ∀ X, w0.grownBy X none → X.cell? ⟨b, 71, none⟩ = some (.int .i64 S.start) := fun X hX => by
    obtain ⟨_, c, hr, hc⟩ := hB0.kept hX
    rw [hr.cell 71 (by omega), hc.st]
  have hsd : ∃ a c, (∀ X, w0.grownBy X none → X.cell? ⟨b, 69, none⟩ = some (.slice a S.sides.length c) ∧ IntsAt X a S.sides) ∧ (a = none → c = 0) := by
    obtain ⟨_, c, hr, hc⟩ := hB0
    obtain ⟨a, cap, hv, hI, _, hn⟩ := hc.sd.at
    exact ⟨a, cap, fun X hX => ⟨hX.cell (by rw [hr.cell 69 (by omega), hv]) (by simp), hI.kept hX⟩, fun h => (hn h).2⟩
  obtain ⟨aq, cs, hsd, hsn⟩ := hsd
  have hpb := hB.1.prods
  have hsy := hB.1.syms
  have hsl := hB.1.sides
  have HSD : Hid (∀ X, w0.grownBy X none → X.cell? ⟨b, 69, none⟩ = some (.slice aq S.sides.length cs) ∧ IntsAt X aq S.sides) := hsd
  have HSN : Hid (aq = none → cs = 0) := hsn
  have HST : Hid (∀ X, w0.grownBy X none → X.cell? ⟨b, 71, none⟩ = some (.int .i64 S.start)) := hst
  have H70 : Hid (∀ X, w0.grownBy X none → X.cell? ⟨b, 70, none⟩ = some (.slice (some ⟨gp, 0, none⟩) S.prods.length cp)) := hc70'
  have HL0 : Hid (∀ X, w0.grownBy X none → X.cell? ⟨gp, 0, none⟩ = some (.int .i64 (S.prods.getD 0 ⟨0, [], 0⟩).left)) := hl0
  have HFJ : Hid (S.first = -(j : Int)) := hfj
  have HORD : Hid (Calls Try.prog 45 #[.pointer (some ⟨b, 0, none⟩)] w0 fun e w' => ∃ Bs a c, e = .returned (.tuple #[.slice (some ⟨Bs, 0, none⟩) (S.nons.length + 1) (S.nons.length + 1), .slice a (ordOf S.prods).length c]) ∧ OrdAt w0 w' S Bs (S.terms.length + 1) (ordOf S.prods) (.slice a (ordOf S.prods).length c)) := ordered_any b S w0 hB0
  have HB0 : Hid (BAt w0 b S) := hB0
  have HBX : Hid (w0.heap[w.heap.size]? = some (.cells #[.slice none 0 0, .slice none 0 0, .slice none 0 0, .int .i64 0, .slice none 0 0] 42 (0, 0))) := hbox0
  have HG0 : Hid (w.grownBy w0 none) := hG0
  have HSH : Hid (S.nons.length ≤ (ordOf S.prods).length) := hs
  have HP0 : Hid (0 < S.prods.length) := h0
  have E41 : Hid (∀ args w, (callFunc 46 args).run Try.prog w = .ok (.enter 46 args) w) := enters_of Try.func46 (by kernel_rfl) rfl
  have E38 : Hid (∀ args w, (callFunc 34 args).run Try.prog w = .ok (.enter 34 args) w) := enters_of Try.func34 (by kernel_rfl) rfl
  have E42 : Hid (∀ args w, (callFunc 47 args).run Try.prog w = .ok (.enter 47 args) w) := enters_of Try.func47 (by kernel_rfl) rfl
  have hp1 : ((S.prods.length : Int) == 0) = false := beq_eq_false_iff_ne.2 (by omega)
  clear hB hB0 hG0 hbox0 hs hsd hst hc70' hl0 hPA hfj hsn
  rw [hw0] at hc70
  go_enter Try.func20, Try.ntmps20
  go_wp2_with fail
  rw [← hw0]
  refine HORD.out.mono ?_
  clear HORD hc70
  rintro e w1 ⟨Bs, a, c, rfl, hO⟩
  have hsz : ∃ a2 c2, w1.cell? ⟨b, 2 + 1, none⟩ = some (.slice a2 S.nons.length c2) := by
    obtain ⟨_, cc, hr, hc⟩ := HB0.out.kept hO.grown
    obtain ⟨a2, cap, hv, _⟩ := hc.nl.form
    exact ⟨a2, cap, by rw [hr.cell 3 (by omega), hv]⟩
  obtain ⟨a2, c2, hsz⟩ := hsz
  have HX : Hid (GMid w0 w1 b w.heap.size Bs S (.slice a (ordOf S.prods).length c)) := ⟨HB0.out, hO, (hO.grown.block _ (Array.getElem?_eq_some_iff.1 HBX.out).1 (by simp)).trans HBX.out⟩
  have hs := HSH.out
  have hg1 := hO.grown
  have h71 := HST.out w1 hg1
  have h70 := H70.out w1 hg1
  have hl1 := HL0.out w1 hg1
  have hd : decide (((ordOf S.prods).length : Int) < (S.nons.length : Int)) = false := decide_eq_false (by omega)
  have hcj : ∀ X, GMid w0 X b w.heap.size Bs S (.slice a (ordOf S.prods).length c) → X.cell? ⟨Bs, j, none⟩ = some (.int .i64 (S.sym j)) := fun X h => h.ord.cell j hjN
  have HCJ : Hid (∀ X, GMid w0 X b w.heap.size Bs S (.slice a (ordOf S.prods).length c) → X.cell? ⟨Bs, j, none⟩ = some (.int .i64 (S.sym j))) := hcj
  have HGS : Hid (S.gram.start = S.sym j) := by
    show S.sym (-S.first).toNat = S.sym j
    rw [HFJ.out]; simp
  have hjn : (j : Int) < (S.nons.length : Int) + 1 := by omega
  have hwj : IntKind.i64.wrap (j : Int) = (j : Int) := wrapJ j (by omega)
  have hj0 : (0 : Int) ≤ (j : Int) := by omega
  have HNUM : Hid (∀ X, GMid w0 X b w.heap.size Bs S (.slice a (ordOf S.prods).length c) → Calls Try.prog 47 #[.pointer (some ⟨b, 0, none⟩), .slice (some ⟨Bs, 0, none⟩) (S.nons.length + 1) (S.nons.length + 1)] X fun e w' => ∃ g c rg, e = .returned (.slice (some ⟨g, 0, none⟩) S.prods.length c) ∧
      Hid (PNew w' (w.heap.size + 1) (.slice (some ⟨g, 0, none⟩) S.prods.length c) S rg) ∧ X.grownBy w' none) := fun X h => (numbered_at HB0.out HP0.out h.ord).mono fun e w' ⟨g, c, rg, he, hn⟩ => ⟨g, c, rg, he, pnew_of hn (by have := h.ord.grown.size; omega), hn.grown⟩
  have HTM : Hid (∀ X, GMid w0 X b w.heap.size Bs S (.slice a (ordOf S.prods).length c) → Calls Try.prog 46 #[.pointer (some ⟨b, 0, none⟩)] X fun e w' => ∃ g c, e = .returned (.slice (some ⟨g, 0, none⟩) (S.terms.length + 1) c) ∧ Hid (w'.ownsRow (w.heap.size + 1) 74 2 (.slice (some ⟨g, 0, none⟩) (S.terms.length + 1) c) (S.terms.length + 1) (tmsL (S.tms S.terms.length))) ∧ X.grownBy w' none) := fun X h =>
    (terms_any b S X h.batX).mono fun e w' ⟨g, c, he, ho, hg⟩ => ⟨g, c, he, owns_hid ho (by have := h.ord.grown.size; omega), hg⟩
  have HLV : Hid (∀ X, GMid w0 X b w.heap.size Bs S (.slice a (ordOf S.prods).length c) → Calls Try.prog 34 #[.slice aq S.sides.length cs] X fun e w' => ∃ a' c', e = .returned (.slice a' S.sides.length c') ∧ Hid (w'.ownsRow (w.heap.size + 1) 3 1 (.slice a' S.sides.length c') S.sides.length (S.sides.map (Value.int .i64))) ∧ X.grownBy w' none) := fun X h =>
    (copiedInt_new aq cs S.sides X (HSD.out X h.ord.grown).2 HSN.out (by omega)).mono fun e w' ⟨a', c', he, ho, hg⟩ => ⟨a', c', he, owns_hid ho (by have := h.ord.grown.size; omega), hg⟩
  have H69 : Hid (∀ X, GMid w0 X b w.heap.size Bs S (.slice a (ordOf S.prods).length c) → X.cell? ⟨b, 69, none⟩ = some (.slice aq S.sides.length cs)) := fun X h => (HSD.out X h.ord.grown).1
  clear hO HB0 HBX HSH hcj hg1 HST H70 HL0 HSD
  by_cases hs0 : S.start = 0
  · have hz : (S.start == 0) = true := beq_iff_eq.2 hs0
    have hlj : (S.prods.getD 0 ⟨0, [], 0⟩).left = -(j : Int) := by have := HFJ.out; unfold BS.first at this; rwa [if_pos hs0] at this
    rw [hlj] at hl1
    clear hlj hs0
    go_wp2_with (go_at_call 44; refine (size_any b 2 S.nons.length c2 a2 w1 hsz).mono ?_; rintro e wq ⟨rfl, hwq⟩; subst hwq)
    have HX2 : Hid (GMid w0 wq.drew b w.heap.size Bs S (.slice a (ordOf S.prods).length c)) := HX.out.kept (grown_drewN wq 1)
    have c69 := H69.out _ HX2.out
    have ccj := HCJ.out _ HX2.out
    clear HX
    go_region_law (first
      | (refine step_call rfl 46 #[.tmp 45] #[25] rfl #[.pointer (some ⟨b, 0, none⟩)] (by first | (simp [Act.eval]; done) | simp [Act.eval, Act.put]) E41.out (HTM.out _ HX2.out) ?_; rintro e wT ⟨gT, cT, rfl, HT, hgT⟩; refine ⟨_, rfl, ?_⟩; have HX2 : Hid (GMid w0 wT b w.heap.size Bs S (.slice a (ordOf S.prods).length c)) := HX2.out.kept hgT; have c69 := H69.out _ HX2.out; have ccj := HCJ.out _ HX2.out; (try have HL := keepR HL.out hgT); (try have HP := keepP HP.out hgT))
      | (refine step_call rfl 34 #[.tmp 51] #[30] rfl #[.slice aq S.sides.length cs] (by first | (simp [Act.eval]; done) | simp [Act.eval, Act.put]) E38.out (HLV.out _ HX2.out) ?_; rintro e wL ⟨aL, cL, rfl, HL, hgL⟩; refine ⟨_, rfl, ?_⟩; have HX2 : Hid (GMid w0 wL b w.heap.size Bs S (.slice a (ordOf S.prods).length c)) := HX2.out.kept hgL; have c69 := H69.out _ HX2.out; have ccj := HCJ.out _ HX2.out; (try have HT := keepR HT.out hgL); (try have HP := keepP HP.out hgL))
      | (refine step_call rfl 47 #[.tmp 58, .tmp 59] #[25, 30] rfl #[.pointer (some ⟨b, 0, none⟩), .slice (some ⟨Bs, 0, none⟩) (S.nons.length + 1) (S.nons.length + 1)] (by first | (simp [Act.eval]; done) | simp [Act.eval, Act.put]) E42.out (HNUM.out _ HX2.out) ?_; rintro e wP ⟨gP, cP, rgP, rfl, HP, hgP⟩; refine ⟨_, rfl, ?_⟩; have HX2 : Hid (GMid w0 wP b w.heap.size Bs S (.slice a (ordOf S.prods).length c)) := HX2.out.kept hgP; have c69 := H69.out _ HX2.out; have ccj := HCJ.out _ HX2.out; (try have HT := keepR HT.out hgP); (try have HL := keepR HL.out hgP); have k0 := cell_of_row wP w.heap.size 0 _ _ _ HX2.out.box; have k1 := cell_of_row wP w.heap.size 1 _ _ _ HX2.out.box; have k2 := cell_of_row wP w.heap.size 2 _ _ _ HX2.out.box; have k3 := cell_of_row wP w.heap.size 3 _ _ _ HX2.out.box; have k4 := cell_of_row wP w.heap.size 4 _ _ _ HX2.out.box; have kf := fun j => frozen_of_row wP w.heap.size j _ _ HX2.out.box; simp only [List.getElem?_toArray, List.getElem?_cons_zero, List.getElem?_cons_succ] at k0 k1 k2 k3 k4))
    all_goals go_wp2_with fail
    all_goals
      obtain ⟨hF1, hF2⟩ := gram_fin HX2.out HG0.out hlt0 HT.out HL.out HP.out (set5_grown wP w.heap.size (.slice (some ⟨gT, 0, none⟩) (S.terms.length + 1) cT) (.slice a (ordOf S.prods).length c) (.slice aL S.sides.length cL) (.int .i64 (S.sym j)) (.slice (some ⟨gP, 0, none⟩) S.prods.length cP))
      have hF3 := set5_heap HX2.out.box (.slice (some ⟨gT, 0, none⟩) (S.terms.length + 1) cT) (.slice a (ordOf S.prods).length c) (.slice aL S.sides.length cL) (.int .i64 (S.sym j)) (.slice (some ⟨gP, 0, none⟩) S.prods.length cP)
      refine bodyPost_ret (v := .tuple #[.agg #[.slice (some ⟨gT, 0, none⟩) (S.terms.length + 1) cT, .slice a (ordOf S.prods).length c, .slice aL S.sides.length cL, .int .i64 (S.sym j), .slice (some ⟨gP, 0, none⟩) S.prods.length cP], .int .i64 0]) ?_ rfl ?_
      · exact results_gram _ _ w.heap.size _ _ rfl rfl hF3 rfl
      · exact ⟨_, _, _, _, by rw [HGS.out], hF1, hF2⟩
  · have hz : (S.start == 0) = false := beq_eq_false_iff_ne.2 hs0
    have hlj : S.start = -(j : Int) := by have := HFJ.out; unfold BS.first at this; rwa [if_neg hs0] at this
    have hz2 : ((-(j : Int)) == 0) = false := beq_eq_false_iff_ne.2 (by omega)
    rw [hlj] at h71
    clear hlj hs0 hz
    go_wp2_with (go_at_call 44; refine (size_any b 2 S.nons.length c2 a2 w1 hsz).mono ?_; rintro e wq ⟨rfl, hwq⟩; subst hwq)
    have HX2 : Hid (GMid w0 wq.drew b w.heap.size Bs S (.slice a (ordOf S.prods).length c)) := HX.out.kept (grown_drewN wq 1)
    have c69 := H69.out _ HX2.out
    have ccj := HCJ.out _ HX2.out
    clear HX
    go_region_law (first
      | (refine step_call rfl 46 #[.tmp 45] #[25] rfl #[.pointer (some ⟨b, 0, none⟩)] (by first | (simp [Act.eval]; done) | simp [Act.eval, Act.put]) E41.out (HTM.out _ HX2.out) ?_; rintro e wT ⟨gT, cT, rfl, HT, hgT⟩; refine ⟨_, rfl, ?_⟩; have HX2 : Hid (GMid w0 wT b w.heap.size Bs S (.slice a (ordOf S.prods).length c)) := HX2.out.kept hgT; have c69 := H69.out _ HX2.out; have ccj := HCJ.out _ HX2.out; (try have HL := keepR HL.out hgT); (try have HP := keepP HP.out hgT))
      | (refine step_call rfl 34 #[.tmp 51] #[30] rfl #[.slice aq S.sides.length cs] (by first | (simp [Act.eval]; done) | simp [Act.eval, Act.put]) E38.out (HLV.out _ HX2.out) ?_; rintro e wL ⟨aL, cL, rfl, HL, hgL⟩; refine ⟨_, rfl, ?_⟩; have HX2 : Hid (GMid w0 wL b w.heap.size Bs S (.slice a (ordOf S.prods).length c)) := HX2.out.kept hgL; have c69 := H69.out _ HX2.out; have ccj := HCJ.out _ HX2.out; (try have HT := keepR HT.out hgL); (try have HP := keepP HP.out hgL))
      | (refine step_call rfl 47 #[.tmp 58, .tmp 59] #[25, 30] rfl #[.pointer (some ⟨b, 0, none⟩), .slice (some ⟨Bs, 0, none⟩) (S.nons.length + 1) (S.nons.length + 1)] (by first | (simp [Act.eval]; done) | simp [Act.eval, Act.put]) E42.out (HNUM.out _ HX2.out) ?_; rintro e wP ⟨gP, cP, rgP, rfl, HP, hgP⟩; refine ⟨_, rfl, ?_⟩; have HX2 : Hid (GMid w0 wP b w.heap.size Bs S (.slice a (ordOf S.prods).length c)) := HX2.out.kept hgP; have c69 := H69.out _ HX2.out; have ccj := HCJ.out _ HX2.out; (try have HT := keepR HT.out hgP); (try have HL := keepR HL.out hgP); have k0 := cell_of_row wP w.heap.size 0 _ _ _ HX2.out.box; have k1 := cell_of_row wP w.heap.size 1 _ _ _ HX2.out.box; have k2 := cell_of_row wP w.heap.size 2 _ _ _ HX2.out.box; have k3 := cell_of_row wP w.heap.size 3 _ _ _ HX2.out.box; have k4 := cell_of_row wP w.heap.size 4 _ _ _ HX2.out.box; have kf := fun j => frozen_of_row wP w.heap.size j _ _ HX2.out.box; simp only [List.getElem?_toArray, List.getElem?_cons_zero, List.getElem?_cons_succ] at k0 k1 k2 k3 k4))
    all_goals go_wp2_with fail
    all_goals
      obtain ⟨hF1, hF2⟩ := gram_fin HX2.out HG0.out hlt0 HT.out HL.out HP.out (set5_grown wP w.heap.size (.slice (some ⟨gT, 0, none⟩) (S.terms.length + 1) cT) (.slice a (ordOf S.prods).length c) (.slice aL S.sides.length cL) (.int .i64 (S.sym j)) (.slice (some ⟨gP, 0, none⟩) S.prods.length cP))
      have hF3 := set5_heap HX2.out.box (.slice (some ⟨gT, 0, none⟩) (S.terms.length + 1) cT) (.slice a (ordOf S.prods).length c) (.slice aL S.sides.length cL) (.int .i64 (S.sym j)) (.slice (some ⟨gP, 0, none⟩) S.prods.length cP)
      refine bodyPost_ret (v := .tuple #[.agg #[.slice (some ⟨gT, 0, none⟩) (S.terms.length + 1) cT, .slice a (ordOf S.prods).length c, .slice aL S.sides.length cL, .int .i64 (S.sym j), .slice (some ⟨gP, 0, none⟩) S.prods.length cP], .int .i64 0]) ?_ rfl ?_
      · exact results_gram _ _ w.heap.size _ _ rfl rfl hF3 rfl
      · exact ⟨_, _, _, _, by rw [HGS.out], hF1, hF2⟩

end Go.Proofs.Ytkbpnafahimeiaa
