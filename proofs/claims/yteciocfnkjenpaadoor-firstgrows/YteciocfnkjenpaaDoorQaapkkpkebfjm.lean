/-
  FirstGrows, walked.
-/
import Derived.Test.YteciocfnkjenpaaDoorQpeooicffoanm
namespace Go.Proofs.YteciocfnkjenpaaDoor
open Go.RowKit Go.Maps Go.Shelf

attribute [local go_sem] Oper.semAt_some

theorem infoProdK : (Tryd.prog.info? 51).map (fun i => (i.zero, i.size, i.bytes)) = some (some (.agg #[.int .i64 0, .slice none 0 0, .int .i64 0]), 3, 40) := by kernel_rfl

/-- Both grammars of FirstGrows, each in its box. -/
structure TwoAt (w X : World) (gs : Array Value) (hb : Nat) (hs : Array Value) (ta na la pa : Option Addr) (tc nc lc pc : Nat) (ts : List (ByteArray × Int)) (ns : List ByteArray) (lv : List Int) (n : Nat) (L : Nat → Int) (R : Nat → List Int) (ra : Nat → Option Addr) (rc : Nat → Nat) (V : Nat → Int) : Prop where
  g : PhAt w X w.heap.size gs
  hbox : X.heap[hb]? = some (.cells hs 27 (0, 0))
  h : GAt X ta na la pa tc nc lc pc ts ns lv n L R ra rc V
theorem TwoAt.kept {w X Y : World} {gs hs : Array Value} {hb : Nat} {ta na la pa : Option Addr} {tc nc lc pc : Nat} {ts : List (ByteArray × Int)} {ns : List ByteArray} {lv : List Int} {n : Nat} {L : Nat → Int} {R : Nat → List Int} {ra : Nat → Option Addr} {rc : Nat → Nat} {V : Nat → Int} (h : TwoAt w X gs hb hs ta na la pa tc nc lc pc ts ns lv n L R ra rc V) (hg : X.grownBy Y none) : TwoAt w Y gs hb hs ta na la pa tc nc lc pc ts ns lv n L R ra rc V := ⟨h.g.kept hg, (boxKept h.hbox hg).out, h.h.kept hg⟩
theorem TwoAt.hcells {w X : World} {gs : Array Value} {v0 v1 v2 v3 v4 : Value} {hb : Nat} {ta na la pa : Option Addr} {tc nc lc pc : Nat} {ts : List (ByteArray × Int)} {ns : List ByteArray} {lv : List Int} {n : Nat} {L : Nat → Int} {R : Nat → List Int} {ra : Nat → Option Addr} {rc : Nat → Nat} {V : Nat → Int} (h : TwoAt w X gs hb #[v0, v1, v2, v3, v4] ta na la pa tc nc lc pc ts ns lv n L R ra rc V) : X.cell? ⟨hb, 0, none⟩ = some v0 ∧ X.cell? ⟨hb, 1, none⟩ = some v1 ∧ X.cell? ⟨hb, 2, none⟩ = some v2 ∧ X.cell? ⟨hb, 3, none⟩ = some v3 ∧ X.cell? ⟨hb, 4, none⟩ = some v4 := PhAt.cells (w := X) ⟨grown_refl _ _, h.hbox⟩

/-- FirstGrows, behind its calls. -/
structure GrAt (w X : World) (nn ka kb kc kd : Nat) (F F' : Nat → Bool) (Q Q' : Nat → List Int) (ua : Nat → Option Addr) (uc : Nat → Nat) (va : Nat → Option Addr) (vc : Nat → Nat) : Prop where
  grown : w.grownBy X none
  a : ValAt X ka nn 4 (fun i => .bool (F i))
  b : ValAt X kb nn 4 (fun i => .bool (F' i))
  c : ValAt X kc nn 24 (fun i => .slice (ua i) (Q i).length (uc i))
  d : ValAt X kd nn 24 (fun i => .slice (va i) (Q' i).length (vc i))
  ri : ∀ i, i < nn → IntsAt X (ua i) (Q i)
  rd : ∀ i, i < nn → IntsAt X (va i) (Q' i)
theorem GrAt.kept {w X Y : World} {nn ka kb kc kd : Nat} {F F' : Nat → Bool} {Q Q' : Nat → List Int} {ua : Nat → Option Addr} {uc : Nat → Nat} {va : Nat → Option Addr} {vc : Nat → Nat} (h : GrAt w X nn ka kb kc kd F F' Q Q' ua uc va vc) (hg : X.grownBy Y none) : GrAt w Y nn ka kb kc kd F F' Q Q' ua uc va vc :=
  ⟨grown_trans h.grown hg, h.a.kept hg, h.b.kept hg, h.c.kept hg, h.d.kept hg, fun i hi => (h.ri i hi).kept hg, fun i hi => (h.rd i hi).kept hg⟩

set_option maxRecDepth 100000 in
set_option maxHeartbeats 3000000 in
theorem grows_bad (ta na la pa : Option Addr) (tc nc lc pc : Nat) (ts : List (ByteArray × Int)) (ns : List ByteArray) (lv : List Int) (n : Nat) (L : Nat → Int) (R : Nat → List Int) (ra : Nat → Option Addr) (rc : Nat → Nat) (V : Nat → Int) (st : Int) (w : World) (tn nn ln : Nat) (hlen : ts.length = tn ∧ ns.length = nn ∧ lv.length = ln) (hG : GAt w ta na la pa tc nc lc pc ts ns lv n L R ra rc V) (hts : ∀ t ∈ ts, t.1.size ≤ 140737488355328) (hns : ∀ s ∈ ns, s.size ≤ 140737488355328) (hT : B.Tab w) (h0 : 0 < w.heap.size) (hnt : ta = none → tn = 0 ∧ tc = 0) (hnl : la = none → ln = 0 ∧ lc = 0) (lf : Int) (av : Option Addr) (cv : Nat) (l : List Int) (hI : IntsAt w av l) (hnv : av = none → l.length = 0 ∧ cv = 0) (hll : l.length ≤ 17592186044416) (hval : validOK ts ns lv st n L R V) (hmore : ¬ validOK ts ns lv st (n + 1) (fun i => if i < n then L i else lf) (fun i => if i < n then R i else l) (fun i => if i < n then V i else 0)) :
    Calls Tryd.prog 7 #[.agg #[.slice ta tn tc, .slice na nn nc, .slice la ln lc, .int .i64 st, .slice pa n pc], .int .i64 lf, .slice av l.length cv] w fun e y => e = .returned (.bool true) ∧ w.grownBy y none := by
  have hV : true = true ↔ validOK ts ns lv st n L R V := ⟨fun _ => hval, fun _ => rfl⟩
  have hC : false = true ↔ closedOK ts ns lv st n L R V := ⟨fun h => (by cases h), fun h => absurd h.1.name (valid_name hval)⟩
  have hM : MayOK tn nn n st L R false := may_of hlen hV hC rfl
  have htn : tn ≤ 65 := hM.tmax
  have hnn : nn ≤ 65 := hM.nmax
  have hpn : n ≤ 96 := hval.1.cnt
  have hpl : ∀ i, i < n → (R i).length ≤ 17592186044416 := fun i hi => by
    rcases hG.prods with h | ⟨b, off, e, h⟩
    · omega
    · exact (h i hi).2.2.2.2.2
  have HAW : Hid (∀ X, w.grownBy X none → Calls Tryd.prog 8 #[] X fun e w' => e = .returned (.bool true) ∧ X.grownBy w' none) := fun X hX => kawake_any X (Tab_kept hT hX h0) (Nat.lt_of_lt_of_le h0 hX.size)
  have HVL : Hid (∀ X, w.grownBy X none → Calls Tryd.prog 23 #[.agg #[.slice ta tn tc, .slice na nn nc, .slice la ln lc, .int .i64 st, .slice pa n pc]] X fun e w' => e = .returned (.bool true) ∧ X.grownBy w' none) := fun X hX => by
    have := rvalid_any ta na la pa tc nc lc pc st ts ns lv n L R ra rc V X (hG.kept hX) hts hns true hV
    rwa [hlen.1, hlen.2.1, hlen.2.2] at this
  have HCP : Hid (∀ X, w.grownBy X none → Calls Tryd.prog 9 #[.agg #[.slice ta tn tc, .slice na nn nc, .slice la ln lc, .int .i64 st, .slice pa n pc]] X fun e w' => ∃ ta2 na2 la2 pa2 tc2 nc2 lc2 pc2 rg, e = .returned (.agg #[.slice ta2 tn tc2, .slice na2 nn nc2, .slice la2 ln lc2, .int .i64 st, .slice pa2 n pc2]) ∧ (w'.ownsRow X.heap.size 77 2 (.slice ta2 tn tc2) tn (tmsL ts) ∧ w'.ownsRow X.heap.size 9 1 (.slice na2 nn nc2) nn (ns.map Value.string) ∧ w'.ownsRow X.heap.size 3 1 (.slice la2 ln lc2) ln (lv.map (Value.int .i64)) ∧ w'.ownsRow X.heap.size 51 3 (.slice pa2 n pc2) n (prodRow n L rg V) ∧ ∀ i, i < n → w'.ownsRow X.heap.size 3 1 (rg i) (R i).length ((R i).map (Value.int .i64))) ∧ X.grownBy w' none) := fun X hX => by
    have hll := hG.llen
    rw [hlen.2.2] at hll
    refine (rcopy_core ta na la pa tn nn ln n tc nc lc pc st ts ns lv L R ra rc V X hlen (hG.kept hX) hnt hnl (by omega) (by omega) (by omega) (by omega)).mono ?_
    rintro e w' ⟨vt, vn, vl, vp, rfl, hN, hg⟩
    obtain ⟨rg, p1, p2⟩ := hN.prods
    have hNt := hN.terms
    have hNn := hN.nons
    have hNl := hN.levels
    rw [show (grOf ts ns lv st n L R V).terms.length = tn from hlen.1, show (grOf ts ns lv st n L R V).terms = ts from rfl] at hNt
    rw [show (grOf ts ns lv st n L R V).nons.length = nn from hlen.2.1, show (grOf ts ns lv st n L R V).nons = ns from rfl] at hNn
    rw [show (grOf ts ns lv st n L R V).levels.length = ln from hlen.2.2, show (grOf ts ns lv st n L R V).levels = lv from rfl] at hNl
    rw [grOf_len] at p1 p2
    rw [prodRow_ext (L' := L) (r' := rg) (V' := V) (fun i hi => by rw [grOf_at ts ns lv st n L R V hi]) (fun _ _ => rfl) (fun i hi => by rw [grOf_at ts ns lv st n L R V hi])] at p1
    obtain ⟨a1, c1, rfl⟩ := owns_slice hNt
    obtain ⟨a2, c2, rfl⟩ := owns_slice hNn
    obtain ⟨a3, c3, rfl⟩ := owns_slice hNl
    obtain ⟨a4, c4, rfl⟩ := owns_slice p1
    exact ⟨a1, a2, a3, a4, c1, c2, c3, c4, rg, rfl, ⟨hNt, hNn, hNl, p1, fun i hi => by have := p2 i hi; rw [grOf_at ts ns lv st n L R V hi] at this; exact this⟩, hg⟩
  have HGM : Hid (∀ (X wB Z : World) (B hb : Nat) (ta2 na2 la2 pa2 a6 : Option Addr) (tc2 nc2 lc2 pc2 c6 : Nat) (rg : Nat → Value) (cs : Array Value), (X.ownsRow B 77 2 (.slice ta2 tn tc2) tn (tmsL ts) ∧ X.ownsRow B 9 1 (.slice na2 nn nc2) nn (ns.map Value.string) ∧ X.ownsRow B 3 1 (.slice la2 ln lc2) ln (lv.map (Value.int .i64)) ∧ X.ownsRow B 51 3 (.slice pa2 n pc2) n (prodRow n L rg V) ∧ ∀ i, i < n → X.ownsRow B 3 1 (rg i) (R i).length ((R i).map (Value.int .i64))) → X.grownBy wB (Value.slice pa2 n pc2).ownBlock → X.heap[hb]? = some (.cells cs 27 (0, 0)) → wB.grownBy Z (some hb) → wB.ownsRow B 51 3 (.slice a6 (n + 1) c6) (n + 1) (prodRow n L rg V ++ [.int .i64 lf, .slice av l.length cv, .int .i64 0]) → w.grownBy Z none → ∃ ra2 rc2, GAt Z ta2 na2 la2 a6 tc2 nc2 lc2 c6 ts ns lv (n + 1) (fun i => if i < n then L i else lf) (fun i => if i < n then R i else l) ra2 rc2 (fun i => if i < n then V i else 0)) := fun X wB Z B hb ta2 na2 la2 pa2 a6 tc2 nc2 lc2 pc2 c6 rg cs ⟨e1, e2, e3, e4, e5⟩ hg hbx hZ ho hwZ => by
    rw [← hlen.1] at e1
    rw [← hlen.2.1] at e2
    rw [← hlen.2.2] at e3
    have := gat_more e1 e2 e3 e4 e5 hg hbx hZ ho (hI.kept hwZ) (fun h => (hnv h).2) hG.tlen hG.nlen hG.llen (by omega) hpl hll
    exact this
  have HSB : Hid (∀ X ta2 na2 la2 a6 tc2 nc2 lc2 c6 ra2 rc2, GAt X ta2 na2 la2 a6 tc2 nc2 lc2 c6 ts ns lv (n + 1) (fun i => if i < n then L i else lf) (fun i => if i < n then R i else l) ra2 rc2 (fun i => if i < n then V i else 0) → Calls Tryd.prog 23 #[.agg #[.slice ta2 tn tc2, .slice na2 nn nc2, .slice la2 ln lc2, .int .i64 st, .slice a6 (n + 1) c6]] X (fun e w' => e = .returned (.bool false) ∧ X.grownBy w' none) ∧ Calls Tryd.prog 13 #[.agg #[.slice ta2 tn tc2, .slice na2 nn nc2, .slice la2 ln lc2, .int .i64 st, .slice a6 (n + 1) c6]] X (fun e y => e = .returned (.tuple #[.slice none 0 0, .int .i64 1]) ∧ X.grownBy y none)) := fun X ta2 na2 la2 a6 tc2 nc2 lc2 c6 ra2 rc2 hX => by
    have h8 := rvalid_any ta2 na2 la2 a6 tc2 nc2 lc2 c6 st ts ns lv (n + 1) _ _ ra2 rc2 _ X hX hts hns false ⟨fun h => (by cases h), fun h => absurd h hmore⟩
    rw [hlen.1, hlen.2.1, hlen.2.2] at h8
    exact ⟨h8, sets_bad ta2 na2 la2 a6 tc2 nc2 lc2 c6 ts ns lv (n + 1) _ _ ra2 rc2 _ st X tn nn ln hlen hX hmore (fun h => absurd h.1.name (valid_name hval))⟩
  have HX0 : Hid (PhAt w (w.alloc (.cells #[.slice ta tn tc, .slice na nn nc, .slice la ln lc, .int .i64 st, .slice pa n pc] 27)) w.heap.size #[.slice ta tn tc, .slice na nn nc, .slice la ln lc, .int .i64 st, .slice pa n pc]) := ⟨World.grownBy_alloc _ _ none, heap_alloc_last w _⟩
  obtain ⟨iP, hiP, hP0, hP1, hP2⟩ := info_parts infoProdK
  obtain ⟨ll, hle⟩ : ∃ x, x = l.length := ⟨_, rfl⟩
  rw [← hle] at HGM
  rw [← hle]
  clear hG hlen hts hns hT h0 hnt hnl hI hnv hll hval hmore hV hC hM hpl hle 
  go_enter Tryd.func7, Tryd.ntmps7
  go_wp2_with fail
  refine Calls.mono (HAW.out _ HX0.out.grown) ?_
  rintro e w1 ⟨rfl, hg1⟩
  have HX1 : Hid (PhAt w w1 w.heap.size #[.slice ta tn tc, .slice na nn nc, .slice la ln lc, .int .i64 st, .slice pa n pc]) := HX0.out.kept hg1
  clear hg1 HX0
  obtain ⟨k0, k1, k2, k3, k4⟩ := HX1.out.cells
  go_wp2_with fail
  refine Calls.mono (HVL.out _ HX1.out.grown) ?_
  rintro e w2 ⟨rfl, hg2⟩
  have HX2 : Hid (PhAt w w2 w.heap.size #[.slice ta tn tc, .slice na nn nc, .slice la ln lc, .int .i64 st, .slice pa n pc]) := HX1.out.kept hg2
  clear hg2 HX1 k0 k1 k2 k3 k4
  obtain ⟨k0, k1, k2, k3, k4⟩ := HX2.out.cells
  go_wp2_with fail
  refine Calls.mono (HCP.out _ HX2.out.grown) ?_
  rintro e w3 ⟨ta2, na2, la2, pa2, tc2, nc2, lc2, pc2, rg, rfl, hO3, hg3⟩
  clear k0 k1 k2 k3 k4
  obtain ⟨hb, hhb⟩ : ∃ hb, hb = w3.heap.size := ⟨_, rfl⟩
  obtain ⟨X3, hX3⟩ : ∃ X3, X3 = (w3.alloc (.cells #[.slice ta2 tn tc2, .slice na2 nn nc2, .slice la2 ln lc2, .int .i64 st, .slice pa2 n pc2] 27)).alloc (.cells #[.int .i64 lf, .slice av ll cv, .int .i64 0] 51) := ⟨_, rfl⟩
  have hg33 : w3.grownBy X3 none := by rw [hX3]; exact grown_trans (World.grownBy_alloc _ _ none) (World.grownBy_alloc _ _ none)
  have HX3 : Hid (PhAt w X3 w.heap.size #[.slice ta tn tc, .slice na nn nc, .slice la ln lc, .int .i64 st, .slice pa n pc]) := HX2.out.kept (grown_trans hg3 hg33)
  have HHB : Hid (X3.heap[hb]? = some (.cells #[.slice ta2 tn tc2, .slice na2 nn nc2, .slice la2 ln lc2, .int .i64 st, .slice pa2 n pc2] 27 (0, 0))) := by
    show _ = _
    rw [hX3, hhb]
    exact ((World.grownBy_alloc (w3.alloc _) _ none).block _ (by simp) (by simp)).trans (heap_alloc_last w3 _)
  have HO3 : Hid (X3.ownsRow w2.heap.size 77 2 (.slice ta2 tn tc2) tn (tmsL ts) ∧ X3.ownsRow w2.heap.size 9 1 (.slice na2 nn nc2) nn (ns.map Value.string) ∧ X3.ownsRow w2.heap.size 3 1 (.slice la2 ln lc2) ln (lv.map (Value.int .i64)) ∧ X3.ownsRow w2.heap.size 51 3 (.slice pa2 n pc2) n (prodRow n L rg V) ∧ ∀ i, i < n → X3.ownsRow w2.heap.size 3 1 (rg i) (R i).length ((R i).map (Value.int .i64))) := ⟨keep0 hO3.1 hg33, keep0 hO3.2.1 hg33, keep0 hO3.2.2.1 hg33, keep0 hO3.2.2.2.1 hg33, fun i hi => keep0 (hO3.2.2.2.2 i hi) hg33⟩
  have HSZ : Hid (w.heap.size < w2.heap.size ∧ w2.heap.size ≤ hb ∧ w2.heap.size ≤ X3.heap.size) := ⟨(Array.getElem?_eq_some_iff.1 HX2.out.box).1, by rw [hhb]; exact hg3.size, Nat.le_trans hg3.size hg33.size⟩
  have HNW : Hid (∀ j u, [Value.int .i64 lf, .slice av ll cv, .int .i64 0][j]? = some u → X3.cell? ((⟨w3.heap.size + 1, 0, none⟩ : Addr).add j) = some u) := by
    have h9 := news_new (w3.alloc (.cells #[.slice ta2 tn tc2, .slice na2 nn nc2, .slice la2 ln lc2, .int .i64 st, .slice pa2 n pc2] 27)) #[.int .i64 lf, .slice av ll cv, .int .i64 0] 51
    rw [World.size_alloc] at h9
    rw [hX3]; exact h9
  have HFIN : Hid (∀ (wB : World) (v6 : Value), wB.ownsRow w2.heap.size 51 3 v6 (n + 1) (prodRow n L rg V ++ [.int .i64 lf, .slice av ll cv, .int .i64 0]) → X3.grownBy wB (Value.slice pa2 n pc2).ownBlock → ∃ a6 c6, v6 = .slice a6 (n + 1) c6 ∧ wB.cell? ⟨hb, 4, none⟩ = some (.slice pa2 n pc2) ∧ wB.frozen? ⟨hb, 4, none⟩ = false ∧ PhAt w (wB.setCell ⟨hb, 4, none⟩ (.slice a6 (n + 1) c6)) w.heap.size #[.slice ta tn tc, .slice na nn nc, .slice la ln lc, .int .i64 st, .slice pa n pc] ∧ (wB.setCell ⟨hb, 4, none⟩ (.slice a6 (n + 1) c6)).heap[hb]? = some (.cells #[.slice ta2 tn tc2, .slice na2 nn nc2, .slice la2 ln lc2, .int .i64 st, .slice a6 (n + 1) c6] 27 (0, 0)) ∧ ∃ ra2 rc2, GAt (wB.setCell ⟨hb, 4, none⟩ (.slice a6 (n + 1) c6)) ta2 na2 la2 a6 tc2 nc2 lc2 c6 ts ns lv (n + 1) (fun i => if i < n then L i else lf) (fun i => if i < n then R i else l) ra2 rc2 (fun i => if i < n then V i else 0)) := by
    intro wB v6 ho hg
    obtain ⟨a6, c6, rfl⟩ := owns_slice ho
    have hbB : wB.heap[hb]? = some (.cells #[.slice ta2 tn tc2, .slice na2 nn nc2, .slice la2 ln lc2, .int .i64 st, .slice pa2 n pc2] 27 (0, 0)) := (hg.block hb (Array.getElem?_eq_some_iff.1 HHB.out).1 (fun e => by
      rcases owns_nebox HO3.out.2.2.2.1 HHB.out (by decide) with h | h
      · rw [h] at e; cases e
      · exact h e.symm)).trans HHB.out
    have hP7 : PhAt w wB w.heap.size #[.slice ta tn tc, .slice na nn nc, .slice la ln lc, .int .i64 st, .slice pa n pc] := by
      cases hv : (Value.slice pa2 n pc2).ownBlock with
      | none => rw [hv] at hg; exact HX3.out.kept hg
      | some q => rw [hv] at hg; exact HX3.out.keptRow hg (Nat.le_trans HSZ.out.1 (HO3.out.2.2.2.1.lt q hv).1)
    have hPZ : PhAt w (wB.setCell ⟨hb, 4, none⟩ (.slice a6 (n + 1) c6)) w.heap.size #[.slice ta tn tc, .slice na nn nc, .slice la ln lc, .int .i64 st, .slice pa n pc] := hP7.keptRow (grown_setCell _ _ _) (by have := HSZ.out; omega)
    refine ⟨a6, c6, rfl, by rw [cell_of_row _ _ _ _ _ _ hbB]; rfl, frozen_of_row _ _ _ _ _ hbB, hPZ, by rw [heap_setCell_same _ _ _ _ _ _ hbB]; rfl, ?_⟩
    exact HGM.out X3 wB _ w2.heap.size hb ta2 na2 la2 pa2 a6 tc2 nc2 lc2 pc2 c6 rg _ HO3.out hg HHB.out (grown_setCell _ _ _) ho hPZ.grown
  have q4 : X3.cell? ⟨hb, 4, none⟩ = some (.slice pa2 n pc2) := by rw [cell_of_row _ _ _ _ _ _ HHB.out]; rfl
  subst hhb
  rw [hX3] at q4
  have HXE := show Hid _ from hX3
  clear hO3 hg3 hg33 hX3 HX2
  go_wp2_with (at_builtin; refine wpList_append_src rfl (.tmp 32) (.tmp 36) 25 rfl w2.heap.size 51 iP (.agg #[.int .i64 0, .slice none 0 0, .int .i64 0]) 3 40 Tryd.underlying25 hiP hP0 hP1 hP2 rfl (by decide) (.slice pa2 n pc2) n (prodRow n L rg V) rfl (by rw [← HXE.out]; exact HO3.out.2.2.2.1) (some ⟨w3.heap.size + 1, 0, none⟩) 1 1 [.int .i64 lf, .slice av ll cv, .int .i64 0] rfl (fun h => by cases h) rfl (fun ad e => by cases e; rw [← HXE.out]; exact HNW.out) (by simp [Value.oneCell']) (by unfold maxLen; omega) (by omega) (by rw [← HXE.out]; exact HSZ.out.2.2) ?_; intro v6 wB hoB hgB; rw [← HXE.out] at hgB; obtain ⟨a6, c6, rfl, y0, y1, y2, y3, ra2, rc2, y4⟩ := HFIN.out wB v6 hoB hgB; have HY2 := show Hid _ from y2; have HY3 := show Hid _ from y3; have HY4 := show Hid _ from y4; have z0 := (PhAt.cells (w := _) ⟨grown_refl _ _, y3⟩).1; have z1 := (PhAt.cells (w := _) ⟨grown_refl _ _, y3⟩).2.1; have z2 := (PhAt.cells (w := _) ⟨grown_refl _ _, y3⟩).2.2.1; have z3 := (PhAt.cells (w := _) ⟨grown_refl _ _, y3⟩).2.2.2.1; have z4 := (PhAt.cells (w := _) ⟨grown_refl _ _, y3⟩).2.2.2.2; clear hoB hgB y2 y3 y4)
  generalize wB.setCell ⟨w3.heap.size, 4, none⟩ (.slice a6 (n + 1) c6) = X4 at *
  generalize w3.heap.size = hb at *
  have HQ4 : Hid (TwoAt w X4 #[.slice ta tn tc, .slice na nn nc, .slice la ln lc, .int .i64 st, .slice pa n pc] hb #[.slice ta2 tn tc2, .slice na2 nn nc2, .slice la2 ln lc2, .int .i64 st, .slice a6 (n + 1) c6] ta2 na2 la2 a6 tc2 nc2 lc2 c6 ts ns lv (n + 1) (fun i => if i < n then L i else lf) (fun i => if i < n then R i else l) ra2 rc2 (fun i => if i < n then V i else 0)) := ⟨HY2.out, HY3.out, HY4.out⟩
  clear HY2 HY3 HY4 y0 y1 z0 z1 z2 z3 z4 q4 HXE HFIN HNW HO3 HHB HX3 HGM HCP HSZ hiP hP0 hP1 hP2
  refine Calls.mono (HSB.out X4 _ _ _ _ _ _ _ _ _ _ HQ4.out.h).1 ?_
  rintro e w5 ⟨rfl, hg5⟩
  have HQ5 : Hid (TwoAt w w5 #[.slice ta tn tc, .slice na nn nc, .slice la ln lc, .int .i64 st, .slice pa n pc] hb #[.slice ta2 tn tc2, .slice na2 nn nc2, .slice la2 ln lc2, .int .i64 st, .slice a6 (n + 1) c6] ta2 na2 la2 a6 tc2 nc2 lc2 c6 ts ns lv (n + 1) (fun i => if i < n then L i else lf) (fun i => if i < n then R i else l) ra2 rc2 (fun i => if i < n then V i else 0)) := HQ4.out.kept hg5
  clear hg5 HQ4
  obtain ⟨k0, k1, k2, k3, k4⟩ := HQ5.out.hcells
  go_wp2_with fail
  refine Calls.mono (HSB.out w5 _ _ _ _ _ _ _ _ _ _ HQ5.out.h).2 ?_
  rintro e w6 ⟨rfl, hg6⟩
  have HG6 : Hid (w.grownBy w6 none) := (HQ5.out.kept hg6).g.grown
  clear hg6 HQ5 k0 k1 k2 k3 k4
  go_wp2_with fail
  go_ret
  exact ⟨rfl, HG6.out⟩

set_option maxRecDepth 100000 in
set_option maxHeartbeats 3000000 in
theorem grows_ok (ta na la pa : Option Addr) (tc nc lc pc : Nat) (ts : List (ByteArray × Int)) (ns : List ByteArray) (lv : List Int) (n : Nat) (L : Nat → Int) (R : Nat → List Int) (ra : Nat → Option Addr) (rc : Nat → Nat) (V : Nat → Int) (st : Int) (w : World) (tn nn ln : Nat) (hlen : ts.length = tn ∧ ns.length = nn ∧ lv.length = ln) (hG : GAt w ta na la pa tc nc lc pc ts ns lv n L R ra rc V) (hts : ∀ t ∈ ts, t.1.size ≤ 140737488355328) (hns : ∀ s ∈ ns, s.size ≤ 140737488355328) (hT : B.Tab w) (h0 : 0 < w.heap.size) (hnt : ta = none → tn = 0 ∧ tc = 0) (hnl : la = none → ln = 0 ∧ lc = 0) (lf : Int) (av : Option Addr) (cv : Nat) (l : List Int) (hI : IntsAt w av l) (hnv : av = none → l.length = 0 ∧ cv = 0) (hll : l.length ≤ 17592186044416) (hval : validOK ts ns lv st n L R V) (hmore : validOK ts ns lv st (n + 1) (fun i => if i < n then L i else lf) (fun i => if i < n then R i else l) (fun i => if i < n then V i else 0)) :
    Calls Tryd.prog 7 #[.agg #[.slice ta tn tc, .slice na nn nc, .slice la ln lc, .int .i64 st, .slice pa n pc], .int .i64 lf, .slice av l.length cv] w fun e y => e = .returned (.bool true) ∧ w.grownBy y none := by
  have hV : true = true ↔ validOK ts ns lv st n L R V := ⟨fun _ => hval, fun _ => rfl⟩
  have hC : false = true ↔ closedOK ts ns lv st n L R V := ⟨fun h => (by cases h), fun h => absurd h.1.name (valid_name hval)⟩
  have hM : MayOK tn nn n st L R false := may_of hlen hV hC rfl
  have htn : tn ≤ 65 := hM.tmax
  have hnn : nn ≤ 65 := hM.nmax
  have hpn : n ≤ 96 := hval.1.cnt
  have hpl : ∀ i, i < n → (R i).length ≤ 17592186044416 := fun i hi => by
    rcases hG.prods with h | ⟨b, off, e, h⟩
    · omega
    · exact (h i hi).2.2.2.2.2
  have HAW : Hid (∀ X, w.grownBy X none → Calls Tryd.prog 8 #[] X fun e w' => e = .returned (.bool true) ∧ X.grownBy w' none) := fun X hX => kawake_any X (Tab_kept hT hX h0) (Nat.lt_of_lt_of_le h0 hX.size)
  have HVL : Hid (∀ X, w.grownBy X none → Calls Tryd.prog 23 #[.agg #[.slice ta tn tc, .slice na nn nc, .slice la ln lc, .int .i64 st, .slice pa n pc]] X fun e w' => e = .returned (.bool true) ∧ X.grownBy w' none) := fun X hX => by
    have := rvalid_any ta na la pa tc nc lc pc st ts ns lv n L R ra rc V X (hG.kept hX) hts hns true hV
    rwa [hlen.1, hlen.2.1, hlen.2.2] at this
  have HCP : Hid (∀ X, w.grownBy X none → Calls Tryd.prog 9 #[.agg #[.slice ta tn tc, .slice na nn nc, .slice la ln lc, .int .i64 st, .slice pa n pc]] X fun e w' => ∃ ta2 na2 la2 pa2 tc2 nc2 lc2 pc2 rg, e = .returned (.agg #[.slice ta2 tn tc2, .slice na2 nn nc2, .slice la2 ln lc2, .int .i64 st, .slice pa2 n pc2]) ∧ (w'.ownsRow X.heap.size 77 2 (.slice ta2 tn tc2) tn (tmsL ts) ∧ w'.ownsRow X.heap.size 9 1 (.slice na2 nn nc2) nn (ns.map Value.string) ∧ w'.ownsRow X.heap.size 3 1 (.slice la2 ln lc2) ln (lv.map (Value.int .i64)) ∧ w'.ownsRow X.heap.size 51 3 (.slice pa2 n pc2) n (prodRow n L rg V) ∧ ∀ i, i < n → w'.ownsRow X.heap.size 3 1 (rg i) (R i).length ((R i).map (Value.int .i64))) ∧ X.grownBy w' none) := fun X hX => by
    have hll := hG.llen
    rw [hlen.2.2] at hll
    refine (rcopy_core ta na la pa tn nn ln n tc nc lc pc st ts ns lv L R ra rc V X hlen (hG.kept hX) hnt hnl (by omega) (by omega) (by omega) (by omega)).mono ?_
    rintro e w' ⟨vt, vn, vl, vp, rfl, hN, hg⟩
    obtain ⟨rg, p1, p2⟩ := hN.prods
    have hNt := hN.terms
    have hNn := hN.nons
    have hNl := hN.levels
    rw [show (grOf ts ns lv st n L R V).terms.length = tn from hlen.1, show (grOf ts ns lv st n L R V).terms = ts from rfl] at hNt
    rw [show (grOf ts ns lv st n L R V).nons.length = nn from hlen.2.1, show (grOf ts ns lv st n L R V).nons = ns from rfl] at hNn
    rw [show (grOf ts ns lv st n L R V).levels.length = ln from hlen.2.2, show (grOf ts ns lv st n L R V).levels = lv from rfl] at hNl
    rw [grOf_len] at p1 p2
    rw [prodRow_ext (L' := L) (r' := rg) (V' := V) (fun i hi => by rw [grOf_at ts ns lv st n L R V hi]) (fun _ _ => rfl) (fun i hi => by rw [grOf_at ts ns lv st n L R V hi])] at p1
    obtain ⟨a1, c1, rfl⟩ := owns_slice hNt
    obtain ⟨a2, c2, rfl⟩ := owns_slice hNn
    obtain ⟨a3, c3, rfl⟩ := owns_slice hNl
    obtain ⟨a4, c4, rfl⟩ := owns_slice p1
    exact ⟨a1, a2, a3, a4, c1, c2, c3, c4, rg, rfl, ⟨hNt, hNn, hNl, p1, fun i hi => by have := p2 i hi; rw [grOf_at ts ns lv st n L R V hi] at this; exact this⟩, hg⟩
  have HGM : Hid (∀ (X wB Z : World) (B hb : Nat) (ta2 na2 la2 pa2 a6 : Option Addr) (tc2 nc2 lc2 pc2 c6 : Nat) (rg : Nat → Value) (cs : Array Value), (X.ownsRow B 77 2 (.slice ta2 tn tc2) tn (tmsL ts) ∧ X.ownsRow B 9 1 (.slice na2 nn nc2) nn (ns.map Value.string) ∧ X.ownsRow B 3 1 (.slice la2 ln lc2) ln (lv.map (Value.int .i64)) ∧ X.ownsRow B 51 3 (.slice pa2 n pc2) n (prodRow n L rg V) ∧ ∀ i, i < n → X.ownsRow B 3 1 (rg i) (R i).length ((R i).map (Value.int .i64))) → X.grownBy wB (Value.slice pa2 n pc2).ownBlock → X.heap[hb]? = some (.cells cs 27 (0, 0)) → wB.grownBy Z (some hb) → wB.ownsRow B 51 3 (.slice a6 (n + 1) c6) (n + 1) (prodRow n L rg V ++ [.int .i64 lf, .slice av l.length cv, .int .i64 0]) → w.grownBy Z none → ∃ ra2 rc2, GAt Z ta2 na2 la2 a6 tc2 nc2 lc2 c6 ts ns lv (n + 1) (fun i => if i < n then L i else lf) (fun i => if i < n then R i else l) ra2 rc2 (fun i => if i < n then V i else 0)) := fun X wB Z B hb ta2 na2 la2 pa2 a6 tc2 nc2 lc2 pc2 c6 rg cs ⟨e1, e2, e3, e4, e5⟩ hg hbx hZ ho hwZ => by
    rw [← hlen.1] at e1
    rw [← hlen.2.1] at e2
    rw [← hlen.2.2] at e3
    have := gat_more e1 e2 e3 e4 e5 hg hbx hZ ho (hI.kept hwZ) (fun h => (hnv h).2) hG.tlen hG.nlen hG.llen (by omega) hpl hll
    exact this
  have hV' : true = true ↔ validOK ts ns lv st (n + 1) (fun i => if i < n then L i else lf) (fun i => if i < n then R i else l) (fun i => if i < n then V i else 0) := ⟨fun _ => hmore, fun _ => rfl⟩
  have hC' : false = true ↔ closedOK ts ns lv st (n + 1) (fun i => if i < n then L i else lf) (fun i => if i < n then R i else l) (fun i => if i < n then V i else 0) := ⟨fun h => (by cases h), fun h => absurd h.1.name (valid_name hval)⟩
  have hM' : MayOK tn nn (n + 1) st (fun i => if i < n then L i else lf) (fun i => if i < n then R i else l) false := may_of hlen hV' hC' rfl
  obtain ⟨F, Mk, hF⟩ := FOf.exists tn n L R
  obtain ⟨F', Mk', hF'⟩ := FOf.exists tn (n + 1) (fun i => if i < n then L i else lf) (fun i => if i < n then R i else l)
  have hFM := hF.more (fun i hi => by simp [hi]) (fun i hi => by simp [hi]) hF'
  obtain ⟨Q, hQd⟩ : ∃ Q : Nat → List Int, ∀ i, Q i = B.mems 1024 (Mk i) := ⟨_, fun _ => rfl⟩
  obtain ⟨Q', hQd'⟩ : ∃ Q : Nat → List Int, ∀ i, Q i = B.mems 1024 (Mk' i) := ⟨_, fun _ => rfl⟩
  have HQS : Hid (∀ i, (Q i).length ≤ 17592186044416 ∧ (Q' i).length ≤ 17592186044416 ∧ bothTo (Q i) (Q' i) 65 = Q' i) := fun i => ⟨by rw [hQd]; exact Nat.le_trans (mems_short _) (by decide), by rw [hQd']; exact Nat.le_trans (mems_short _) (by decide), by rw [hQd, hQd', both_mems (hF.lt htn i) (hF'.lt htn i), hFM.2 i]⟩
  have HFF : Hid (∀ i, F i = true → F' i = true) := hFM.1
  have HHV : Hid (∀ X ta2 na2 la2 a6 tc2 nc2 lc2 c6 ra2 rc2, GAt X ta2 na2 la2 a6 tc2 nc2 lc2 c6 ts ns lv (n + 1) (fun i => if i < n then L i else lf) (fun i => if i < n then R i else l) ra2 rc2 (fun i => if i < n then V i else 0) → Calls Tryd.prog 23 #[.agg #[.slice ta2 tn tc2, .slice na2 nn nc2, .slice la2 ln lc2, .int .i64 st, .slice a6 (n + 1) c6]] X (fun e w' => e = .returned (.bool true) ∧ X.grownBy w' none)) := fun X ta2 na2 la2 a6 tc2 nc2 lc2 c6 ra2 rc2 hX => by
    have h8 := rvalid_any ta2 na2 la2 a6 tc2 nc2 lc2 c6 st ts ns lv (n + 1) _ _ ra2 rc2 _ X hX hts hns true hV'
    rwa [hlen.1, hlen.2.1, hlen.2.2] at h8
  have HNG : Hid (∀ X, w.grownBy X none → Calls Tryd.prog 10 #[.agg #[.slice ta tn tc, .slice na nn nc, .slice la ln lc, .int .i64 st, .slice pa n pc]] X fun e y => ∃ k, e = .returned (.tuple #[.slice (some ⟨k, 0, none⟩) nn nn, .int .i64 0]) ∧ X.heap.size ≤ k ∧ ValAt y k nn 4 (fun i => .bool (F i)) ∧ X.grownBy y none) := fun X hX => nullable_ok ta na la pa tc nc lc pc ts ns lv n L R ra rc V st X tn nn ln hlen (hG.kept hX) (.inl hval) hM F hF.nul
  have HNH : Hid (∀ X ta2 na2 la2 a6 tc2 nc2 lc2 c6 ra2 rc2, GAt X ta2 na2 la2 a6 tc2 nc2 lc2 c6 ts ns lv (n + 1) (fun i => if i < n then L i else lf) (fun i => if i < n then R i else l) ra2 rc2 (fun i => if i < n then V i else 0) → Calls Tryd.prog 10 #[.agg #[.slice ta2 tn tc2, .slice na2 nn nc2, .slice la2 ln lc2, .int .i64 st, .slice a6 (n + 1) c6]] X fun e y => ∃ k, e = .returned (.tuple #[.slice (some ⟨k, 0, none⟩) nn nn, .int .i64 0]) ∧ X.heap.size ≤ k ∧ ValAt y k nn 4 (fun i => .bool (F' i)) ∧ X.grownBy y none) := fun X ta2 na2 la2 a6 tc2 nc2 lc2 c6 ra2 rc2 hX => nullable_ok ta2 na2 la2 a6 tc2 nc2 lc2 c6 ts ns lv (n + 1) _ _ ra2 rc2 _ st X tn nn ln hlen hX (.inl hmore) hM' F' hF'.nul
  have HSG : Hid (∀ X, w.grownBy X none → Calls Tryd.prog 13 #[.agg #[.slice ta tn tc, .slice na nn nc, .slice la ln lc, .int .i64 st, .slice pa n pc]] X fun e y => SetsTold nn Q X e y) := fun X hX => sets_ok ta na la pa tc nc lc pc ts ns lv n L R ra rc V st X tn nn ln hlen (hG.kept hX) (.inl hval) hM F Mk hF (Tab_kept hT hX h0) (Nat.lt_of_lt_of_le h0 hX.size) Q hQd
  have HSH : Hid (∀ X ta2 na2 la2 a6 tc2 nc2 lc2 c6 ra2 rc2, w.grownBy X none → GAt X ta2 na2 la2 a6 tc2 nc2 lc2 c6 ts ns lv (n + 1) (fun i => if i < n then L i else lf) (fun i => if i < n then R i else l) ra2 rc2 (fun i => if i < n then V i else 0) → Calls Tryd.prog 13 #[.agg #[.slice ta2 tn tc2, .slice na2 nn nc2, .slice la2 ln lc2, .int .i64 st, .slice a6 (n + 1) c6]] X fun e y => SetsTold nn Q' X e y) := fun X ta2 na2 la2 a6 tc2 nc2 lc2 c6 ra2 rc2 hwX hX => sets_ok ta2 na2 la2 a6 tc2 nc2 lc2 c6 ts ns lv (n + 1) _ _ ra2 rc2 _ st X tn nn ln hlen hX (.inl hmore) hM' F' Mk' hF' (Tab_kept hT hwX h0) (Nat.lt_of_lt_of_le h0 hwX.size) Q' hQd'
  have HX0 : Hid (PhAt w (w.alloc (.cells #[.slice ta tn tc, .slice na nn nc, .slice la ln lc, .int .i64 st, .slice pa n pc] 27)) w.heap.size #[.slice ta tn tc, .slice na nn nc, .slice la ln lc, .int .i64 st, .slice pa n pc]) := ⟨World.grownBy_alloc _ _ none, heap_alloc_last w _⟩
  obtain ⟨iP, hiP, hP0, hP1, hP2⟩ := info_parts infoProdK
  obtain ⟨ll, hle⟩ : ∃ x, x = l.length := ⟨_, rfl⟩
  rw [← hle] at HGM
  rw [← hle]
  clear hG hlen hts hns hT h0 hnt hnl hI hnv hll hval hmore hV hC hM hpl hle hV' hC' hM' hF hF' hFM hQd hQd'
  go_enter Tryd.func7, Tryd.ntmps7
  go_wp2_with fail
  refine Calls.mono (HAW.out _ HX0.out.grown) ?_
  rintro e w1 ⟨rfl, hg1⟩
  have HX1 : Hid (PhAt w w1 w.heap.size #[.slice ta tn tc, .slice na nn nc, .slice la ln lc, .int .i64 st, .slice pa n pc]) := HX0.out.kept hg1
  clear hg1 HX0
  obtain ⟨k0, k1, k2, k3, k4⟩ := HX1.out.cells
  go_wp2_with fail
  refine Calls.mono (HVL.out _ HX1.out.grown) ?_
  rintro e w2 ⟨rfl, hg2⟩
  have HX2 : Hid (PhAt w w2 w.heap.size #[.slice ta tn tc, .slice na nn nc, .slice la ln lc, .int .i64 st, .slice pa n pc]) := HX1.out.kept hg2
  clear hg2 HX1 k0 k1 k2 k3 k4
  obtain ⟨k0, k1, k2, k3, k4⟩ := HX2.out.cells
  go_wp2_with fail
  refine Calls.mono (HCP.out _ HX2.out.grown) ?_
  rintro e w3 ⟨ta2, na2, la2, pa2, tc2, nc2, lc2, pc2, rg, rfl, hO3, hg3⟩
  clear k0 k1 k2 k3 k4
  obtain ⟨hb, hhb⟩ : ∃ hb, hb = w3.heap.size := ⟨_, rfl⟩
  obtain ⟨X3, hX3⟩ : ∃ X3, X3 = (w3.alloc (.cells #[.slice ta2 tn tc2, .slice na2 nn nc2, .slice la2 ln lc2, .int .i64 st, .slice pa2 n pc2] 27)).alloc (.cells #[.int .i64 lf, .slice av ll cv, .int .i64 0] 51) := ⟨_, rfl⟩
  have hg33 : w3.grownBy X3 none := by rw [hX3]; exact grown_trans (World.grownBy_alloc _ _ none) (World.grownBy_alloc _ _ none)
  have HX3 : Hid (PhAt w X3 w.heap.size #[.slice ta tn tc, .slice na nn nc, .slice la ln lc, .int .i64 st, .slice pa n pc]) := HX2.out.kept (grown_trans hg3 hg33)
  have HHB : Hid (X3.heap[hb]? = some (.cells #[.slice ta2 tn tc2, .slice na2 nn nc2, .slice la2 ln lc2, .int .i64 st, .slice pa2 n pc2] 27 (0, 0))) := by
    show _ = _
    rw [hX3, hhb]
    exact ((World.grownBy_alloc (w3.alloc _) _ none).block _ (by simp) (by simp)).trans (heap_alloc_last w3 _)
  have HO3 : Hid (X3.ownsRow w2.heap.size 77 2 (.slice ta2 tn tc2) tn (tmsL ts) ∧ X3.ownsRow w2.heap.size 9 1 (.slice na2 nn nc2) nn (ns.map Value.string) ∧ X3.ownsRow w2.heap.size 3 1 (.slice la2 ln lc2) ln (lv.map (Value.int .i64)) ∧ X3.ownsRow w2.heap.size 51 3 (.slice pa2 n pc2) n (prodRow n L rg V) ∧ ∀ i, i < n → X3.ownsRow w2.heap.size 3 1 (rg i) (R i).length ((R i).map (Value.int .i64))) := ⟨keep0 hO3.1 hg33, keep0 hO3.2.1 hg33, keep0 hO3.2.2.1 hg33, keep0 hO3.2.2.2.1 hg33, fun i hi => keep0 (hO3.2.2.2.2 i hi) hg33⟩
  have HSZ : Hid (w.heap.size < w2.heap.size ∧ w2.heap.size ≤ hb ∧ w2.heap.size ≤ X3.heap.size) := ⟨(Array.getElem?_eq_some_iff.1 HX2.out.box).1, by rw [hhb]; exact hg3.size, Nat.le_trans hg3.size hg33.size⟩
  have HNW : Hid (∀ j u, [Value.int .i64 lf, .slice av ll cv, .int .i64 0][j]? = some u → X3.cell? ((⟨w3.heap.size + 1, 0, none⟩ : Addr).add j) = some u) := by
    have h9 := news_new (w3.alloc (.cells #[.slice ta2 tn tc2, .slice na2 nn nc2, .slice la2 ln lc2, .int .i64 st, .slice pa2 n pc2] 27)) #[.int .i64 lf, .slice av ll cv, .int .i64 0] 51
    rw [World.size_alloc] at h9
    rw [hX3]; exact h9
  have HFIN : Hid (∀ (wB : World) (v6 : Value), wB.ownsRow w2.heap.size 51 3 v6 (n + 1) (prodRow n L rg V ++ [.int .i64 lf, .slice av ll cv, .int .i64 0]) → X3.grownBy wB (Value.slice pa2 n pc2).ownBlock → ∃ a6 c6, v6 = .slice a6 (n + 1) c6 ∧ wB.cell? ⟨hb, 4, none⟩ = some (.slice pa2 n pc2) ∧ wB.frozen? ⟨hb, 4, none⟩ = false ∧ PhAt w (wB.setCell ⟨hb, 4, none⟩ (.slice a6 (n + 1) c6)) w.heap.size #[.slice ta tn tc, .slice na nn nc, .slice la ln lc, .int .i64 st, .slice pa n pc] ∧ (wB.setCell ⟨hb, 4, none⟩ (.slice a6 (n + 1) c6)).heap[hb]? = some (.cells #[.slice ta2 tn tc2, .slice na2 nn nc2, .slice la2 ln lc2, .int .i64 st, .slice a6 (n + 1) c6] 27 (0, 0)) ∧ ∃ ra2 rc2, GAt (wB.setCell ⟨hb, 4, none⟩ (.slice a6 (n + 1) c6)) ta2 na2 la2 a6 tc2 nc2 lc2 c6 ts ns lv (n + 1) (fun i => if i < n then L i else lf) (fun i => if i < n then R i else l) ra2 rc2 (fun i => if i < n then V i else 0)) := by
    intro wB v6 ho hg
    obtain ⟨a6, c6, rfl⟩ := owns_slice ho
    have hbB : wB.heap[hb]? = some (.cells #[.slice ta2 tn tc2, .slice na2 nn nc2, .slice la2 ln lc2, .int .i64 st, .slice pa2 n pc2] 27 (0, 0)) := (hg.block hb (Array.getElem?_eq_some_iff.1 HHB.out).1 (fun e => by
      rcases owns_nebox HO3.out.2.2.2.1 HHB.out (by decide) with h | h
      · rw [h] at e; cases e
      · exact h e.symm)).trans HHB.out
    have hP7 : PhAt w wB w.heap.size #[.slice ta tn tc, .slice na nn nc, .slice la ln lc, .int .i64 st, .slice pa n pc] := by
      cases hv : (Value.slice pa2 n pc2).ownBlock with
      | none => rw [hv] at hg; exact HX3.out.kept hg
      | some q => rw [hv] at hg; exact HX3.out.keptRow hg (Nat.le_trans HSZ.out.1 (HO3.out.2.2.2.1.lt q hv).1)
    have hPZ : PhAt w (wB.setCell ⟨hb, 4, none⟩ (.slice a6 (n + 1) c6)) w.heap.size #[.slice ta tn tc, .slice na nn nc, .slice la ln lc, .int .i64 st, .slice pa n pc] := hP7.keptRow (grown_setCell _ _ _) (by have := HSZ.out; omega)
    refine ⟨a6, c6, rfl, by rw [cell_of_row _ _ _ _ _ _ hbB]; rfl, frozen_of_row _ _ _ _ _ hbB, hPZ, by rw [heap_setCell_same _ _ _ _ _ _ hbB]; rfl, ?_⟩
    exact HGM.out X3 wB _ w2.heap.size hb ta2 na2 la2 pa2 a6 tc2 nc2 lc2 pc2 c6 rg _ HO3.out hg HHB.out (grown_setCell _ _ _) ho hPZ.grown
  have q4 : X3.cell? ⟨hb, 4, none⟩ = some (.slice pa2 n pc2) := by rw [cell_of_row _ _ _ _ _ _ HHB.out]; rfl
  subst hhb
  rw [hX3] at q4
  have HXE := show Hid _ from hX3
  clear hO3 hg3 hg33 hX3 HX2
  go_wp2_with (at_builtin; refine wpList_append_src rfl (.tmp 32) (.tmp 36) 25 rfl w2.heap.size 51 iP (.agg #[.int .i64 0, .slice none 0 0, .int .i64 0]) 3 40 Tryd.underlying25 hiP hP0 hP1 hP2 rfl (by decide) (.slice pa2 n pc2) n (prodRow n L rg V) rfl (by rw [← HXE.out]; exact HO3.out.2.2.2.1) (some ⟨w3.heap.size + 1, 0, none⟩) 1 1 [.int .i64 lf, .slice av ll cv, .int .i64 0] rfl (fun h => by cases h) rfl (fun ad e => by cases e; rw [← HXE.out]; exact HNW.out) (by simp [Value.oneCell']) (by unfold maxLen; omega) (by omega) (by rw [← HXE.out]; exact HSZ.out.2.2) ?_; intro v6 wB hoB hgB; rw [← HXE.out] at hgB; obtain ⟨a6, c6, rfl, y0, y1, y2, y3, ra2, rc2, y4⟩ := HFIN.out wB v6 hoB hgB; have HY2 := show Hid _ from y2; have HY3 := show Hid _ from y3; have HY4 := show Hid _ from y4; have z0 := (PhAt.cells (w := _) ⟨grown_refl _ _, y3⟩).1; have z1 := (PhAt.cells (w := _) ⟨grown_refl _ _, y3⟩).2.1; have z2 := (PhAt.cells (w := _) ⟨grown_refl _ _, y3⟩).2.2.1; have z3 := (PhAt.cells (w := _) ⟨grown_refl _ _, y3⟩).2.2.2.1; have z4 := (PhAt.cells (w := _) ⟨grown_refl _ _, y3⟩).2.2.2.2; clear hoB hgB y2 y3 y4)
  generalize wB.setCell ⟨w3.heap.size, 4, none⟩ (.slice a6 (n + 1) c6) = X4 at *
  generalize w3.heap.size = hb at *
  have HQ4 : Hid (TwoAt w X4 #[.slice ta tn tc, .slice na nn nc, .slice la ln lc, .int .i64 st, .slice pa n pc] hb #[.slice ta2 tn tc2, .slice na2 nn nc2, .slice la2 ln lc2, .int .i64 st, .slice a6 (n + 1) c6] ta2 na2 la2 a6 tc2 nc2 lc2 c6 ts ns lv (n + 1) (fun i => if i < n then L i else lf) (fun i => if i < n then R i else l) ra2 rc2 (fun i => if i < n then V i else 0)) := ⟨HY2.out, HY3.out, HY4.out⟩
  clear HY2 HY3 HY4 y0 y1 z0 z1 z2 z3 z4 q4 HXE HFIN HNW HO3 HHB HX3 HGM HCP HSZ hiP hP0 hP1 hP2
  refine Calls.mono (HHV.out X4 _ _ _ _ _ _ _ _ _ _ HQ4.out.h) ?_
  rintro e w5 ⟨rfl, hg5⟩
  have HQ5 : Hid (TwoAt w w5 #[.slice ta tn tc, .slice na nn nc, .slice la ln lc, .int .i64 st, .slice pa n pc] hb #[.slice ta2 tn tc2, .slice na2 nn nc2, .slice la2 ln lc2, .int .i64 st, .slice a6 (n + 1) c6] ta2 na2 la2 a6 tc2 nc2 lc2 c6 ts ns lv (n + 1) (fun i => if i < n then L i else lf) (fun i => if i < n then R i else l) ra2 rc2 (fun i => if i < n then V i else 0)) := HQ4.out.kept hg5
  clear hg5 HQ4
  obtain ⟨k0, k1, k2, k3, k4⟩ := HQ5.out.g.cells
  go_wp2_with fail
  refine Calls.mono (HNG.out w5 HQ5.out.g.grown) ?_
  rintro e w6 ⟨ka, rfl, _, hA6, hg6⟩
  have HQ6 : Hid (TwoAt w w6 #[.slice ta tn tc, .slice na nn nc, .slice la ln lc, .int .i64 st, .slice pa n pc] hb #[.slice ta2 tn tc2, .slice na2 nn nc2, .slice la2 ln lc2, .int .i64 st, .slice a6 (n + 1) c6] ta2 na2 la2 a6 tc2 nc2 lc2 c6 ts ns lv (n + 1) (fun i => if i < n then L i else lf) (fun i => if i < n then R i else l) ra2 rc2 (fun i => if i < n then V i else 0)) := HQ5.out.kept hg6
  have HA6 : Hid (ValAt w6 ka nn 4 (fun i => .bool (F i))) := hA6
  clear hg6 hA6 HQ5 k0 k1 k2 k3 k4
  obtain ⟨k0, k1, k2, k3, k4⟩ := HQ6.out.hcells
  go_wp2_with fail
  refine Calls.mono (HNH.out w6 _ _ _ _ _ _ _ _ _ _ HQ6.out.h) ?_
  rintro e w7 ⟨kb, rfl, _, hB7, hg7⟩
  have HQ7 : Hid (TwoAt w w7 #[.slice ta tn tc, .slice na nn nc, .slice la ln lc, .int .i64 st, .slice pa n pc] hb #[.slice ta2 tn tc2, .slice na2 nn nc2, .slice la2 ln lc2, .int .i64 st, .slice a6 (n + 1) c6] ta2 na2 la2 a6 tc2 nc2 lc2 c6 ts ns lv (n + 1) (fun i => if i < n then L i else lf) (fun i => if i < n then R i else l) ra2 rc2 (fun i => if i < n then V i else 0)) := HQ6.out.kept hg7
  have HB7 : Hid (ValAt w7 ka nn 4 (fun i => .bool (F i)) ∧ ValAt w7 kb nn 4 (fun i => .bool (F' i))) := ⟨HA6.out.kept hg7, hB7⟩
  clear hg7 hB7 HQ6 HA6 k0 k1 k2 k3 k4
  obtain ⟨k0, k1, k2, k3, k4⟩ := HQ7.out.g.cells
  go_wp2_with fail
  refine Calls.mono (HSG.out w7 HQ7.out.g.grown) ?_
  rintro e w8 ⟨kc, ua, uc, rfl, _, hC8, hR8, hg8⟩
  have HQ8 : Hid (TwoAt w w8 #[.slice ta tn tc, .slice na nn nc, .slice la ln lc, .int .i64 st, .slice pa n pc] hb #[.slice ta2 tn tc2, .slice na2 nn nc2, .slice la2 ln lc2, .int .i64 st, .slice a6 (n + 1) c6] ta2 na2 la2 a6 tc2 nc2 lc2 c6 ts ns lv (n + 1) (fun i => if i < n then L i else lf) (fun i => if i < n then R i else l) ra2 rc2 (fun i => if i < n then V i else 0)) := HQ7.out.kept hg8
  have HC8 : Hid ((ValAt w8 ka nn 4 (fun i => .bool (F i)) ∧ ValAt w8 kb nn 4 (fun i => .bool (F' i))) ∧ ValAt w8 kc nn 24 (fun i => .slice (ua i) (Q i).length (uc i)) ∧ ∀ i, i < nn → IntsAt w8 (ua i) (Q i)) := ⟨⟨HB7.out.1.kept hg8, HB7.out.2.kept hg8⟩, hC8, fun i hi => (hR8 i hi).ints⟩
  clear hg8 hC8 hR8 HQ7 HB7 k0 k1 k2 k3 k4
  obtain ⟨k0, k1, k2, k3, k4⟩ := HQ8.out.hcells
  go_wp2_with fail
  refine Calls.mono (HSH.out w8 _ _ _ _ _ _ _ _ _ _ HQ8.out.g.grown HQ8.out.h) ?_
  rintro e w9 ⟨kd, va, vc, rfl, _, hD9, hR9, hg9⟩
  have HD9 : Hid (GrAt w w9 nn ka kb kc kd F F' Q Q' ua uc va vc) := ⟨grown_trans HQ8.out.g.grown hg9, HC8.out.1.1.kept hg9, HC8.out.1.2.kept hg9, HC8.out.2.1.kept hg9, hD9, fun i hi => (HC8.out.2.2 i hi).kept hg9, fun i hi => (hR9 i hi).ints⟩
  clear hg9 hD9 hR9 HQ8 HC8 k0 k1 k2 k3 k4
  have hnne : ((nn : Int) != (nn : Int)) = false := bne_self_eq_false _
  go_wp2_with fail
  clear hnne
  go_loopg [21] nn (fun gk v21 wr => ∃ i : Nat, i ≤ nn ∧ gk = nn - i ∧ v21 = .int .i64 i ∧ GrAt w wr nn ka kb kc kd F F' Q Q' ua uc va vc)
  case atStart => exact ⟨0, Nat.zero_le _, rfl, rfl, HD9.out⟩
  case round =>
    obtain ⟨i, hi, hgi, rfl, hD⟩ := hrel
    have HGI : Hid (gk = nn - i) := hgi
    have HD : Hid (GrAt w wr nn ka kb kc kd F F' Q Q' ua uc va vc) := hD
    clear hgi hD HD9
    by_cases hlt : i < nn
    · have hi0 : (0 : Int) ≤ (i : Int) := by omega
      have hi1 : (i : Int) < (nn : Int) := by omega
      have hid : decide (i < nn) = true := decide_eq_true hlt
      have s0 := HD.out.c.cell i hlt
      have s1 := HD.out.d.cell i hlt
      obtain ⟨q1, hq1⟩ : ∃ q, q = (Q i).length := ⟨_, rfl⟩
      obtain ⟨q2, hq2⟩ : ∃ q, q = (Q' i).length := ⟨_, rfl⟩
      rw [← hq1] at s0
      rw [← hq2] at s1
      have HQL : Hid (q1 = (Q i).length ∧ q2 = (Q' i).length) := ⟨hq1, hq2⟩
      have HKS : Hid (∀ x, wr.grownBy x none → x.cell? ⟨kc, i, none⟩ = some (.slice (ua i) q1 (uc i)) ∧ x.cell? ⟨kd, i, none⟩ = some (.slice (va i) q2 (vc i))) := fun x hx => ⟨hx.cell s0 (by simp), hx.cell s1 (by simp)⟩
      have HBO : Hid (∀ X, wr.grownBy X none → Calls Tryd.prog 22 #[.slice (ua i) q1 (uc i), .slice (va i) q2 (vc i)] X fun e y => ∃ (a : Option Addr) (c : Nat), e = .returned (.slice a q2 c) ∧ IntsAt y a (Q' i) ∧ X.grownBy y none) := fun X hX => by
        rw [HQL.out.1, HQL.out.2]
        have h7 := HD.out.kept hX
        refine (both_any (ua i) (va i) (uc i) (vc i) (Q i) (Q' i) X (h7.ri i hlt) (h7.rd i hlt) (HQS.out i).1 (HQS.out i).2.1).mono ?_
        rintro e y ⟨a, c, rfl, ho, hg⟩
        rw [(HQS.out i).2.2] at ho
        exact ⟨a, c, by rw [(HQS.out i).2.2], (RowIn.of ho (Nat.zero_le _)).ints, hg⟩
      have HIN : Hid (∀ X a c, wr.grownBy X none → IntsAt X a (Q' i) → Calls Tryd.prog 19 #[.slice a q2 c, .slice (va i) q2 (vc i)] X fun e y => e = .returned (.bool true) ∧ X.grownBy y none) := fun X a c hX ha => by
        rw [HQL.out.2]
        exact ints_same a (va i) c (vc i) (Q' i) X ha ((HD.out.kept hX).rd i hlt) (HQS.out i).2.1
      have n0 := HD.out.a.cell i hlt
      have n1 := HD.out.b.cell i hlt
      have hff := HFF.out i
      obtain ⟨fa, hfa⟩ : ∃ f, f = F i := ⟨_, rfl⟩
      obtain ⟨fb, hfb⟩ : ∃ f, f = F' i := ⟨_, rfl⟩
      rw [← hfa] at n0 hff
      rw [← hfb] at n1 hff
      have HGc : Hid (wr.grownBy wr.drew none) := grown_drewN _ 1
      have HNN : Hid (∀ x, wr.grownBy x none → x.cell? ⟨ka, i, none⟩ = some (.bool fa) ∧ x.cell? ⟨kb, i, none⟩ = some (.bool fb)) := fun x hx => ⟨hx.cell n0 (by simp), hx.cell n1 (by simp)⟩
      clear hq1 hq2 hfa hfb n0 n1 s0 s1
      go_wp2_with fail
      go_region_held3 (fun x => x.cell? ⟨kc, i, none⟩ = some (.slice (ua i) q1 (uc i)) ∧ x.cell? ⟨kd, i, none⟩ = some (.slice (va i) q2 (vc i))) (first | exact HKS.out _ HGc.out | go_keep)
        ((first
          | (go_at_call 22; refine Calls.mono (HBO.out _ HGc.out) ?_; rintro e w10 ⟨a10, c10, rfl, hI10, hg10⟩; have HGc : Hid (wr.grownBy w10 none) := grown_trans HGc.out hg10; have HI10 : Hid (IntsAt w10 a10 (Q' i)) := hI10; clear hI10 hg10)
          | (go_at_call 19; refine Calls.mono (HIN.out _ _ _ HGc.out HI10.out) ?_; rintro e w11 ⟨rfl, hg11⟩; have HGc : Hid (wr.grownBy w11 none) := grown_trans HGc.out hg11; clear hg11)
          | fail))
      obtain ⟨n0, n1⟩ := HNN.out _ HGc.out
      have HD11 : Hid (GrAt w w11 nn ka kb kc kd F F' Q Q' ua uc va vc) := HD.out.kept HGc.out
      clear HD HGc HNN HKS HBO HIN
      cases fa with
      | false =>
        go_wp2_with fail
        go_roundg (nn - (i + 1))
        case measure => have := HGI.out; omega
        case rel => first | exact ⟨i + 1, by omega, rfl, by go_num, HD11.out⟩ | exact ⟨i + 1, by omega, rfl, by go_num, HD11.out.kept (grown_drewN _ _)⟩
      | true =>
        obtain rfl : fb = true := hff rfl
        go_wp2_with fail
        go_roundg (nn - (i + 1))
        case measure => have := HGI.out; omega
        case rel => first | exact ⟨i + 1, by omega, rfl, by go_num, HD11.out⟩ | exact ⟨i + 1, by omega, rfl, by go_num, HD11.out.kept (grown_drewN _ _)⟩
    · have hin : nn = i := by omega
      subst hin
      have hid : decide (nn < nn) = false := decide_eq_false (by omega)
      go_wp2_with fail
      go_ret
      exact ⟨rfl, HD.out.grown⟩

end Go.Proofs.YteciocfnkjenpaaDoor
