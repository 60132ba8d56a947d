import Derived.Test.YtgmljpkenipgjaaQgehnmkejidnl
import Derived.Test.YtgmljpkenipgjaaQbcofglccpmfn
import Derived.Test.YtgmljpkenipgjaaQeaohognciceb
import Derived.Deep.RegionLaw
import Derived.Deep.DrawnRows
import Derived.Deep.RegionHeld3
import Derived.BigQuiet
import Derived.Test.YtgmljpkenipgjaaQfcifhhmhmaom

/-
  pack: the document's Lay: owners and values grow: a loop as a declaration of its own (printed by tools/pk_grow.py).
-/
namespace Go.Proofs.Ytgmljpkenipgjaa.J
open Go.RowKit Go.Maps Go.Shelf Pk

attribute [local go_sem] Oper.semAt_some
attribute [local go_sem ↓] Go.wp_at_zero Go.wp_at_succ

/-- Bases, values, owners, by their places in the box. -/
def lyQ (bs va ow : List Int) : Nat → List Int := fun j => if j = 0 then bs else if j = 1 then va else ow
theorem lyQ_0 (bs va ow bs' : List Int) : upZ (lyQ bs va ow) 0 bs' = lyQ bs' va ow := by
  funext j; unfold upZ lyQ; by_cases h : j = 0
  · subst h; rfl
  · rw [if_neg h, if_neg h, if_neg h]
theorem LyAt.ext {w X : World} {rb : Nat} {Q Q' : Nat → List Int} {ua : Nat → Option Addr} {uc : Nat → Nat} (h : LyAt w X rb Q ua uc) (e : ∀ j, j < 3 → Q j = Q' j) : LyAt w X rb Q' ua uc :=
  ⟨h.grown, h.res, by rw [← e 0 (by decide), ← e 1 (by decide), ← e 2 (by decide)]; exact h.box, h.rows.ext e, h.lo⟩
/-- An edge in a box. -/
def EdAt (X : World) (xb : Nat) (p : Nat) (tv : Int) : Prop := X.heap[xb]? = some (.cells #[.int .i64 (p : Int), .int .i64 tv] 60 (0, 0))
theorem EdAt.kept {X Y : World} {xb p : Nat} {tv : Int} (h : EdAt X xb p tv) (hg : X.grownBy Y none) : EdAt Y xb p tv := box_kept h hg
theorem infoIntP : (Try.prog.info? 3).map (fun i => (i.zero, i.size, i.bytes)) = some (some (.int .i64 0), 1, 8) := by kernel_rfl

/-- A row of the box turns, and the box is told: the edge stays. -/
theorem EdAt.turn {w X Y : World} {rb xb p f : Nat} {tv : Int} {v : Value} {Q : Nat → List Int} {ua : Nat → Option Addr} {uc : Nat → Nat} (h : EdAt X xb p tv) (hL : LyAt w X rb Q ua uc) (hf : f < 3) (hg : X.grownBy Y (Value.slice (ua f) (Q f).length (uc f)).ownBlock) : EdAt (Y.setCell ⟨rb, f, none⟩ v) xb p tv := by
  have h1 : EdAt Y xb p tv := hL.boxes hf h (by decide) hg
  have h2 := hL.boxes hf hL.box (by decide) hg
  have gs : Y.grownBy (Y.setCell ⟨rb, f, none⟩ v) (some rb) := grown_setCell _ _ _
  refine ((gs.block xb (Array.getElem?_eq_some_iff.1 h1).1 ?_).trans h1)
  intro e
  have e3 : rb = xb := Eq.symm (by simpa using e)
  subst e3
  unfold EdAt at h1
  rw [h2] at h1
  simp at h1

/-- A number is appended to a row, and the box is told. -/
theorem LyAt.app {w X Z : World} {rb xb p f m g c' : Nat} {tv v : Int} {Q : Nat → List Int} {ua : Nat → Option Addr} {uc : Nat → Nat} (h : LyAt w X rb Q ua uc) (hx : EdAt X xb p tv) (hf : f < 3) (hm : (Q f).length = m)
    (hZ : X.grownBy Z (Value.slice (ua f) m (uc f)).ownBlock) (ho : Z.ownsRow w.heap.size 3 1 (.slice (some ⟨g, 0, none⟩) (m + 1) c') (m + 1) (zV (Q f) ++ [.int .i64 v])) (hat : (Value.slice (ua f) m (uc f)).ownBlock = some g ∨ g = X.heap.size) :
    (Z.cell? ⟨rb, f, none⟩ = some (.slice (ua f) m (uc f)) ∧ Z.frozen? ⟨rb, f, none⟩ = false) ∧ LyAt w (Z.setCell ⟨rb, f, none⟩ (.slice (some ⟨g, 0, none⟩) (m + 1) c')) rb (upZ Q f (Q f ++ [v])) (upZ ua f (some ⟨g, 0, none⟩)) (upZ uc f c') ∧ EdAt (Z.setCell ⟨rb, f, none⟩ (.slice (some ⟨g, 0, none⟩) (m + 1) c')) xb p tv := by
  subst hm
  have hbx := h.boxes hf h.box (by decide) hZ
  have hzz : zV (Q f ++ [v]) = zV (Q f) ++ [.int .i64 v] := by rw [zV_append]; rfl
  have hT := h.turn (m := (Q f).length + 1) (a' := some ⟨g, 0, none⟩) (c' := c') (L' := Q f ++ [v]) hf (by rw [List.length_append]; rfl) hZ (by rw [hzz]; exact ho) (fun g2 hg2 => by
    have e2 : g = g2 := by simpa [Value.ownBlock] using hg2
    subst e2
    rcases hat with h | h
    · exact .inl h
    · exact .inr (by omega))
  refine ⟨⟨?_, frozen_of_row _ _ _ _ _ hbx⟩, hT, hx.turn h hf hZ⟩
  rw [cell_of_row _ _ _ _ _ _ hbx]
  match f, hf with
  | 0, _ => rfl
  | 1, _ => rfl
  | 2, _ => rfl

noncomputable def pkR26 : Code := ((Try.f11.body.map (regionsJ 26)).getD []).getD 0 .skip
noncomputable def pkGrow : Code := ((Try.f11.body.map loopsJ).getD []).getD 5 .skip

set_option maxRecDepth 100000 in
set_option maxHeartbeats 8000000 in
theorem pk_grow {Q0 : Exit → Act → World → Prop} {w V : World} {rb xb b p : Nat} {tv : Int} {bs va ow : List Int} {ua0 : Nat → Option Addr} {uc0 : Nat → Nat}
    {v0 v1 v2 v3 v4 v6 v7 v9 v11 v12 v13 v14 v15 v16 v17 v18 v19 v20 v21 v22 v23 v24 v25 v26 v27 v28 v29 v30 v31 v32 v33 v34 v35 v36 v37 v38 v39 v40 v41 v42 v43 v44 v45 v46 v47 v48 v49 v50 v51 v52 v53 v54 v55 v56 v57 v58 v59 v60 v61 v62 v63 v64 v65 v66 v67 v68 v69 v70 v71 v72 v73 v74 v75 v76 v77 v78 v79 v80 v81 v82 v83 v84 v85 v86 v87 v88 v89 v90 v91 v92 v93 v94 v95 v96 v97 v98 v99 v100 v101 v102 v103 v104 v105 v106 v107 v108 v109 v110 v111 v112 : Value}
    (hL : LyAt w V rb (lyQ bs va ow) ua0 uc0) (hx : EdAt V xb p tv) (hlen : ow.length = va.length) (hb : b ≤ 67108864) (hp : p < 256) (ho : ow.length ≤ 67108864)
    (hexit : ∀ (wz : World) (ua : Nat → Option Addr) (uc : Nat → Nat) (u77 u78 u79 u80 u81 u82 u83 u84 u85 u86 u87 u88 u89 u90 u91 u92 u93 u94 : Value), LyAt w wz rb (lyQ bs (pad 0 va (b + p + 1)) (pad (-1) ow (b + p + 1))) ua uc → EdAt wz xb p tv → Q0 (.exit 10) ⟨List.toArray (v0 :: v1 :: v2 :: v3 :: v4 :: .pointer (some ⟨rb, 0, none⟩) :: v6 :: v7 :: .int .i64 (b : Int) :: v9 :: .pointer (some ⟨xb, 0, none⟩) :: v11 :: v12 :: v13 :: v14 :: v15 :: v16 :: v17 :: v18 :: v19 :: v20 :: v21 :: v22 :: v23 :: v24 :: v25 :: v26 :: v27 :: v28 :: v29 :: v30 :: v31 :: v32 :: v33 :: v34 :: v35 :: v36 :: v37 :: v38 :: v39 :: v40 :: v41 :: v42 :: v43 :: v44 :: v45 :: v46 :: v47 :: v48 :: v49 :: v50 :: v51 :: v52 :: v53 :: v54 :: v55 :: v56 :: v57 :: v58 :: v59 :: v60 :: v61 :: v62 :: v63 :: v64 :: v65 :: v66 :: v67 :: v68 :: v69 :: v70 :: v71 :: v72 :: v73 :: v74 :: v75 :: v76 :: u77 :: u78 :: u79 :: u80 :: u81 :: u82 :: u83 :: u84 :: u85 :: u86 :: u87 :: u88 :: u89 :: u90 :: u91 :: u92 :: u93 :: u94 :: v95 :: v96 :: v97 :: v98 :: v99 :: v100 :: v101 :: v102 :: v103 :: v104 :: v105 :: v106 :: v107 :: v108 :: v109 :: v110 :: v111 :: v112 :: []), []⟩ wz) :
    Code.wp Try.prog pkGrow Q0 ⟨List.toArray (v0 :: v1 :: v2 :: v3 :: v4 :: .pointer (some ⟨rb, 0, none⟩) :: v6 :: v7 :: .int .i64 (b : Int) :: v9 :: .pointer (some ⟨xb, 0, none⟩) :: v11 :: v12 :: v13 :: v14 :: v15 :: v16 :: v17 :: v18 :: v19 :: v20 :: v21 :: v22 :: v23 :: v24 :: v25 :: v26 :: v27 :: v28 :: v29 :: v30 :: v31 :: v32 :: v33 :: v34 :: v35 :: v36 :: v37 :: v38 :: v39 :: v40 :: v41 :: v42 :: v43 :: v44 :: v45 :: v46 :: v47 :: v48 :: v49 :: v50 :: v51 :: v52 :: v53 :: v54 :: v55 :: v56 :: v57 :: v58 :: v59 :: v60 :: v61 :: v62 :: v63 :: v64 :: v65 :: v66 :: v67 :: v68 :: v69 :: v70 :: v71 :: v72 :: v73 :: v74 :: v75 :: v76 :: v77 :: v78 :: v79 :: v80 :: v81 :: v82 :: v83 :: v84 :: v85 :: v86 :: v87 :: v88 :: v89 :: v90 :: v91 :: v92 :: v93 :: v94 :: v95 :: v96 :: v97 :: v98 :: v99 :: v100 :: v101 :: v102 :: v103 :: v104 :: v105 :: v106 :: v107 :: v108 :: v109 :: v110 :: v111 :: v112 :: []), []⟩ V := by
  obtain ⟨i0, hi0, hz0, hz1, hz2⟩ := info_parts infoIntP
  have HL0 : Hid (LyAt w V rb (lyQ bs va ow) ua0 uc0) := hL
  have HX0 : Hid (EdAt V xb p tv) := hx
  have HB0 : Hid (b ≤ 67108864 ∧ p < 256 ∧ ow.length ≤ 67108864 ) := ⟨hb, hp, ho⟩
  have HE : Hid (ow.length = va.length) := hlen
  have HEX := show Hid _ from hexit
  have HS : Hid (pad 0 va ow.length = va ∧ pad (-1) ow ow.length = ow) := ⟨pad_same _ _ _ (by omega), pad_same _ _ _ (Nat.le_refl _)⟩
  obtain ⟨L, hLl⟩ : ∃ v, v = ow.length := ⟨_, rfl⟩
  have HLL : Hid (L = ow.length) := hLl
  rw [← hLl] at ho
  have hwr : IntKind.i64.wrap ((b : Int) + (p : Int)) = ((b + p : Nat) : Int) := by rw [IntKind.wrap_i64]; omega
  clear hL hx hlen hexit hLl
  conv => arg 2; whnf
  go_loopg [] (b + p + 1 - L) (fun gk wr => ∃ (m : Nat) (ua : Nat → Option Addr) (uc : Nat → Nat), L ≤ m ∧ m ≤ max L (b + p + 1) ∧ gk = b + p + 1 - m ∧ LyAt w wr rb (lyQ bs (pad 0 va m) (pad (-1) ow m)) ua uc ∧ EdAt wr xb p tv)
  case atStart => exact ⟨L, ua0, uc0, Nat.le_refl _, Nat.le_max_left _ _, rfl, by rw [HLL.out, HS.out.1, HS.out.2]; exact HL0.out, HX0.out⟩
  case round =>
    clear HL0 HX0 HS
    obtain ⟨m, ua, uc, hm1, hm2, hgm, hl, hx⟩ := hrel
    have HGM : Hid (gk = b + p + 1 - m) := hgm
    have HL : Hid (LyAt w wr rb (lyQ bs (pad 0 va m) (pad (-1) ow m)) ua uc) := hl
    have HX : Hid (EdAt wr xb p tv) := hx
    obtain ⟨c0, c1, c2⟩ := hl.cell
    have hlo : (lyQ bs (pad 0 va m) (pad (-1) ow m) 2).length = m := by
      show (pad (-1) ow m).length = m
      rw [pad_len, ← HLL.out]; omega
    have hlv : (lyQ bs (pad 0 va m) (pad (-1) ow m) 1).length = m := by
      show (pad 0 va m).length = m
      rw [pad_len, ← HE.out, ← HLL.out]; omega
    rw [hlo] at c2
    have x0 : wr.cell? ⟨xb, 0, none⟩ = some (.int .i64 (p : Int)) := by rw [cell_of_row _ _ _ _ _ _ hx]; rfl
    obtain ⟨q, hq⟩ : ∃ q, q = b + p := ⟨_, rfl⟩
    rw [← hq] at hwr
    have HQ : Hid (q = b + p) := hq
    clear hl hx hgm c0 c1
    by_cases hmq : m ≤ q
    · have d0 : decide ((m : Int) ≤ (q : Int)) = true := decide_eq_true (by omega)
      have d0' : decide (m ≤ q) = true := decide_eq_true hmq
      clear hq
      have hmb : m ≤ 134217728 := by have h1 := HB0.out; have h2 := HLL.out; omega
      obtain ⟨fa, hfa⟩ : ∃ v, v = ua 2 := ⟨_, rfl⟩
      obtain ⟨fc, hfc⟩ : ∃ v, v = uc 2 := ⟨_, rfl⟩
      obtain ⟨Q, hQe⟩ : ∃ v, v = lyQ bs (pad 0 va m) (pad (-1) ow m) := ⟨_, rfl⟩
      have HQE : Hid (Q = lyQ bs (pad 0 va m) (pad (-1) ow m)) := hQe
      rw [← hQe] at HL hlo hlv
      have HLV : Hid ((Q 1).length = m) := hlv
      have HOW : Hid (∀ Y, wr.grownBy Y none → Y.ownsRow w.heap.size 3 1 (.slice fa m fc) m (zV (Q 2))) := fun Y hY => by
        have h1 := (HL.out.kept hY).rows.inn 2 (by decide)
        rw [hlo, ← hfa, ← hfc] at h1
        exact h1
      have HFIN : Hid (∀ (Y Z : World) (g c' : Nat), wr.grownBy Y none → Y.grownBy Z (Value.slice fa m fc).ownBlock → Z.ownsRow w.heap.size 3 1 (.slice (some ⟨g, 0, none⟩) (m + 1) c') (m + 1) (zV (Q 2) ++ [.int .i64 (-1)]) → ((Value.slice fa m fc).ownBlock = some g ∨ g = Y.heap.size) → (Z.cell? ⟨rb, 2, none⟩ = some (.slice fa m fc) ∧ Z.frozen? ⟨rb, 2, none⟩ = false) ∧ LyAt w (Z.setCell ⟨rb, 2, none⟩ (.slice (some ⟨g, 0, none⟩) (m + 1) c')) rb (upZ Q 2 (Q 2 ++ [-1])) (upZ ua 2 (some ⟨g, 0, none⟩)) (upZ uc 2 c') ∧ EdAt (Z.setCell ⟨rb, 2, none⟩ (.slice (some ⟨g, 0, none⟩) (m + 1) c')) xb p tv) := fun Y Z g c' hY hZ ho hat => by
        rw [hfa, hfc] at hZ hat ⊢
        exact (HL.out.kept hY).app (HX.out.kept hY) (by decide) hlo hZ ho hat
      have HSZ : Hid (∀ o, w.heap.size ≤ (wr.alloc o).heap.size) := fun o => Nat.le_trans HL.out.grown.size (World.grownBy_alloc wr o none).size
      rw [← hfa, ← hfc] at c2
      have p1 : ∀ o', (wr.alloc o').cell? ⟨rb, 2, none⟩ = some (.slice fa m fc) := fun o' => (World.grownBy_alloc _ o' none).cell c2 (by simp)
      obtain ⟨xs, hxs⟩ : ∃ xs, xs = zV (Q 2) := ⟨_, rfl⟩
      rw [← hxs] at HOW HFIN
      clear hlo hlv hfa hfc hQe hxs
      conv in (Code.region 26 _ _) => change pkR26
      go_wp2_with (at_builtin; refine wpList_append_liesW rfl (.tmp 86) (.tmp 87) 24 rfl w.heap.size 3 i0 (.int .i64 0) 1 8 Try.underlying24 hi0 hz0 hz1 hz2 rfl (by decide) (.slice fa m fc) m xs rfl (HOW.out _ (World.grownBy_alloc _ _ none)) ⟨wr.heap.size, 0, none⟩ 1 1 [.int .i64 (-1)] rfl rfl (World.news_of_block (heap_alloc_last wr _)) (by simp [Value.oneCell']) (by decide) (by unfold maxLen; omega) (by omega) (HSZ.out _) ?_)
      intro g9 c9 wB hoB hgB hatB
      obtain ⟨⟨q1, q2⟩, q3, q4⟩ := HFIN.out _ wB g9 c9 (World.grownBy_alloc _ _ none) hgB hoB (by simpa using hatB)
      obtain ⟨Q2, hQ2⟩ : ∃ f, f = upZ Q 2 (Q 2 ++ [-1]) := ⟨_, rfl⟩
      obtain ⟨ua2, hua2⟩ : ∃ f, f = upZ ua 2 (some ⟨g9, 0, none⟩) := ⟨_, rfl⟩
      obtain ⟨uc2, huc2⟩ : ∃ f, f = upZ uc 2 c9 := ⟨_, rfl⟩
      rw [← hQ2, ← hua2, ← huc2] at q3
      have HQ2 : Hid (Q2 = upZ Q 2 (Q 2 ++ [-1])) := hQ2
      obtain ⟨w7, hw7⟩ : ∃ v, v = wB.setCell ⟨rb, 2, none⟩ (.slice (some ⟨g9, 0, none⟩) (m + 1) c9) := ⟨_, rfl⟩
      rw [← hw7] at q3 q4
      have HW7 : Hid (w7 = wB.setCell ⟨rb, 2, none⟩ (.slice (some ⟨g9, 0, none⟩) (m + 1) c9)) := hw7
      have HL7 : Hid (LyAt w w7 rb Q2 ua2 uc2) := q3
      have HX7 : Hid (EdAt w7 xb p tv) := q4
      clear q3 q4 hQ2 hua2 huc2 hw7 hoB hgB hatB HFIN HOW HSZ p1
      go_wp2_with fail
      rw [← HW7.out]
      clear q1 q2 HW7
      conv => arg 2; whnf
      obtain ⟨d0', d1', d2'⟩ := HL7.out.cell
      have hl1 : (Q2 1).length = m := by rw [HQ2.out, upZ_other _ _ (by decide)]; exact HLV.out
      rw [hl1] at d1'
      obtain ⟨ga, hga⟩ : ∃ v, v = ua2 1 := ⟨_, rfl⟩
      obtain ⟨gc, hgc⟩ : ∃ v, v = uc2 1 := ⟨_, rfl⟩
      have HOW2 : Hid (∀ Y, w7.grownBy Y none → Y.ownsRow w.heap.size 3 1 (.slice ga m gc) m (zV (Q2 1))) := fun Y hY => by
        have h1 := (HL7.out.kept hY).rows.inn 1 (by decide)
        rw [hl1, ← hga, ← hgc] at h1
        exact h1
      have HFIN2 : Hid (∀ (Y Z : World) (g c' : Nat), w7.grownBy Y none → Y.grownBy Z (Value.slice ga m gc).ownBlock → Z.ownsRow w.heap.size 3 1 (.slice (some ⟨g, 0, none⟩) (m + 1) c') (m + 1) (zV (Q2 1) ++ [.int .i64 0]) → ((Value.slice ga m gc).ownBlock = some g ∨ g = Y.heap.size) → (Z.cell? ⟨rb, 1, none⟩ = some (.slice ga m gc) ∧ Z.frozen? ⟨rb, 1, none⟩ = false) ∧ LyAt w (Z.setCell ⟨rb, 1, none⟩ (.slice (some ⟨g, 0, none⟩) (m + 1) c')) rb (upZ Q2 1 (Q2 1 ++ [0])) (upZ ua2 1 (some ⟨g, 0, none⟩)) (upZ uc2 1 c') ∧ EdAt (Z.setCell ⟨rb, 1, none⟩ (.slice (some ⟨g, 0, none⟩) (m + 1) c')) xb p tv) := fun Y Z g c' hY hZ ho hat => by
        rw [hga, hgc] at hZ hat ⊢
        exact (HL7.out.kept hY).app (HX7.out.kept hY) (by decide) hl1 hZ ho hat
      have HSZ2 : Hid (∀ o, w.heap.size ≤ (w7.alloc o).heap.size) := fun o => Nat.le_trans HL7.out.grown.size (World.grownBy_alloc w7 o none).size
      rw [← hga, ← hgc] at d1'
      have p2 : ∀ o', (w7.alloc o').cell? ⟨rb, 1, none⟩ = some (.slice ga m gc) := fun o' => (World.grownBy_alloc _ o' none).cell d1' (by simp)
      obtain ⟨ys, hys⟩ : ∃ ys, ys = zV (Q2 1) := ⟨_, rfl⟩
      rw [← hys] at HOW2 HFIN2
      clear d0' d2' hl1 hga hgc hys
      go_wp2_with (at_builtin; refine wpList_append_liesW rfl (.tmp 91) (.tmp 92) 24 rfl w.heap.size 3 i0 (.int .i64 0) 1 8 Try.underlying24 hi0 hz0 hz1 hz2 rfl (by decide) (.slice ga m gc) m ys rfl (HOW2.out _ (World.grownBy_alloc _ _ none)) ⟨w7.heap.size, 0, none⟩ 1 1 [.int .i64 0] rfl rfl (World.news_of_block (heap_alloc_last w7 _)) (by simp [Value.oneCell']) (by decide) (by unfold maxLen; omega) (by omega) (HSZ2.out _) ?_)
      intro h9 k9 wC hoC hgC hatC
      obtain ⟨⟨r1, r2⟩, r3, r4⟩ := HFIN2.out _ wC h9 k9 (World.grownBy_alloc _ _ none) hgC hoC (by simpa using hatC)
      have HL8 : Hid (LyAt w (wC.setCell ⟨rb, 1, none⟩ (.slice (some ⟨h9, 0, none⟩) (m + 1) k9)) rb (upZ Q2 1 (Q2 1 ++ [0])) (upZ ua2 1 (some ⟨h9, 0, none⟩)) (upZ uc2 1 k9)) := r3
      have HX8 : Hid (EdAt (wC.setCell ⟨rb, 1, none⟩ (.slice (some ⟨h9, 0, none⟩) (m + 1) k9)) xb p tv) := r4
      clear r3 r4 hoC hgC hatC HFIN2 HOW2 HSZ2 p2
      go_wp2_with fail
      go_roundg (b + p + 1 - (m + 1))
      case measure => have h1 := HGM.out; have h2 := HQ.out; omega
      case rel =>
        refine ⟨m + 1, _, _, by omega, by have h2 := HQ.out; omega, rfl, HL8.out.ext fun j hj => ?_, HX8.out⟩
        have e2 : pad (-1) ow (m + 1) = pad (-1) ow m ++ [-1] := pad_snoc _ _ _ (by rw [← HLL.out]; exact hm1)
        have e1 : pad 0 va (m + 1) = pad 0 va m ++ [0] := pad_snoc _ _ _ (by rw [← HE.out, ← HLL.out]; exact hm1)
        rw [HQ2.out, HQE.out]
        match j, hj with
        | 0, _ => rfl
        | 1, _ => rw [upZ_same, upZ_other _ _ (by decide)]; exact e1.symm
        | 2, _ => rw [upZ_other _ _ (by decide), upZ_same]; exact e2.symm
    · have d0 : decide ((m : Int) ≤ (q : Int)) = false := decide_eq_false (by omega)
      have d0' : decide (m ≤ q) = false := decide_eq_false hmq
      have hmx : m = max L (b + p + 1) := by omega
      have HM : Hid (pad 0 va m = pad 0 va (b + p + 1) ∧ pad (-1) ow m = pad (-1) ow (b + p + 1)) := by
        have h1 := HLL.out
        have h2 := HE.out
        have key : ∀ (z : Int) (l : List Int), l.length = L → pad z l m = pad z l (b + p + 1) := fun z l e => by
          unfold pad
          rw [e, show m - L = b + p + 1 - L by omega]
        exact ⟨key _ _ (by omega), key _ _ (by omega)⟩
      clear hq hmx
      go_wp2_with fail
      exact HEX.out wr ua uc _ _ _ _ _ _ _ _ _ _ _ _ _ _ _ _ _ _ (by rw [← HM.out.1, ← HM.out.2]; exact HL.out) HX.out

end Go.Proofs.Ytgmljpkenipgjaa.J

/-
  pack: the document's Lay: the edges of a row are laid: a loop as a declaration of its own (printed by tools/pk_k.py).
-/
namespace Go.Proofs.Ytgmljpkenipgjaa.J
open Go.RowKit Go.Maps Go.Shelf Pk

attribute [local go_sem] Oper.semAt_some

noncomputable def pkR28 : Code := ((Try.f11.body.map (regionsJ 28)).getD []).getD 0 .skip
theorem EdAt.put {w X : World} {rb xb p f g q : Nat} {tv v : Int} {Q : Nat → List Int} {ua : Nat → Option Addr} {uc : Nat → Nat} (h : EdAt X xb p tv) (hL : LyAt w X rb Q ua uc) (hf : f < 3) (ha : ua f = some ⟨g, 0, none⟩) : EdAt (X.setCell ⟨g, q, none⟩ (.int .i64 v)) xb p tv :=
  hL.boxes hf h (by decide) (by rw [ha]; exact grown_setCell _ _ _)
theorem LyAt.at {w X : World} {rb f q : Nat} {Q : Nat → List Int} {ua : Nat → Option Addr} {uc : Nat → Nat} (h : LyAt w X rb Q ua uc) (hf : f < 3) (hq : q < (Q f).length) : ∃ g, ua f = some ⟨g, 0, none⟩ ∧ X.cell? ⟨g, q, none⟩ = some (.int .i64 ((Q f).getD q 0)) ∧ X.frozen? ⟨g, q, none⟩ = false := by
  have h0 := h.rows.inn f hf
  obtain ⟨g, c, hv, hc⟩ := owns_at h0 (by omega)
  simp only [Value.slice.injEq] at hv
  refine ⟨g, hv.1, hc q _ (zV_at hq), ?_⟩
  rw [hv.1] at h0
  exact owns_free h0 q
noncomputable def pkK : Code := ((Try.f11.body.map loopsJ).getD []).getD 4 .skip

set_option maxRecDepth 100000 in
set_option maxHeartbeats 8000000 in
theorem pk_k {Q0 : Exit → Act → World → Prop} {w V : World} {rb ra ro N c i b n lc : Nat} {la : Option Addr} {l : List It} {bs va ow : List Int} {ua0 : Nat → Option Addr} {uc0 : Nat → Nat}
    {v1 v2 v3 v4 v10 v11 v12 v13 v14 v15 v16 v17 v18 v19 v20 v21 v22 v23 v24 v25 v26 v27 v28 v29 v30 v31 v32 v33 v34 v35 v36 v37 v38 v39 v40 v41 v42 v43 v44 v45 v46 v47 v48 v49 v50 v51 v52 v53 v54 v55 v56 v57 v58 v59 v60 v61 v62 v63 v64 v65 v66 v67 v68 v69 v70 v71 v72 v73 v74 v75 v76 v77 v78 v79 v80 v81 v82 v83 v84 v85 v86 v87 v88 v89 v90 v91 v92 v93 v94 v95 v96 v97 v98 v99 v100 v101 v102 v103 v104 v105 v106 v107 v108 v109 v110 v111 v112 : Value}
    (hL : LyAt w V rb (lyQ bs va ow) ua0 uc0) (hlen : ow.length = va.length) (hb : b ≤ 67108864 - 256) (ho : ow.length ≤ 67108864 - 256) (hn : n = l.length) (hP : ∀ e ∈ l, 0 ≤ e.1 ∧ e.1 < 256) (hn2 : n ≤ 256) (hi : i < N)
    (hr : ∀ X, w.grownBy X none → X.cell? ⟨ra, ro + i, none⟩ = some (.slice la n lc)) (hl : ∀ X, w.grownBy X none → ItsAt X la l)
    (hexit : ∀ (wz : World) (ua : Nat → Option Addr) (uc : Nat → Nat) (u9 u10 u65 u66 u67 u68 u69 u70 u71 u72 u73 u74 u75 u76 u77 u78 u79 u80 u81 u82 u83 u84 u85 u86 u87 u88 u89 u90 u91 u92 u93 u94 u95 u96 u97 u98 u99 u100 u101 u102 u103 u104 u105 u106 u107 u108 u109 u110 u111 : Value), LyAt w wz rb (lyQ bs (layR i b (ow, va) l).2 (layR i b (ow, va) l).1) ua uc → Q0 (.exit 8) ⟨List.toArray (.slice (some ⟨ra, ro, none⟩) N c :: v1 :: v2 :: v3 :: v4 :: .pointer (some ⟨rb, 0, none⟩) :: .int .i64 (n : Int) :: .int .i64 (i : Int) :: .int .i64 (b : Int) :: u9 :: u10 :: v11 :: v12 :: v13 :: v14 :: v15 :: v16 :: v17 :: v18 :: v19 :: v20 :: v21 :: v22 :: v23 :: v24 :: v25 :: v26 :: v27 :: v28 :: v29 :: v30 :: v31 :: v32 :: v33 :: v34 :: v35 :: v36 :: v37 :: v38 :: v39 :: v40 :: v41 :: v42 :: v43 :: v44 :: v45 :: v46 :: v47 :: v48 :: v49 :: v50 :: v51 :: v52 :: v53 :: v54 :: v55 :: v56 :: v57 :: v58 :: v59 :: v60 :: v61 :: v62 :: v63 :: v64 :: u65 :: u66 :: u67 :: u68 :: u69 :: u70 :: u71 :: u72 :: u73 :: u74 :: u75 :: u76 :: u77 :: u78 :: u79 :: u80 :: u81 :: u82 :: u83 :: u84 :: u85 :: u86 :: u87 :: u88 :: u89 :: u90 :: u91 :: u92 :: u93 :: u94 :: u95 :: u96 :: u97 :: u98 :: u99 :: u100 :: u101 :: u102 :: u103 :: u104 :: u105 :: u106 :: u107 :: u108 :: u109 :: u110 :: u111 :: v112 :: []), []⟩ wz) :
    Code.wp Try.prog pkK Q0 ⟨List.toArray (.slice (some ⟨ra, ro, none⟩) N c :: v1 :: v2 :: v3 :: v4 :: .pointer (some ⟨rb, 0, none⟩) :: .int .i64 (n : Int) :: .int .i64 (i : Int) :: .int .i64 (b : Int) :: .int .i64 0 :: v10 :: v11 :: v12 :: v13 :: v14 :: v15 :: v16 :: v17 :: v18 :: v19 :: v20 :: v21 :: v22 :: v23 :: v24 :: v25 :: v26 :: v27 :: v28 :: v29 :: v30 :: v31 :: v32 :: v33 :: v34 :: v35 :: v36 :: v37 :: v38 :: v39 :: v40 :: v41 :: v42 :: v43 :: v44 :: v45 :: v46 :: v47 :: v48 :: v49 :: v50 :: v51 :: v52 :: v53 :: v54 :: v55 :: v56 :: v57 :: v58 :: v59 :: v60 :: v61 :: v62 :: v63 :: v64 :: v65 :: v66 :: v67 :: v68 :: v69 :: v70 :: v71 :: v72 :: v73 :: v74 :: v75 :: v76 :: v77 :: v78 :: v79 :: v80 :: v81 :: v82 :: v83 :: v84 :: v85 :: v86 :: v87 :: v88 :: v89 :: v90 :: v91 :: v92 :: v93 :: v94 :: v95 :: v96 :: v97 :: v98 :: v99 :: v100 :: v101 :: v102 :: v103 :: v104 :: v105 :: v106 :: v107 :: v108 :: v109 :: v110 :: v111 :: v112 :: []), []⟩ V := by
  have HL0 : Hid (LyAt w V rb (lyQ bs (layR i b (ow, va) (l.take 0)).2 (layR i b (ow, va) (l.take 0)).1) ua0 uc0) := hL
  have HE : Hid (ow.length = va.length) := hlen
  have HEX := show Hid _ from hexit
  have HR := show Hid _ from hr
  have HLI := show Hid _ from hl
  have HNL : Hid (n = l.length) := hn
  have HP : Hid (∀ e ∈ l, 0 ≤ e.1 ∧ e.1 < 256) := hP
  have HB0 : Hid (b ≤ 67108864 - 256 ∧ ow.length ≤ 67108864 - 256) := ⟨hb, ho⟩
  have hi0 : (0 : Int) ≤ (i : Int) := by omega
  have hi1 : (i : Int) < (N : Int) := by omega
  clear hL hlen hexit hr hl hn hP ho
  conv => arg 2; whnf
  go_loopg [9] n (fun gk v9 wr => ∃ (k : Nat) (ua : Nat → Option Addr) (uc : Nat → Nat), k ≤ n ∧ gk = n - k ∧ v9 = .int .i64 k ∧ LyAt w wr rb (lyQ bs (layR i b (ow, va) (l.take k)).2 (layR i b (ow, va) (l.take k)).1) ua uc)
  case atStart => exact ⟨0, ua0, uc0, Nat.zero_le _, rfl, rfl, HL0.out⟩
  case round =>
    clear HL0
    obtain ⟨k, ua, uc, hk, hgk, rfl, hL⟩ := hrel
    have HGK : Hid (gk = n - k) := hgk
    have HL := show Hid _ from hL
    clear hgk hL
    by_cases hkn : k < n
    · have hkl : k < l.length := by rw [← HNL.out]; exact hkn
      have hkd : decide ((k : Int) < (n : Int)) = true := decide_eq_true (by omega)
      have hkd' : decide (k < n) = true := decide_eq_true hkn
      have cr := HR.out wr HL.out.grown
      obtain ⟨lb, lo, rfl, ce0, ce1⟩ : ∃ lb lo, la = some ⟨lb, lo, none⟩ ∧ wr.cell? ⟨lb, lo + k * 2, none⟩ = some (.int .i64 (l.getD k (0, 0)).1) ∧ wr.cell? ⟨lb, lo + k * 2 + 1, none⟩ = some (.int .i64 (l.getD k (0, 0)).2) := by
        rcases HLI.out wr HL.out.grown with h | ⟨lb, lo, e, h⟩
        · rw [h] at hkl; cases hkl
        · exact ⟨lb, lo, e, (h k hkl).1, (h k hkl).2⟩
      have hpx : 0 ≤ (l.getD k (0, 0)).1 ∧ (l.getD k (0, 0)).1 < 256 := by
        have : l.getD k (0, 0) ∈ l := by rw [List.getD_eq_getElem?_getD, List.getElem?_eq_getElem hkl]; exact List.getElem_mem _
        exact HP.out _ this
      obtain ⟨e, he⟩ : ∃ e, e = l.getD k (0, 0) := ⟨_, rfl⟩
      have HEE : Hid (e = l.getD k (0, 0)) := he
      rw [← he] at ce0 ce1 hpx
      obtain ⟨x, tv⟩ := e
      obtain ⟨p, rfl⟩ := Int.eq_ofNat_of_zero_le hpx.1
      have hp : p < 256 := by have := hpx.2; simp only [] at this; omega
      have hk0 : (0 : Int) ≤ (k : Int) := by omega
      have hk1 : (k : Int) < (n : Int) := by omega
      clear he hpx
      simp only [] at ce0 ce1
      conv in (Code.loop _) => change pkGrow
      conv in (Code.region 28 _ _) => change pkR28
      go_wp2_with fail
      obtain ⟨s1, hs1⟩ : ∃ s, s = layR i b (ow, va) (l.take k) := ⟨_, rfl⟩
      have HS1 : Hid (s1 = layR i b (ow, va) (l.take k)) := hs1
      obtain ⟨g1, g2, g3⟩ := layR_len i b (l.take k) (ow, va) HE.out (fun e he => HP.out e (List.mem_of_mem_take he))
      rw [← hs1] at g1 g2 g3 HL
      have HX0 : Hid (EdAt (wr.alloc (.cells #[.int .i64 (p : Int), .int .i64 tv] 60)) wr.heap.size p tv) := heap_alloc_last wr _
      have HL1 : Hid (LyAt w (wr.alloc (.cells #[.int .i64 (p : Int), .int .i64 tv] 60)) rb (lyQ bs s1.2 s1.1) ua uc) := HL.out.kept (World.grownBy_alloc _ _ none)
      have HG1 : Hid (s1.1.length = s1.2.length) := g1
      have hg3 : s1.1.length ≤ 67108864 := by have h1 := HB0.out; simp only [] at g3; omega
      clear hs1 g1 g2 g3 ce0 ce1 cr
      refine pk_grow HL1.out HX0.out HG1.out (by omega) hp hg3 ?_
      intro wz ub ud z77 z78 z79 z80 z81 z82 z83 z84 z85 z86 z87 z88 z89 z90 z91 z92 z93 z94 hLz hXz
      have HLZ : Hid (LyAt w wz rb (lyQ bs (pad 0 s1.2 (b + p + 1)) (pad (-1) s1.1 (b + p + 1))) ub ud) := hLz
      have HXZ : Hid (EdAt wz wr.heap.size p tv) := hXz
      obtain ⟨xb, hxb⟩ : ∃ v, v = wr.heap.size := ⟨_, rfl⟩
      obtain ⟨d0, d1, d2⟩ := hLz.cell
      obtain ⟨Q, hQ⟩ : ∃ Q, Q = lyQ bs (pad 0 s1.2 (b + p + 1)) (pad (-1) s1.1 (b + p + 1)) := ⟨_, rfl⟩
      have HQ : Hid (Q = lyQ bs (pad 0 s1.2 (b + p + 1)) (pad (-1) s1.1 (b + p + 1))) := hQ
      obtain ⟨q, hq⟩ : ∃ q, q = b + p := ⟨_, rfl⟩
      have HQQ : Hid (q = b + p) := hq
      obtain ⟨M, hM⟩ : ∃ M, M = (Q 2).length := ⟨_, rfl⟩
      have hM2 : M = max s1.1.length (b + p + 1) := by rw [hM, hQ]; exact pad_len _ _ _
      have hM1 : (Q 1).length = M := by rw [hM2, hQ, HG1.out]; exact pad_len _ _ _
      have HM1 : Hid ((Q 1).length = M) := hM1
      have HM : Hid (M = (Q 2).length) := hM
      have hwr : IntKind.i64.wrap ((b : Int) + (p : Int)) = (q : Int) := by rw [IntKind.wrap_i64, hq]; omega
      have hq0 : (0 : Int) ≤ (q : Int) := by omega
      have hqM : q < M := by omega
      have hq1 : (q : Int) < (M : Int) := by omega
      rw [← hQ] at d2 HLZ
      rw [← hM] at d2
      rw [← hxb] at HXZ ⊢
      obtain ⟨og, hog, o1, o2⟩ := HLZ.out.at (f := 2) (q := q) (by decide) (by rw [← hM]; exact hqM)
      have HOG : Hid (ub 2 = some ⟨og, 0, none⟩) := hog
      rw [hog] at d2
      have x0 : wz.cell? ⟨xb, 0, none⟩ = some (.int .i64 (p : Int)) := by rw [cell_of_row _ _ _ _ _ _ HXZ.out]; rfl
      clear hLz hXz d0 d1 hQ hq hM hM2 hM1 hog hxb HL1 HX0 HL
      go_wp2_with fail
      obtain ⟨Z, hZ⟩ : ∃ v, v = wz.setCell ⟨og, q, none⟩ (.int .i64 (i : Int)) := ⟨_, rfl⟩
      have hp0 := HLZ.out.put (f := 2) (q := q) (by decide) HOG.out (i : Int)
      have hp1 := HXZ.out.put (q := q) (v := (i : Int)) HLZ.out (f := 2) (by decide) HOG.out
      rw [← hZ] at hp0 hp1 ⊢
      obtain ⟨Q2, hQ2⟩ : ∃ f, f = upZ Q 2 ((Q 2).set q (i : Int)) := ⟨_, rfl⟩
      rw [← hQ2] at hp0
      have HQ2 : Hid (Q2 = upZ Q 2 ((Q 2).set q (i : Int))) := hQ2
      have HLP : Hid (LyAt w Z rb Q2 ub ud) := hp0
      have HXP : Hid (EdAt Z xb p tv) := hp1
      obtain ⟨d0, d1, d2'⟩ := hp0.cell
      have hl1 : (Q2 1).length = M := by rw [hQ2, upZ_other _ _ (by decide)]; exact HM1.out
      obtain ⟨vg, hvg, v1', v2'⟩ := hp0.at (f := 1) (q := q) (by decide) (by rw [hl1]; exact hqM)
      have HVG : Hid (ub 1 = some ⟨vg, 0, none⟩) := hvg
      rw [hvg, hl1] at d1
      have y0 : Z.cell? ⟨xb, 0, none⟩ = some (.int .i64 (p : Int)) := by rw [cell_of_row _ _ _ _ _ _ hp1]; rfl
      have y1 : Z.cell? ⟨xb, 1, none⟩ = some (.int .i64 tv) := by rw [cell_of_row _ _ _ _ _ _ hp1]; rfl
      conv => arg 2; whnf
      clear hZ hp0 hp1 hQ2 d0 d2' hl1 hvg x0 d2 o1 o2
      go_wp2_with fail
      go_roundg (n - (k + 1))
      case measure => have h1 := HGK.out; omega
      case rel =>
        have hp2 := HLP.out.put (f := 1) (q := q) (by decide) HVG.out tv
        refine ⟨k + 1, _, _, by omega, rfl, by go_num, hp2.ext fun j hj => ?_⟩
        rw [layR_snoc i b (ow, va) hkl, ← HS1.out, ← HEE.out]
        rw [HQ2.out, HQ.out, HQQ.out]
        match j, hj with
        | 0, _ => rfl
        | 1, _ => rfl
        | 2, _ => rfl
    · have hkd : decide ((k : Int) < (n : Int)) = false := decide_eq_false (by omega)
      have hkd' : decide (k < n) = false := decide_eq_false hkn
      have hkk : k = n := by omega
      subst hkk
      have HF : Hid (LyAt w wr rb (lyQ bs (layR i b (ow, va) l).2 (layR i b (ow, va) l).1) ua uc) := by
        have h := HL.out
        have e : l.take k = l := by rw [HNL.out, List.take_length]
        rw [e] at h
        exact h
      go_wp2_with fail
      exact HEX.out wr ua uc _ _ _ _ _ _ _ _ _ _ _ _ _ _ _ _ _ _ _ _ _ _ _ _ _ _ _ _ _ _ _ _ _ _ _ _ _ _ _ _ _ _ _ _ _ _ _ _ _ HF.out

end Go.Proofs.Ytgmljpkenipgjaa.J

/-
  pack: the document's Lay asks whether a base fits: a region as a declaration of its own (printed by tools/pk_r17.py).
-/
namespace Go.Proofs.Ytgmljpkenipgjaa.J
open Go.RowKit Go.Maps Go.Shelf Pk

attribute [local go_sem] Oper.semAt_some

noncomputable def pkR17 : Code := ((Try.f11.body.map (regionsJ 17)).getD []).getD 0 .skip

set_option maxRecDepth 100000 in
set_option maxHeartbeats 8000000 in
theorem pk_r17 {K : Act → World → Prop} {V : World} {rb ra ro N c k b on ln : Nat} {p1 p3 : Option Addr} {p2 p4 : Nat} {r : Bool}
    {v1 v2 v3 v4 v6 v9 v10 v11 v12 v13 v14 v15 v16 v17 v18 v19 v20 v21 v22 v23 v24 v25 v26 v27 v28 v29 v30 v31 v32 v33 v34 v35 v36 v37 v38 v39 v40 v41 v42 v43 v44 v45 v46 v47 v48 v49 v50 v51 v52 v53 v54 v55 v56 v57 v58 v59 v60 v61 v62 v63 v64 v65 v66 v67 v68 v69 v70 v71 v72 v73 v74 v75 v76 v77 v78 v79 v80 v81 v82 v83 v84 v85 v86 v87 v88 v89 v90 v91 v92 v93 v94 v95 v96 v97 v98 v99 v100 v101 v102 v103 v104 v105 v106 v107 v108 v109 v110 v111 v112 : Value}
    (c2 : V.cell? ⟨rb, 2, none⟩ = some (.slice p1 on p2)) (cr : V.cell? ⟨ra, ro + k, none⟩ = some (.slice p3 ln p4)) (hk1 : (k : Int) < (N : Int))
    (hF : ∀ X, V.grownBy X none → Calls Try.prog 31 #[.slice p1 on p2, .slice p3 ln p4, .int .i64 (b : Int)] X fun e y => e = .returned (.bool r) ∧ X.grownBy y none)
    (hfin : ∀ (w3 : World) (u49 u50 u51 u52 u53 u54 u55 u56 : Value), V.grownBy w3 none → K ⟨List.toArray (.slice (some ⟨ra, ro, none⟩) N c :: v1 :: v2 :: v3 :: v4 :: .pointer (some ⟨rb, 0, none⟩) :: v6 :: .int .i64 (k : Int) :: .int .i64 (b : Int) :: v9 :: v10 :: v11 :: v12 :: v13 :: v14 :: v15 :: v16 :: v17 :: v18 :: v19 :: v20 :: v21 :: v22 :: v23 :: v24 :: v25 :: v26 :: v27 :: v28 :: v29 :: v30 :: v31 :: v32 :: v33 :: v34 :: v35 :: v36 :: v37 :: v38 :: v39 :: v40 :: v41 :: v42 :: v43 :: v44 :: v45 :: v46 :: v47 :: v48 :: u49 :: u50 :: u51 :: u52 :: u53 :: u54 :: u55 :: u56 :: .bool (!r) :: v58 :: v59 :: v60 :: v61 :: v62 :: v63 :: v64 :: v65 :: v66 :: v67 :: v68 :: v69 :: v70 :: v71 :: v72 :: v73 :: v74 :: v75 :: v76 :: v77 :: v78 :: v79 :: v80 :: v81 :: v82 :: v83 :: v84 :: v85 :: v86 :: v87 :: v88 :: v89 :: v90 :: v91 :: v92 :: v93 :: v94 :: v95 :: v96 :: v97 :: v98 :: v99 :: v100 :: v101 :: v102 :: v103 :: v104 :: v105 :: v106 :: v107 :: v108 :: v109 :: v110 :: v111 :: v112 :: []), []⟩ w3) :
    Code.wp Try.prog pkR17 (OnEndJ K) ⟨List.toArray (.slice (some ⟨ra, ro, none⟩) N c :: v1 :: v2 :: v3 :: v4 :: .pointer (some ⟨rb, 0, none⟩) :: v6 :: .int .i64 (k : Int) :: .int .i64 (b : Int) :: v9 :: v10 :: v11 :: v12 :: v13 :: v14 :: v15 :: v16 :: v17 :: v18 :: v19 :: v20 :: v21 :: v22 :: v23 :: v24 :: v25 :: v26 :: v27 :: v28 :: v29 :: v30 :: v31 :: v32 :: v33 :: v34 :: v35 :: v36 :: v37 :: v38 :: v39 :: v40 :: v41 :: v42 :: v43 :: v44 :: v45 :: v46 :: v47 :: v48 :: v49 :: v50 :: v51 :: v52 :: v53 :: v54 :: v55 :: v56 :: v57 :: v58 :: v59 :: v60 :: v61 :: v62 :: v63 :: v64 :: v65 :: v66 :: v67 :: v68 :: v69 :: v70 :: v71 :: v72 :: v73 :: v74 :: v75 :: v76 :: v77 :: v78 :: v79 :: v80 :: v81 :: v82 :: v83 :: v84 :: v85 :: v86 :: v87 :: v88 :: v89 :: v90 :: v91 :: v92 :: v93 :: v94 :: v95 :: v96 :: v97 :: v98 :: v99 :: v100 :: v101 :: v102 :: v103 :: v104 :: v105 :: v106 :: v107 :: v108 :: v109 :: v110 :: v111 :: v112 :: []), []⟩ V := by
  have HF := show Hid _ from hF
  have HFIN := show Hid _ from hfin
  have hk0 : (0 : Int) ≤ (k : Int) := by omega
  have HUP : Hid (V.grownBy V.drew none) := grown_drewN V 1
  have HKS : Hid (∀ X, V.grownBy X none → X.cell? ⟨rb, 2, none⟩ = some (.slice p1 on p2) ∧ X.cell? ⟨ra, ro + k, none⟩ = some (.slice p3 ln p4)) := fun X hX => ⟨hX.cell c2 (by simp), hX.cell cr (by simp)⟩
  clear hF hfin
  conv => arg 2; whnf
  go_region_held3 (fun X => X.cell? ⟨rb, 2, none⟩ = some (.slice p1 on p2) ∧ X.cell? ⟨ra, ro + k, none⟩ = some (.slice p3 ln p4)) (first | exact HKS.out _ HUP.out | exact HKS.out _ HG4.out | go_keep)
    ((first
      | (go_at_call 31; refine Calls.mono (HF.out _ HUP.out) ?_; rintro e w3 ⟨rfl, hg3⟩; have HG4 : Hid (V.grownBy w3 none) := grown_trans HUP.out hg3; clear hg3)
      | fail))
  all_goals exact HFIN.out _ _ _ _ _ _ _ _ _ HG4.out

theorem pk_r17q {Q0 : Exit → Act → World → Prop} {V : World} {rb ra ro N c k b on ln : Nat} {p1 p3 : Option Addr} {p2 p4 : Nat} {r : Bool}
    {v1 v2 v3 v4 v6 v9 v10 v11 v12 v13 v14 v15 v16 v17 v18 v19 v20 v21 v22 v23 v24 v25 v26 v27 v28 v29 v30 v31 v32 v33 v34 v35 v36 v37 v38 v39 v40 v41 v42 v43 v44 v45 v46 v47 v48 v49 v50 v51 v52 v53 v54 v55 v56 v57 v58 v59 v60 v61 v62 v63 v64 v65 v66 v67 v68 v69 v70 v71 v72 v73 v74 v75 v76 v77 v78 v79 v80 v81 v82 v83 v84 v85 v86 v87 v88 v89 v90 v91 v92 v93 v94 v95 v96 v97 v98 v99 v100 v101 v102 v103 v104 v105 v106 v107 v108 v109 v110 v111 v112 : Value}
    (c2 : V.cell? ⟨rb, 2, none⟩ = some (.slice p1 on p2)) (cr : V.cell? ⟨ra, ro + k, none⟩ = some (.slice p3 ln p4)) (hk1 : (k : Int) < (N : Int))
    (hF : ∀ X, V.grownBy X none → Calls Try.prog 31 #[.slice p1 on p2, .slice p3 ln p4, .int .i64 (b : Int)] X fun e y => e = .returned (.bool r) ∧ X.grownBy y none)
    (hfin : ∀ (w3 : World) (u49 u50 u51 u52 u53 u54 u55 u56 : Value), V.grownBy w3 none → Q0 .normal ⟨List.toArray (.slice (some ⟨ra, ro, none⟩) N c :: v1 :: v2 :: v3 :: v4 :: .pointer (some ⟨rb, 0, none⟩) :: v6 :: .int .i64 (k : Int) :: .int .i64 (b : Int) :: v9 :: v10 :: v11 :: v12 :: v13 :: v14 :: v15 :: v16 :: v17 :: v18 :: v19 :: v20 :: v21 :: v22 :: v23 :: v24 :: v25 :: v26 :: v27 :: v28 :: v29 :: v30 :: v31 :: v32 :: v33 :: v34 :: v35 :: v36 :: v37 :: v38 :: v39 :: v40 :: v41 :: v42 :: v43 :: v44 :: v45 :: v46 :: v47 :: v48 :: u49 :: u50 :: u51 :: u52 :: u53 :: u54 :: u55 :: u56 :: .bool (!r) :: v58 :: v59 :: v60 :: v61 :: v62 :: v63 :: v64 :: v65 :: v66 :: v67 :: v68 :: v69 :: v70 :: v71 :: v72 :: v73 :: v74 :: v75 :: v76 :: v77 :: v78 :: v79 :: v80 :: v81 :: v82 :: v83 :: v84 :: v85 :: v86 :: v87 :: v88 :: v89 :: v90 :: v91 :: v92 :: v93 :: v94 :: v95 :: v96 :: v97 :: v98 :: v99 :: v100 :: v101 :: v102 :: v103 :: v104 :: v105 :: v106 :: v107 :: v108 :: v109 :: v110 :: v111 :: v112 :: []), []⟩ w3) :
    Code.wp Try.prog pkR17 Q0 ⟨List.toArray (.slice (some ⟨ra, ro, none⟩) N c :: v1 :: v2 :: v3 :: v4 :: .pointer (some ⟨rb, 0, none⟩) :: v6 :: .int .i64 (k : Int) :: .int .i64 (b : Int) :: v9 :: v10 :: v11 :: v12 :: v13 :: v14 :: v15 :: v16 :: v17 :: v18 :: v19 :: v20 :: v21 :: v22 :: v23 :: v24 :: v25 :: v26 :: v27 :: v28 :: v29 :: v30 :: v31 :: v32 :: v33 :: v34 :: v35 :: v36 :: v37 :: v38 :: v39 :: v40 :: v41 :: v42 :: v43 :: v44 :: v45 :: v46 :: v47 :: v48 :: v49 :: v50 :: v51 :: v52 :: v53 :: v54 :: v55 :: v56 :: v57 :: v58 :: v59 :: v60 :: v61 :: v62 :: v63 :: v64 :: v65 :: v66 :: v67 :: v68 :: v69 :: v70 :: v71 :: v72 :: v73 :: v74 :: v75 :: v76 :: v77 :: v78 :: v79 :: v80 :: v81 :: v82 :: v83 :: v84 :: v85 :: v86 :: v87 :: v88 :: v89 :: v90 :: v91 :: v92 :: v93 :: v94 :: v95 :: v96 :: v97 :: v98 :: v99 :: v100 :: v101 :: v102 :: v103 :: v104 :: v105 :: v106 :: v107 :: v108 :: v109 :: v110 :: v111 :: v112 :: []), []⟩ V :=
  wp_mono (pk_r17 (K := fun a w => Q0 .normal a w) c2 cr hk1 hF hfin) fun e a w h => by
    cases e <;> first | exact h | exact h.elim

end Go.Proofs.Ytgmljpkenipgjaa.J

/-
  pack: the document's Lay: the rows of n edges are laid: a loop as a declaration of its own (printed by tools/pk_i.py).
-/
namespace Go.Proofs.Ytgmljpkenipgjaa.J
open Go.RowKit Go.Maps Go.Shelf Pk

attribute [local go_sem] Oper.semAt_some

/-- What is laid, in its box. -/
def lyS (s : St) : Nat → List Int := lyQ s.bs s.va s.ow
noncomputable def pkI : Code := ((Try.f11.body.map loopsJ).getD []).getD 2 .skip

set_option maxRecDepth 100000 in
set_option maxHeartbeats 8000000 in
theorem pk_i {Q0 : Exit → Act → World → Prop} {w V : World} {aa : Option Addr} {rb ra ro N c n m : Nat} {R : Nat → List It} {la : Nat → Option Addr} {lc : Nat → Nat} {s : St} {ua0 : Nat → Option Addr} {uc0 : Nat → Nat}
    {v1 v2 v3 v4 v8 v9 v10 v11 v12 v13 v14 v15 v16 v17 v18 v19 v20 v21 v22 v23 v24 v25 v26 v27 v28 v29 v30 v31 v32 v33 v34 v35 v36 v37 v38 v39 v40 v41 v42 v43 v44 v45 v46 v47 v48 v49 v50 v51 v52 v53 v54 v55 v56 v57 v58 v59 v60 v61 v62 v63 v64 v65 v66 v67 v68 v69 v70 v71 v72 v73 v74 v75 v76 v77 v78 v79 v80 v81 v82 v83 v84 v85 v86 v87 v88 v89 v90 v91 v92 v93 v94 v95 v96 v97 v98 v99 v100 v101 v102 v103 v104 v105 v106 v107 v108 v109 v110 v111 v112 : Value}
    (haa : 0 < N → aa = some ⟨ra, ro, none⟩) (hL : LyAt w V rb (lyS s) ua0 uc0) (hs : StOK N m s) (hm : m + 256 ≤ 100000) (hN : N ≤ 256) (hn : n ≤ 256) (hP : ∀ i, i < N → ∀ e ∈ R i, 0 ≤ e.1 ∧ e.1 < 256) (hR : ∀ i, i < N → (R i).length ≤ 256)
    (hr : ∀ X, w.grownBy X none → ∀ i, i < N → X.cell? ⟨ra, ro + i, none⟩ = some (.slice (la i) (R i).length (lc i))) (hl : ∀ X, w.grownBy X none → ∀ i, i < N → ItsAt X (la i) (R i))
    (hexit : ∀ (wz : World) (ua : Nat → Option Addr) (uc : Nat → Nat) (u7 u8 u9 u10 u36 u37 u38 u39 u40 u41 u42 u43 u44 u45 u46 u47 u48 u49 u50 u51 u52 u53 u54 u55 u56 u57 u58 u59 u60 u61 u62 u63 u64 u65 u66 u67 u68 u69 u70 u71 u72 u73 u74 u75 u76 u77 u78 u79 u80 u81 u82 u83 u84 u85 u86 u87 u88 u89 u90 u91 u92 u93 u94 u95 u96 u97 u98 u99 u100 u101 u102 u103 u104 u105 u106 u107 u108 u109 u110 u111 : Value), LyAt w wz rb (lyS (layN R n s N)) ua uc → Q0 (.exit 4) ⟨List.toArray (.slice aa N c :: v1 :: v2 :: v3 :: v4 :: .pointer (some ⟨rb, 0, none⟩) :: .int .i64 (n : Int) :: u7 :: u8 :: u9 :: u10 :: v11 :: v12 :: v13 :: v14 :: v15 :: v16 :: v17 :: v18 :: v19 :: v20 :: v21 :: v22 :: v23 :: v24 :: v25 :: v26 :: v27 :: v28 :: v29 :: v30 :: v31 :: v32 :: v33 :: v34 :: v35 :: u36 :: u37 :: u38 :: u39 :: u40 :: u41 :: u42 :: u43 :: u44 :: u45 :: u46 :: u47 :: u48 :: u49 :: u50 :: u51 :: u52 :: u53 :: u54 :: u55 :: u56 :: u57 :: u58 :: u59 :: u60 :: u61 :: u62 :: u63 :: u64 :: u65 :: u66 :: u67 :: u68 :: u69 :: u70 :: u71 :: u72 :: u73 :: u74 :: u75 :: u76 :: u77 :: u78 :: u79 :: u80 :: u81 :: u82 :: u83 :: u84 :: u85 :: u86 :: u87 :: u88 :: u89 :: u90 :: u91 :: u92 :: u93 :: u94 :: u95 :: u96 :: u97 :: u98 :: u99 :: u100 :: u101 :: u102 :: u103 :: u104 :: u105 :: u106 :: u107 :: u108 :: u109 :: u110 :: u111 :: v112 :: []), []⟩ wz) :
    Code.wp Try.prog pkI Q0 ⟨List.toArray (.slice aa N c :: v1 :: v2 :: v3 :: v4 :: .pointer (some ⟨rb, 0, none⟩) :: .int .i64 (n : Int) :: .int .i64 0 :: v8 :: v9 :: v10 :: v11 :: v12 :: v13 :: v14 :: v15 :: v16 :: v17 :: v18 :: v19 :: v20 :: v21 :: v22 :: v23 :: v24 :: v25 :: v26 :: v27 :: v28 :: v29 :: v30 :: v31 :: v32 :: v33 :: v34 :: v35 :: v36 :: v37 :: v38 :: v39 :: v40 :: v41 :: v42 :: v43 :: v44 :: v45 :: v46 :: v47 :: v48 :: v49 :: v50 :: v51 :: v52 :: v53 :: v54 :: v55 :: v56 :: v57 :: v58 :: v59 :: v60 :: v61 :: v62 :: v63 :: v64 :: v65 :: v66 :: v67 :: v68 :: v69 :: v70 :: v71 :: v72 :: v73 :: v74 :: v75 :: v76 :: v77 :: v78 :: v79 :: v80 :: v81 :: v82 :: v83 :: v84 :: v85 :: v86 :: v87 :: v88 :: v89 :: v90 :: v91 :: v92 :: v93 :: v94 :: v95 :: v96 :: v97 :: v98 :: v99 :: v100 :: v101 :: v102 :: v103 :: v104 :: v105 :: v106 :: v107 :: v108 :: v109 :: v110 :: v111 :: v112 :: []), []⟩ V := by
  have HL0 : Hid (LyAt w V rb (lyS (layN R n s 0)) ua0 uc0) := hL
  have HAA : Hid (0 < N → aa = some ⟨ra, ro, none⟩) := haa
  have HS : Hid (∀ k, k ≤ N → StOK N (m + k) (layN R n s k)) := StOK.n hP hs
  have HEX := show Hid _ from hexit
  have HR := show Hid _ from hr
  have HLI := show Hid _ from hl
  have HP : Hid (∀ i, i < N → ∀ e ∈ R i, 0 ≤ e.1 ∧ e.1 < 256) := hP
  have HRL : Hid (∀ i, i < N → (R i).length ≤ 256) := hR
  clear hL hs hexit hr hl hP hR haa
  conv => arg 2; whnf
  go_loopg [7] N (fun gk v7 wr => ∃ (k : Nat) (ua : Nat → Option Addr) (uc : Nat → Nat), k ≤ N ∧ gk = N - k ∧ v7 = .int .i64 k ∧ LyAt w wr rb (lyS (layN R n s k)) ua uc)
  case atStart => exact ⟨0, ua0, uc0, Nat.zero_le _, rfl, rfl, HL0.out⟩
  case round =>
    clear HL0
    obtain ⟨k, ua, uc, hk, hgk, rfl, hL⟩ := hrel
    have HGK : Hid (gk = N - k) := hgk
    have HL := show Hid _ from hL
    clear hgk hL
    by_cases hkn : k < N
    · obtain rfl := HAA.out (by omega)
      have hkd : decide ((k : Int) < (N : Int)) = true := decide_eq_true (by omega)
      have hkd' : decide (k < N) = true := decide_eq_true hkn
      have hk0 : (0 : Int) ≤ (k : Int) := by omega
      have hk1 : (k : Int) < (N : Int) := by omega
      have cr := HR.out wr HL.out.grown k hkn
      obtain ⟨l, hl⟩ : ∃ l, l = R k := ⟨_, rfl⟩
      have HLE : Hid (l = R k) := hl
      obtain ⟨ln, hln⟩ : ∃ v, v = l.length := ⟨_, rfl⟩
      have HLN : Hid (ln = l.length) := hln
      have hl256 := HRL.out k hkn
      rw [← hl, ← hln] at cr hl256
      by_cases hne : ln = n
      · have e0 : ((ln : Int) != (n : Int)) = false := by rw [hne]; exact bne_self_eq_false _
        conv in (Code.loop (Code.seq (Code.seq (Code.region 21 _ _) _) _)) => change pkK
        clear hl hln
        go_wp2_with fail
        obtain ⟨st, hst⟩ : ∃ st, st = layN R n s k := ⟨_, rfl⟩
        have HST : Hid (st = layN R n s k) := hst
        have hok : StOK N (m + k) st := by rw [hst]; exact HS.out k (by omega)
        rw [← hst] at HL
        obtain ⟨on, hon⟩ : ∃ v, v = st.ow.length := ⟨_, rfl⟩
        have HON : Hid (on = st.ow.length) := hon
        have hob : on ≤ 25600000 := by
          have h1 := hok.2.2
          rw [← hon] at h1
          omega
        have HOK : Hid (StOK N (m + k) st) := hok
        have HPL : Hid (∀ e ∈ l, 0 ≤ e.1 ∧ e.1 < 256) := by show ∀ e ∈ l, _; rw [HLE.out]; exact HP.out k hkn
        have HGW : Hid (w.grownBy wr none) := HL.out.grown
        have HFIT : Hid (∀ X, wr.grownBy X none → ∀ b : Nat, b ≤ 25600000 → Calls Try.prog 31 #[.slice (ua 2) on (uc 2), .slice (la k) ln (lc k), .int .i64 (b : Int)] X fun e y => e = .returned (.bool (fitsB st.ow l b)) ∧ X.grownBy y none) := fun X hX b hb => by
          have h1 := rpFits_any (ua 2) (la k) (uc 2) (lc k) st.ow l b X ((HL.out.kept hX).rows.ints (j := 2) (by decide)) (by rw [HLE.out]; exact HLI.out X (grown_trans HGW.out hX) k hkn) HPL.out (by rw [← HLN.out]; omega) (by rw [← HON.out]; omega) (by omega)
          rw [← HON.out, ← HLN.out] at h1
          exact h1
        have HC2 : Hid (∀ X, wr.grownBy X none → X.cell? ⟨rb, 2, none⟩ = some (.slice (ua 2) on (uc 2)) ∧ X.cell? ⟨ra, ro + k, none⟩ = some (.slice (la k) ln (lc k))) := fun X hX => by
          refine ⟨?_, hX.cell cr (by simp)⟩
          rw [HON.out]
          exact (HL.out.kept hX).cell.2.2
        clear hst hok hon cr hkd hkd'
        generalize wr = W1 at *
        go_loopg [8] (on + 1) (fun gk v8 wr => ∃ (b : Nat), gk = on + 1 - b ∧ v8 = .int .i64 b ∧ (∀ c, c < b → ¬ Fits st.ow l c) ∧ W1.grownBy wr none)
        case atStart => exact ⟨0, rfl, rfl, fun c hc => absurd hc (Nat.not_lt_zero _), grown_refl _ _⟩
        case round =>
          obtain ⟨b, hgb, rfl, hfb, hgB⟩ := hrel
          have HGB := show Hid _ from hgb
          have HFB : Hid (∀ c, c < b → ¬ Fits st.ow l c) := hfb
          have HGB2 : Hid (W1.grownBy wr none) := hgB
          have hbo : b ≤ on := by rw [HON.out]; exact base_le hfb
          have HFI : Hid (∀ X, wr.grownBy X none → Calls Try.prog 31 #[.slice (ua 2) on (uc 2), .slice (la k) ln (lc k), .int .i64 (b : Int)] X fun e y => e = .returned (.bool (fitsB st.ow l b)) ∧ X.grownBy y none) := fun X hX => HFIT.out X (grown_trans HGB2.out hX) b (by omega)
          obtain ⟨r, hr⟩ : ∃ r, r = fitsB st.ow l b := ⟨_, rfl⟩
          have HRR : Hid (r = fitsB st.ow l b) := hr
          rw [← hr] at HFI
          obtain ⟨c2, cr⟩ := HC2.out wr hgB
          obtain ⟨p1, hp1⟩ : ∃ v, v = ua 2 := ⟨_, rfl⟩
          obtain ⟨p2, hp2⟩ : ∃ v, v = uc 2 := ⟨_, rfl⟩
          obtain ⟨p3, hp3⟩ : ∃ v, v = la k := ⟨_, rfl⟩
          obtain ⟨p4, hp4⟩ : ∃ v, v = lc k := ⟨_, rfl⟩
          rw [← hp1, ← hp2] at c2
          rw [← hp3, ← hp4] at cr
          rw [← hp1, ← hp2, ← hp3, ← hp4] at HFI
          clear hgb hfb hgB hr hp1 hp2 hp3 hp4
          conv in (Code.region 17 _ _) => change pkR17
          go_wp2_with fail
          refine pk_r17q c2 cr hk1 HFI.out ?_
          intro w3 z49 z50 z51 z52 z53 z54 z55 z56 hg3
          have HG5 : Hid (W1.grownBy w3 none) := grown_trans HGB2.out hg3
          clear c2 cr HFI hg3
          cases r with
          | false =>
            go_wp2_with fail
            go_roundg (on + 1 - (b + 1))
            case measure => have := HGB.out; omega
            case rel => exact ⟨b + 1, rfl, by go_num, baseOf_next HFB.out HRR.out.symm, HG5.out⟩
          | true =>
            have HBE : Hid (baseOf st.ow l = b) := baseOf_eq ((fitsB_iff _ _ _).1 HRR.out.symm) HFB.out
            have HL3 : Hid (LyAt w w3 rb (lyS st) ua uc) := HL.out.kept HG5.out
            obtain ⟨d0, d1, d2⟩ := HL3.out.cell
            have hbl : (lyS st 0).length = N := HOK.out.1
            obtain ⟨bg, hbg, o1, o2⟩ := HL3.out.at (f := 0) (q := k) (by decide) (by rw [hbl]; exact hkn)
            have HBG : Hid (ua 0 = some ⟨bg, 0, none⟩) := hbg
            rw [hbg, hbl] at d0
            clear hbl hbg d1 d2
            go_wp2_with fail
            have hp0 := HL3.out.put (f := 0) (q := k) (by decide) HBG.out (b : Int)
            obtain ⟨Z, hZ⟩ : ∃ v, v = w3.setCell ⟨bg, k, none⟩ (.int .i64 (b : Int)) := ⟨_, rfl⟩
            rw [← hZ] at hp0 ⊢
            have e8 : upZ (lyS st) 0 ((lyS st 0).set k (b : Int)) = lyQ (st.bs.set k (b : Int)) st.va st.ow := lyQ_0 _ _ _ _
            rw [e8] at hp0
            clear d0 o1 o2 hZ e8
            have hbo3 : b ≤ 25600000 := by omega
            have hon3 : st.ow.length ≤ 25600000 := by rw [← HON.out]; exact hob
            refine pk_k hp0 HOK.out.2.1 (by omega) (by omega) (hne.symm.trans HLN.out) HPL.out hn hkn (fun X hX => by rw [← hne, HLN.out, HLE.out]; exact HR.out X hX k hkn) (fun X hX => by rw [HLE.out]; exact HLI.out X hX k hkn) ?_
            intro wz ub ud y9 y10 y65 y66 y67 y68 y69 y70 y71 y72 y73 y74 y75 y76 y77 y78 y79 y80 y81 y82 y83 y84 y85 y86 y87 y88 y89 y90 y91 y92 y93 y94 y95 y96 y97 y98 y99 y100 y101 y102 y103 y104 y105 y106 y107 y108 y109 y110 y111 hLz
            have HLZ := show Hid _ from hLz
            clear hLz
            go_wp2_with fail
            go_roundg (N - (k + 1))
            case measure => have h1 := HGK.out; omega
            case rel =>
              refine ⟨k + 1, ub, ud, by omega, rfl, by go_num, ?_⟩
              have e9 : layN R n s (k + 1) = layRow st k l := by rw [HST.out, HLE.out]; exact layN_in R n s k (by rw [← HLE.out, ← HLN.out]; exact hne)
              rw [e9]
              have h7 := HLZ.out
              rw [← HBE.out] at h7
              exact h7
      · have e0 : ((ln : Int) != (n : Int)) = true := by rw [bne_iff_ne]; omega
        have hQ : layN R n s (k + 1) = layN R n s k := layN_out R n s k (by rw [← hl, ← hln]; exact hne)
        have HQ : Hid (layN R n s (k + 1) = layN R n s k) := hQ
        clear hl hln hQ
        go_wp2_with fail
        go_roundg (N - (k + 1))
        case measure => have h1 := HGK.out; omega
        case rel => exact ⟨k + 1, _, _, by omega, rfl, by go_num, by rw [HQ.out]; exact HL.out⟩
    · have hkd : decide ((k : Int) < (N : Int)) = false := decide_eq_false (by omega)
      have hkd' : decide (k < N) = false := decide_eq_false hkn
      have hkk : k = N := by omega
      subst hkk
      go_wp2_with fail
      exact HEX.out wr ua uc _ _ _ _ _ _ _ _ _ _ _ _ _ _ _ _ _ _ _ _ _ _ _ _ _ _ _ _ _ _ _ _ _ _ _ _ _ _ _ _ _ _ _ _ _ _ _ _ _ _ _ _ _ _ _ _ _ _ _ _ _ _ _ _ _ _ _ _ _ _ _ _ _ _ _ _ _ _ _ _ HL.out

end Go.Proofs.Ytgmljpkenipgjaa.J

/-
  pack: the document's Lay, whole.
-/
namespace Go.Proofs.Ytgmljpkenipgjaa.J
open Go.RowKit Go.Maps Go.Shelf Pk

attribute [local go_sem] Oper.semAt_some

noncomputable def pkR8 : Code := ((Try.f11.body.map (regionsJ 8)).getD []).getD 0 .skip
/-- Rows of edges in memory. -/
def RsAt (X : World) (a : Option Addr) (N : Nat) (R : Nat → List It) (la : Nat → Option Addr) (lc : Nat → Nat) : Prop := (N = 0 ∨ ∃ ra ro, a = some ⟨ra, ro, none⟩ ∧ ∀ i, i < N → X.cell? ⟨ra, ro + i, none⟩ = some (.slice (la i) (R i).length (lc i))) ∧ ∀ i, i < N → ItsAt X (la i) (R i)
theorem RsAt.kept {X Y : World} {a : Option Addr} {N : Nat} {R : Nat → List It} {la : Nat → Option Addr} {lc : Nat → Nat} (h : RsAt X a N R la lc) (hg : X.grownBy Y none) : RsAt Y a N R la lc := by
  refine ⟨?_, fun i hi => (h.2 i hi).kept hg⟩
  rcases h.1 with h | ⟨ra, ro, e, h1⟩
  · exact .inl h
  · exact .inr ⟨ra, ro, e, fun i hi => hg.cell (h1 i hi) (by simp)⟩
/-- May the rows be laid? -/
def MayLay (N : Nat) (R : Nat → List It) : Prop := N ≤ 256 ∧ ∀ i, i < N → IsRow (R i)
/-- What Lay tells. -/
def LayTold (N : Nat) (R : Nat → List It) (w : World) (e : Ending) (y : World) : Prop := (¬ MayLay N R ∧ e = .returned (.tuple #[.agg #[.slice none 0 0, .slice none 0 0, .slice none 0 0], .int .i64 1]) ∧ w.grownBy y none) ∨ (MayLay N R ∧ ∃ (ua : Nat → Option Addr) (uc : Nat → Nat), e = .returned (.tuple #[.agg #[.slice (ua 0) (lay R N).bs.length (uc 0), .slice (ua 1) (lay R N).va.length (uc 1), .slice (ua 2) (lay R N).ow.length (uc 2)], .int .i64 0]) ∧ TrZ y w.heap.size 3 (lyS (lay R N)) ua uc ∧ w.grownBy y none)

theorem results_lay (tmps : Array Value) (w : World) (g : Nat) (cs : Array Value) (v : Value) (h2 : tmps.getD 2 undef = .pointer (some ⟨g, 0, none⟩)) (h3 : tmps.getD 3 undef = v) (hg : w.heap[g]? = some (.cells cs 26 (0, 0))) (hs : cs.size = 3) :
    (results Try.f11 tmps).run Try.prog w = .ok (.tuple #[.agg cs, v]) w := by
  have h2' : tmps[2]?.getD undef = .pointer (some ⟨g, 0, none⟩) := by simpa using h2
  have h3' : tmps[3]?.getD undef = v := by simpa using h3
  have hl := run_loadVar_row (P := Try.prog) w g 26 26 cs (0, 0) _ hg Try.underlying26 rfl (by rw [hs]; kernel_rfl)
  simp [results, Try.results11, h2', h3', asAddr, hl]
theorem ly_set3 {y : World} {b : Nat} {a0 a1 a2 : Value} {t : TypeId} (h : y.heap[b]? = some (.cells #[a0, a1, a2] t (0, 0))) (u0 u1 u2 : Value) : (((y.setCell ⟨b, 0, none⟩ u0).setCell ⟨b, 1, none⟩ u1).setCell ⟨b, 2, none⟩ u2).heap[b]? = some (.cells #[u0, u1, u2] t (0, 0)) := by
  have h1 := heap_setCell_same _ _ 0 _ _ u0 h
  have h2 := heap_setCell_same _ _ 1 _ _ u1 h1
  have h3 := heap_setCell_same _ _ 2 _ _ u2 h2
  exact h3
theorem zs_owns {X : World} {B rb n : Nat} (h : ValAt X rb n 3 (fun _ => .int .i64 0)) (hB : B ≤ rb) (hn : n ≤ maxLen) : X.ownsRow B 3 1 (.slice (some ⟨rb, 0, none⟩) n n) n (zV (List.replicate n 0)) := by
  refine ⟨by rw [zV_length, List.length_replicate, Nat.mul_one], .inr ⟨rb, n, _, rfl, hB, h, Nat.le_refl _, hn, by simp, ?_⟩⟩
  rw [Nat.mul_one, List.take_of_length_le (by simp)]
  unfold zV
  rw [List.map_replicate]
  simp [List.map_const']
theorem ly_start {w V : World} {bb N : Nat} (hg : w.grownBy V none) (hr : V.heap[w.heap.size]? = some (.cells #[.slice none 0 0, .slice none 0 0, .slice none 0 0] 26 (0, 0))) (hb : ValAt V bb N 3 (fun _ => .int .i64 0)) (hlo : w.heap.size < bb) (hN : N ≤ 256) (R : Nat → List It) :
    LyAt w (V.alloc (.cells #[.slice (some ⟨bb, 0, none⟩) N N, .slice none 0 0, .slice none 0 0] 26)) V.heap.size (lyS (layD R N 0)) (fun j => if j = 0 then some ⟨bb, 0, none⟩ else none) (fun j => if j = 0 then N else 0) := by
  have ga := World.grownBy_alloc V (.cells #[.slice (some ⟨bb, 0, none⟩) N N, .slice none 0 0, .slice none 0 0] 26) none
  have hl : (List.replicate N (0 : Int)).length = N := List.length_replicate
  have h0 : lyS (layD R N 0) = lyQ (List.replicate N 0) [] [] := rfl
  refine ⟨grown_trans hg ga, box_kept hr ga, ?_, ⟨fun j hj => ?_, fun i j hi hj hne => ?_⟩, ?_⟩
  · have h1 := heap_alloc_last V (.cells #[.slice (some ⟨bb, 0, none⟩) N N, .slice none 0 0, .slice none 0 0] 26)
    have e : (lyS (layD R N 0) 0).length = N := hl
    rw [e]
    exact h1
  · match j, hj with
    | 0, _ =>
      have h1 := zs_owns hb (Nat.le_of_lt hlo) (by unfold maxLen; omega)
      have h2 := keep0 h1 ga
      have e : (lyS (layD R N 0) 0).length = N := hl
      rw [e]
      exact h2
    | 1, _ => exact World.ownsRow_nil _ _ _ _
    | 2, _ => exact World.ownsRow_nil _ _ _ _
  · match i, hi, j, hj with
    | 0, _, 0, _ => exact absurd rfl hne
    | 0, _, 1, _ => exact .inr (by simp [Value.ownBlock])
    | 0, _, 2, _ => exact .inr (by simp [Value.ownBlock])
    | 1, _, _, _ => exact .inl (by simp [Value.ownBlock])
    | 2, _, _, _ => exact .inl (by simp [Value.ownBlock])
  · have := hb.lt
    omega
theorem ly_rows {w X : World} {rb : Nat} {Q : Nat → List Int} {ua : Nat → Option Addr} {uc : Nat → Nat} (h : LyAt w X rb Q ua uc) (u0 u1 u2 : Value) : TrZ (((X.setCell ⟨w.heap.size, 0, none⟩ u0).setCell ⟨w.heap.size, 1, none⟩ u1).setCell ⟨w.heap.size, 2, none⟩ u2) w.heap.size 3 Q ua uc := by
  have h1 := heap_setCell_same _ _ 0 _ _ u0 h.res
  have h2 := heap_setCell_same _ _ 1 _ _ u1 h1
  exact ((h.rows.beside h.res (by decide) (grown_setCell _ _ _)).beside h1 (by decide) (grown_setCell _ _ _)).beside h2 (by decide) (grown_setCell _ _ _)
theorem ly_end {w y : World} (h : w.grownBy y none) : Hid (∀ u0 u1 u2, w.grownBy (((y.setCell ⟨w.heap.size, 0, none⟩ u0).setCell ⟨w.heap.size, 1, none⟩ u1).setCell ⟨w.heap.size, 2, none⟩ u2) none) := fun u0 u1 u2 => grown_new (grown_new (grown_new h (grown_setCell _ _ _) (by omega)) (grown_setCell _ _ _) (by omega)) (grown_setCell _ _ _) (by omega)
theorem layD_next (Q : Nat → List Ed) (N n : Nat) (h : n < 256) : layD Q N (256 - n) = layN Q (n + 1) (layD Q N (256 - (n + 1))) N := by
  have e : 256 - n = (256 - (n + 1)) + 1 := by omega
  have e2 : 256 - (256 - (n + 1)) = n + 1 := by omega
  rw [e]
  show layN Q (256 - (256 - (n + 1))) _ N = _
  rw [e2]

set_option maxRecDepth 100000 in
set_option maxHeartbeats 8000000 in
theorem rpLay_any (a : Option Addr) (N c : Nat) (R : Nat → List It) (la : Nat → Option Addr) (lc : Nat → Nat) (w : World) (hR : RsAt w a N R la lc) (hN : N ≤ 17592186044416) (hl : ∀ i, i < N → (R i).length ≤ 17592186044416) :
    Calls Try.prog 11 #[.slice a N c] w fun e y => LayTold N R w e y := by
  have HR : Hid (∀ X, w.grownBy X none → RsAt X a N R la lc) := fun X hX => hR.kept hX
  have HLL : Hid (∀ i, i < N → (R i).length ≤ 17592186044416) := hl
  clear hR hl
  obtain ⟨i0, hi0, hz0, hz1, hz2⟩ := info_parts infoIntP
  by_cases hb : 256 < N
  · have d0 : decide ((256 : Int) < (N : Int)) = true := decide_eq_true (by omega)
    have d0' : decide (256 < N) = true := decide_eq_true hb
    have HM : Hid (¬ MayLay N R) := fun h => by have := h.1; omega
    clear hb
    go_enter Try.func11, Try.ntmps11
    go_wp2_with fail
    exact ⟨rfl, _, results_lay _ _ w.heap.size _ _ rfl rfl (heap_alloc_last w _) rfl, .inl ⟨HM.out, rfl, World.grownBy_alloc _ _ none⟩⟩
  · have d0 : decide ((256 : Int) < (N : Int)) = false := decide_eq_false (by omega)
    have d0' : decide (256 < N) = false := decide_eq_false hb
    have hN2 : N ≤ 256 := by omega
    go_enter Try.func11, Try.ntmps11
    conv in (Code.region 8 _ _) => change pkR8
    go_wp2_with fail
    have HX0 : Hid ((w.alloc (.cells #[.slice none 0 0, .slice none 0 0, .slice none 0 0] 26)).heap[w.heap.size]? = some (.cells #[.slice none 0 0, .slice none 0 0, .slice none 0 0] 26 (0, 0))) := heap_alloc_last w _
    have HG0 : Hid (w.grownBy (w.alloc (.cells #[.slice none 0 0, .slice none 0 0, .slice none 0 0] 26)) none) := World.grownBy_alloc _ _ none
    go_loopg [4] N (fun gk v4 wr => ∃ (k : Nat), k ≤ N ∧ gk = N - k ∧ v4 = .int .i64 k ∧ (∀ i, i < k → IsRow (R i)) ∧ wr.heap[w.heap.size]? = some (.cells #[.slice none 0 0, .slice none 0 0, .slice none 0 0] 26 (0, 0)) ∧ w.grownBy wr none)
    case atStart => exact ⟨0, Nat.zero_le _, rfl, rfl, fun i hi => absurd hi (Nat.not_lt_zero _), HX0.out, HG0.out⟩
    case round =>
      clear HX0 HG0
      obtain ⟨k, hk, hgk, rfl, hrw, hx, hg⟩ := hrel
      have HGK : Hid (gk = N - k) := hgk
      have HRW : Hid (∀ i, i < k → IsRow (R i)) := hrw
      have HX : Hid (wr.heap[w.heap.size]? = some (.cells #[.slice none 0 0, .slice none 0 0, .slice none 0 0] 26 (0, 0))) := hx
      have HG : Hid (w.grownBy wr none) := hg
      clear hgk hrw hx hg
      by_cases hkn : k < N
      · have hkd : decide ((k : Int) < (N : Int)) = true := decide_eq_true (by omega)
        have hkd' : decide (k < N) = true := decide_eq_true hkn
        have hk0 : (0 : Int) ≤ (k : Int) := by omega
        have hk1 : (k : Int) < (N : Int) := by omega
        have hRw := HR.out wr HG.out
        obtain ⟨ra, ro, rfl, cr⟩ : ∃ ra ro, a = some ⟨ra, ro, none⟩ ∧ wr.cell? ⟨ra, ro + k, none⟩ = some (.slice (la k) (R k).length (lc k)) := by
          rcases hRw.1 with h | ⟨ra, ro, e, h⟩
          · omega
          · exact ⟨ra, ro, e, h k hkn⟩
        obtain ⟨r, hr⟩ : ∃ r : Bool, r = true ↔ IsRow (R k) := by
          by_cases h : IsRow (R k)
          · exact ⟨true, by simp [h]⟩
          · exact ⟨false, by simp [h]⟩
        have HRR : Hid (r = true ↔ IsRow (R k)) := hr
        have HC : Hid (Calls Try.prog 30 #[.slice (la k) (R k).length (lc k)] wr fun e y => e = .returned (.bool r) ∧ wr.grownBy y none) := rpIsRow_any (la k) (lc k) (R k) wr (hRw.2 k hkn) (HLL.out k hkn) r hr
        obtain ⟨ln, hln⟩ : ∃ v, v = (R k).length := ⟨_, rfl⟩
        rw [← hln] at cr HC
        clear hr hRw hln
        go_wp2_with fail
        refine Calls.mono HC.out ?_
        rintro e y ⟨rfl, hy⟩
        have HY : Hid (wr.grownBy y none) := hy
        have HXY : Hid (y.heap[w.heap.size]? = some (.cells #[.slice none 0 0, .slice none 0 0, .slice none 0 0] 26 (0, 0))) := box_kept HX.out hy
        clear hy HC cr
        cases r with
        | false =>
          have HM : Hid (¬ MayLay N R) := fun h => absurd (HRR.out.2 (h.2 k hkn)) (by decide)
          have r0 : y.cell? ⟨w.heap.size, 0, none⟩ = some (.slice none 0 0) := by rw [cell_of_row _ _ _ _ _ _ HXY.out]; rfl
          have r1 : y.cell? ⟨w.heap.size, 1, none⟩ = some (.slice none 0 0) := by rw [cell_of_row _ _ _ _ _ _ HXY.out]; rfl
          have r2 : y.cell? ⟨w.heap.size, 2, none⟩ = some (.slice none 0 0) := by rw [cell_of_row _ _ _ _ _ _ HXY.out]; rfl
          have rf0 : y.frozen? ⟨w.heap.size, 0, none⟩ = false := frozen_of_row _ _ _ _ _ HXY.out
          have rf1 : y.frozen? ⟨w.heap.size, 1, none⟩ = false := frozen_of_row _ _ _ _ _ HXY.out
          have rf2 : y.frozen? ⟨w.heap.size, 2, none⟩ = false := frozen_of_row _ _ _ _ _ HXY.out
          have HEND := ly_end (w := w) (grown_trans HG.out HY.out)
          go_wp2_with fail
          exact ⟨rfl, _, results_lay _ _ w.heap.size _ _ rfl rfl (ly_set3 HXY.out _ _ _) rfl, .inl ⟨HM.out, rfl, HEND.out _ _ _⟩⟩
        | true =>
          have hRk : IsRow (R k) := HRR.out.1 rfl
          have HRK : Hid (IsRow (R k)) := hRk
          clear hRk
          go_wp2_with fail
          go_roundg (N - (k + 1))
          case measure => have h1 := HGK.out; omega
          case rel => exact ⟨k + 1, by omega, rfl, by go_num, fun i hi => by
            by_cases e : i = k
            · rw [e]; exact HRK.out
            · exact HRW.out i (by omega), HXY.out, grown_trans HG.out HY.out⟩
      · have hkd : decide ((k : Int) < (N : Int)) = false := decide_eq_false (by omega)
        have hkd' : decide (k < N) = false := decide_eq_false hkn
        have hkk : k = N := by omega
        subst hkk
        have HMAY : Hid (MayLay k R) := ⟨hN2, HRW.out⟩
        generalize wr = W1 at *
        go_wp2_with fail
        conv => arg 2; whnf
        go_wp2_with (at_make; refine wpList_make_full _ rfl _ _ 24 rfl W1.heap.size 3 i0 (.int .i64 0) 1 Try.underlying24 hi0 hz0 hz1 .i64 .i64 _ _ k rfl rfl (by simp) (by simp) (by rw [hz2]; omega) (by unfold maxLen; omega) (by simp) ?_)
        intro w3 hown hgrow
        have hval : ValAt w3 W1.heap.size k 3 (fun _ => .int .i64 0) := made_rowK (B := W1.heap.size) rfl (by simpa [Value.cells] using hown)
        have hW1 : w.heap.size < W1.heap.size := (Array.getElem?_eq_some_iff.1 HX.out).1
        have HLS : Hid (LyAt w (w3.alloc (.cells #[.slice (some ⟨W1.heap.size, 0, none⟩) k k, .slice none 0 0, .slice none 0 0] 26)) w3.heap.size (lyS (layD R k 0)) (fun j => if j = 0 then some ⟨W1.heap.size, 0, none⟩ else none) (fun j => if j = 0 then k else 0)) := ly_start (grown_trans HG.out hgrow) (box_kept HX.out hgrow) hval hW1 hN2 R
        clear hown hgrow hval
        go_wp2_with fail
        have hRA : ∃ ra ro, (0 < k → a = some ⟨ra, ro, none⟩) ∧ ∀ X, w.grownBy X none → ∀ i, i < k → X.cell? ⟨ra, ro + i, none⟩ = some (.slice (la i) (R i).length (lc i)) := by
          rcases (HR.out w (grown_refl _ _)).1 with h | ⟨ra, ro, e, h⟩
          · exact ⟨0, 0, fun h2 => by omega, fun X _ i hi => by omega⟩
          · exact ⟨ra, ro, fun _ => e, fun X hX i hi => hX.cell (h i hi) (by simp)⟩
        obtain ⟨ra, ro, hra, hrr⟩ := hRA
        have HRA : Hid (0 < k → a = some ⟨ra, ro, none⟩) := hra
        have HRR : Hid (∀ X, w.grownBy X none → ∀ i, i < k → X.cell? ⟨ra, ro + i, none⟩ = some (.slice (la i) (R i).length (lc i))) := hrr
        obtain ⟨rb, hrb⟩ : ∃ v, v = w3.heap.size := ⟨_, rfl⟩
        rw [← hrb] at HLS ⊢
        clear hra hrr hrb HG HX HRW HGK hW1
        go_loopg [6] 256 (fun gk v6 wr => ∃ (n : Nat) (ua : Nat → Option Addr) (uc : Nat → Nat), n ≤ 256 ∧ gk = n ∧ v6 = .int .i64 (n : Int) ∧ LyAt w wr rb (lyS (layD R k (256 - n))) ua uc)
        case atStart => exact ⟨256, _, _, Nat.le_refl _, rfl, rfl, HLS.out⟩
        case round =>
          clear HLS
          obtain ⟨n, ua, uc, hn, hgn, rfl, hL⟩ := hrel
          have HL := show Hid _ from hL
          have HGN : Hid (gk = n) := hgn
          clear hL hgn
          by_cases h0 : 0 < n
          · obtain ⟨n', rfl⟩ : ∃ n', n = n' + 1 := ⟨n - 1, by omega⟩
            have e0 : decide ((0 : Int) < ((n' + 1 : Nat) : Int)) = true := decide_eq_true (by omega)
            have e0' : decide (0 < n' + 1) = true := decide_eq_true h0
            have hP : ∀ i, i < k → ∀ e ∈ R i, 0 ≤ e.1 ∧ e.1 < 256 := fun i hi => (HMAY.out.2 i hi).2.1
            have HP : Hid (∀ i, i < k → ∀ e ∈ R i, 0 ≤ e.1 ∧ e.1 < 256) := hP
            have HSO : Hid (StOK k ((256 - (n' + 1)) * k) (layD R k (256 - (n' + 1)))) := StOK.d hP _
            have hmm : (256 - (n' + 1)) * k ≤ 65536 := Nat.le_trans (Nat.mul_le_mul (by omega : 256 - (n' + 1) ≤ 256) hN2) (by decide)
            obtain ⟨n, hnn⟩ : ∃ n, n = n' + 1 := ⟨_, rfl⟩
            have HNN : Hid (n = n' + 1) := hnn
            have hw1 : IntKind.i64.wrap ((n : Int) - 1) = (n' : Int) := by rw [IntKind.wrap_i64]; omega
            rw [← hnn] at HL HSO e0 e0' hmm hn ⊢
            conv in (Code.loop _) => change pkI
            clear hP hnn
            go_wp2_with fail
            refine pk_i HRA.out HL.out HSO.out (by omega) hN2 hn HP.out (fun i hi => (HMAY.out.2 i hi).1) HRR.out (fun X hX i hi => (HR.out X hX).2 i hi) ?_
            intro wz ub ud y7 y8 y9 y10 y36 y37 y38 y39 y40 y41 y42 y43 y44 y45 y46 y47 y48 y49 y50 y51 y52 y53 y54 y55 y56 y57 y58 y59 y60 y61 y62 y63 y64 y65 y66 y67 y68 y69 y70 y71 y72 y73 y74 y75 y76 y77 y78 y79 y80 y81 y82 y83 y84 y85 y86 y87 y88 y89 y90 y91 y92 y93 y94 y95 y96 y97 y98 y99 y100 y101 y102 y103 y104 y105 y106 y107 y108 y109 y110 y111 hLz
            have HLZ := show Hid _ from hLz
            clear hLz
            go_wp2_with fail
            go_roundg n'
            case measure => have h1 := HGN.out; have h2 := HNN.out; omega
            case rel =>
              have hn2 := HNN.out
              refine ⟨n', ub, ud, by omega, rfl, by go_num, ?_⟩
              rw [layD_next R k n' (by omega), ← hn2]
              exact HLZ.out
          · have hn0 : n = 0 := by omega
            subst hn0
            have e0 : decide ((0 : Int) < ((0 : Nat) : Int)) = false := rfl
            obtain ⟨d0, d1, d2⟩ := HL.out.cell
            have hres := HL.out.res
            have r0 : wr.cell? ⟨w.heap.size, 0, none⟩ = some (.slice none 0 0) := by rw [cell_of_row _ _ _ _ _ _ hres]; rfl
            have r1 : wr.cell? ⟨w.heap.size, 1, none⟩ = some (.slice none 0 0) := by rw [cell_of_row _ _ _ _ _ _ hres]; rfl
            have r2 : wr.cell? ⟨w.heap.size, 2, none⟩ = some (.slice none 0 0) := by rw [cell_of_row _ _ _ _ _ _ hres]; rfl
            have rf0 : wr.frozen? ⟨w.heap.size, 0, none⟩ = false := frozen_of_row _ _ _ _ _ hres
            have rf1 : wr.frozen? ⟨w.heap.size, 1, none⟩ = false := frozen_of_row _ _ _ _ _ hres
            have rf2 : wr.frozen? ⟨w.heap.size, 2, none⟩ = false := frozen_of_row _ _ _ _ _ hres
            have HRES := show Hid _ from hres
            have HEND := ly_end (w := w) HL.out.grown
            clear hres h0
            go_wp2_with fail
            exact ⟨rfl, _, results_lay _ _ w.heap.size _ _ rfl rfl (ly_set3 HRES.out _ _ _) rfl, .inr ⟨HMAY.out, ua, uc, rfl, ly_rows HL.out _ _ _, HEND.out _ _ _⟩⟩

end Go.Proofs.Ytgmljpkenipgjaa.J

/-
  pack: the numbers of rows, those with more edges first.
-/
namespace Go.Proofs.Ytgmljpkenipgjaa.J
open Go.RowKit Go.Maps Go.Shelf Go.Sort Pk

attribute [local go_sem] Oper.semAt_some

set_option maxRecDepth 100000 in
theorem byCmp_any (xb ra ro N c x y : Nat) (R : Nat → List It) (la : Nat → Option Addr) (lc : Nat → Nat) (X : World) (hb : X.cell? ⟨xb, 0, none⟩ = some (.slice (some ⟨ra, ro, none⟩) N c)) (hx : X.cell? ⟨ra, ro + x, none⟩ = some (.slice (la x) (R x).length (lc x))) (hy : X.cell? ⟨ra, ro + y, none⟩ = some (.slice (la y) (R y).length (lc y))) (hxN : x < N) (hyN : y < N) :
    Calls Try.prog 54 #[.int .i64 (x : Int), .int .i64 (y : Int), .pointer (some ⟨xb, 0, none⟩)] X fun e z => e = .returned (.int .i64 (cmp3 ((R y).length : Nat) ((R x).length : Nat))) ∧ ∃ q, z = X.drewN q := by
  have mixed : Try.prog.follows .mixedOrders = true := by kernel_rfl
  have j1 : (x : Int) < (N : Int) := by omega
  have j2 : (y : Int) < (N : Int) := by omega
  obtain ⟨lx, hlx⟩ : ∃ v, v = (R x).length := ⟨_, rfl⟩
  obtain ⟨ly, hly⟩ : ∃ v, v = (R y).length := ⟨_, rfl⟩
  rw [← hlx] at hx ⊢
  rw [← hly] at hy ⊢
  have HC : Hid (∀ n, Calls Try.prog 55 #[.int .i64 (ly : Int), .int .i64 (lx : Int)] (X.drewN n) fun e z => e = .returned (.int .i64 (cmp3 (ly : Nat) (lx : Nat))) ∧ ∃ q, z = (X.drewN n).drewN q) := fun n => (compare_any _ _ _).mono fun e z ⟨h1, h2⟩ => ⟨h1, 0, by rw [h2]; rfl⟩
  clear hlx hly hxN hyN
  go_enter Try.func54, Try.ntmps54
  go_wp2_with fail
  go_quiet_o (first | (go_at_call 55; refine Calls.quiet_of (HC.out _)))
  go_wp2_with fail
  go_ret
  exact ⟨rfl, nq, rfl⟩

theorem grownBy_sortedN {w : World} {g n : Nat} {os : Array Obj} (enc : Nat → Value) (d : Array Nat) : w.grownBy (grow (putRow enc (Sort.ahead w n) g 0 d) os) (some g) := by
  refine ⟨rfl, rfl, rfl, by simp, fun k hk hne => ?_⟩
  rw [heap_grow_old _ _ (by simpa using hk)]
  have : g ≠ k := fun e => hne (by rw [e])
  simp [putRow, mapBlock, Sort.ahead, Array.getElem?_modify, this]

/-- How a number of a row is told. -/
def encR (N : Nat) (n : Nat) : Value := .int .i64 (clN N n : Nat)
theorem encR_one (N : Nat) : OneCell (encR N) := fun _ => rfl

theorem clN_in {N n : Nat} (h : n < N) : encR N n = .int .i64 (n : Int) := by unfold encR; rw [clN_at h]
theorem holds_range {w : World} {nb N : Nat} (h : ValAt w nb N 3 (fun i => .int .i64 (i : Int))) : Holds (encR N) w nb 0 (Array.range N) := by
  intro i hi
  have hi' : i < N := by simpa using hi
  refine ⟨?_, h.free _⟩
  rw [range_get hi', Nat.zero_add, h.cell i hi', clN_in hi']
theorem sorted_val {w y : World} {nb N q : Nat} {d : Array Nat} {c : Nat → Value} (h : ValAt w nb N 3 c) (hs : d.size = N) (hd : ∀ i, i < N → d[i]! < N) (hy : y = (putRow (encR N) w nb 0 d).drewN q) : ValAt y nb N 3 (fun i => .int .i64 (d[i]! : Nat)) ∧ w.grownBy y (some nb) := by
  have e : y = grow (putRow (encR N) (Sort.ahead w q) nb 0 d) #[] := by rw [hy, grow_empty]; rfl
  refine ⟨?_, by rw [e]; exact grownBy_sortedN _ _⟩
  have hg : nb < w.heap.size := h.lt
  unfold ValAt at h ⊢
  rw [e, heap_grow_old _ _ (by simpa using hg)]
  have : (putRow (encR N) (Sort.ahead w q) nb 0 d).heap[nb]? = some (.cells (putCells (encR N) 0 d ((List.range N).map c).toArray) 3 (0, 0)) := by
    simp [putRow, mapBlock, Sort.ahead, Array.getElem?_modify, h, onCells]
  rw [this]
  congr 2
  apply Array.ext_getElem?
  intro i
  by_cases hi : i < N
  · have := clN_in (hd i hi)
    have e2 : d[i]! = d[i]'(by omega) := getElem!_pos _ _ _
    simp only [e2] at this
    simp [putCells, hi, hs, this]
  · simp [putCells, hi, hs]

/-- What byEdges tells. -/
def ByTold (N : Nat) (R : Nat → List It) (w : World) (e : Ending) (y : World) : Prop := ∃ nb, e = .returned (.slice (some ⟨nb, 0, none⟩) N N) ∧ w.heap.size ≤ nb ∧ ValAt y nb N 3 (fun i => .int .i64 ((ordA R N).getD i 0 : Nat)) ∧ w.grownBy y none

set_option maxRecDepth 100000 in
set_option maxHeartbeats 2000000 in
theorem byEdges_any (a : Option Addr) (N c : Nat) (R : Nat → List It) (la : Nat → Option Addr) (lc : Nat → Nat) (w : World) (hR : RsAt w a N R la lc) (hN : N ≤ 256) (hQ : ∀ i, i < N → (R i).length ≤ 256) :
    Calls Try.prog 41 #[.slice a N c] w fun e y => ByTold N R w e y := by
  obtain ⟨i0, hi0, hz0, hz1, hz2⟩ := info_parts infoIntP
  have HR : Hid (∀ X, w.grownBy X none → RsAt X a N R la lc) := fun X hX => hR.kept hX
  have HQ : Hid (∀ i, i < N → (R i).length ≤ 256) := hQ
  have hsz : (w.alloc (.cells #[.slice a N c] 22)).heap.size = w.heap.size + 1 := by simp
  have HX0 : Hid ((w.alloc (.cells #[.slice a N c] 22)).heap[w.heap.size]? = some (.cells #[.slice a N c] 22 (0, 0))) := heap_alloc_last w _
  have HG0 : Hid (w.grownBy (w.alloc (.cells #[.slice a N c] 22)) none) := World.grownBy_alloc _ _ none
  have HX1 := HX0.out
  have p0 : (w.alloc (.cells #[.slice a N c] 22)).cell? ⟨w.heap.size, 0, none⟩ = some (.slice a N c) := by rw [cell_of_row _ _ _ _ _ _ HX1]; rfl
  clear hR hQ HX1
  go_enter Try.func41, Try.ntmps41
  go_wp2_with (at_make; refine wpList_make_full _ rfl _ _ 24 rfl (w.alloc (.cells #[.slice a N c] 22)).heap.size 3 i0 (.int .i64 0) 1 Try.underlying24 hi0 hz0 hz1 .i64 .i64 _ _ N rfl rfl (by simp) (by simp) (by rw [hz2]; omega) (by unfold maxLen; omega) (by simp) ?_)
  intro w3 hown hgrow
  obtain ⟨nb, hnb⟩ : ∃ v, v = w.heap.size + 1 := ⟨_, rfl⟩
  rw [← hnb] at hown ⊢
  have hval : ValAt w3 nb N 3 (fun _ => .int .i64 0) := made_rowK (B := nb) rfl (by simpa [Value.cells, hnb] using hown)
  have HV : Hid (ValAt w3 nb N 3 (fun _ => .int .i64 0)) := hval
  have HX : Hid (w3.heap[w.heap.size]? = some (.cells #[.slice a N c] 22 (0, 0))) := box_kept HX0.out hgrow
  have HG : Hid (w.grownBy w3 none) := grown_trans HG0.out hgrow
  have HNB : Hid (nb = w.heap.size + 1) := hnb
  have p1 : w3.cell? ⟨w.heap.size, 0, none⟩ = some (.slice a N c) := hgrow.cell p0 (by simp)
  clear hval hown hgrow hsz HX0 HG0 p0 hnb
  go_wp2_with fail
  clear p1
  go_loopg [10] N (fun gk v wr => ∃ k : Nat, k ≤ N ∧ gk = N - k ∧ v = .int .i64 k ∧ ValAt wr nb N 3 (fun i => .int .i64 (if i < k then (i : Int) else 0)) ∧ wr.heap[w.heap.size]? = some (.cells #[.slice a N c] 22 (0, 0)) ∧ w.grownBy wr none)
  case atStart => exact ⟨0, Nat.zero_le _, rfl, rfl, HV.out.ext fun i _ => by simp, HX.out, HG.out⟩
  case round =>
    clear HV HX HG
    obtain ⟨k, hk, hgk, rfl, hv, hx, hg⟩ := hrel
    have HV : Hid (ValAt wr nb N 3 (fun i => .int .i64 (if i < k then (i : Int) else 0))) := hv
    have HX := show Hid _ from hx
    have HG := show Hid _ from hg
    by_cases hkn : k < N
    · have hkd : (k : Int) < (N : Int) := by omega
      have hk0 : (0 : Int) ≤ (k : Int) := by omega
      obtain ⟨z, hz⟩ : ∃ z, wr.cell? ⟨nb, k, none⟩ = some z := ⟨_, hv.cell k hkn⟩
      have hf := hv.free k
      clear hv hx hg
      go_wp2_with fail
      go_roundg (N - (k + 1))
      case measure => omega
      case rel =>
        have hnb := HNB.out
        refine ⟨k + 1, by omega, rfl, by go_num, ValAt.ext (ValAt.set HV.out k _) fun i hi => ?_, ?_, ?_⟩
        · unfold put
          by_cases e : i = k
          · subst e; simp
          · by_cases h : i < k
            · simp [e, h, show i < k + 1 by omega]
            · simp [e, h, show ¬ i < k + 1 by omega]
        · rw [heap_setCell_other _ _ _ _ (by show w.heap.size ≠ nb; omega)]
          exact HX.out
        · exact grown_new HG.out (grown_setCell _ _ _) (by omega)
    · have hkd : ¬ (k : Int) < (N : Int) := by omega
      have hkk : k = N := by omega
      subst hkk
      have HVV : Hid (ValAt wr nb k 3 (fun i => .int .i64 (i : Int))) := hv.ext fun i hi => by simp [hi]
      clear hv hx hg hgk
      have hnb := HNB.out
      have HS : Hid (Calls Try.prog 53 #[.slice (some ⟨nb, 0, none⟩) k k, .func (.func 54) #[] #[.pointer (some ⟨w.heap.size, 0, none⟩)]] wr fun e y => e = .returned (.tuple #[]) ∧ ValAt y nb k 3 (fun i => .int .i64 ((ordA R k).getD i 0 : Nat)) ∧ wr.grownBy y (some nb)) := by
        have hRw := HR.out wr HG.out
        by_cases h0 : k = 0
        · subst h0
          refine (sortStable_zero _ _ _ wr).mono ?_
          rintro e y ⟨rfl, rfl⟩
          exact ⟨rfl, HVV.out.ext fun i hi => absurd hi (by omega), grown_refl _ _⟩
        · obtain ⟨ra, ro, rfl, cr⟩ : ∃ ra ro, a = some ⟨ra, ro, none⟩ ∧ ∀ i, i < k → wr.cell? ⟨ra, ro + i, none⟩ = some (.slice (la i) (R i).length (lc i)) := by
            rcases hRw.1 with h | h
            · exact absurd h h0
            · exact h
          have eg : ∀ args w, (callFunc 54 args).run Try.prog w = .ok (.enter 54 args) w := enters_of Try.func54 (by kernel_rfl) rfl
          have hrane : ra ≠ nb := fun h => by
            have h1 := (HR.out w (grown_refl _ _)).1
            rcases h1 with h1 | ⟨ra', ro', e, h2⟩
            · exact h0 h1
            · simp only [Option.some.injEq, Addr.mk.injEq, and_true] at e
              have h3 := h2 0 (by omega)
              have : ra' < w.heap.size := World.block_lt_of_cell? _ _ h3
              omega
          have hcr : CmpReads Try.prog 54 #[.pointer (some ⟨w.heap.size, 0, none⟩)] (encR k) (cfE R k) nb 0 k wr := fun m os dk hdk x y => by
            have hgx : wr.grownBy (sortWorld (encR k) wr nb 0 m dk os) (some nb) := grownBy_sortedN _ _
            have hb : (sortWorld (encR k) wr nb 0 m dk os).cell? ⟨w.heap.size, 0, none⟩ = some (.slice (some ⟨ra, ro, none⟩) k c) := by
              refine hgx.cell (by rw [cell_of_row _ _ _ _ _ _ HX.out]; rfl) ?_
              simp; omega
            refine byCmp_any w.heap.size ra ro k c (clN k x) (clN k y) R la lc _ hb (hgx.cell (cr _ (clN_lt x (by omega))) ?_) (hgx.cell (cr _ (clN_lt y (by omega))) ?_) (clN_lt x (by omega)) (clN_lt y (by omega))
            · simpa using hrane
            · simpa using hrane
          have hc := sortStable_any (encR k) (encR_one k) (cfE R k) (cfE_swo R k) 54 #[.pointer (some ⟨w.heap.size, 0, none⟩)] eg wr nb 0 k k (Array.range k) hcr (holds_range HVV.out) (by simp) (by omega) (range_stb _ _)
          refine hc.mono ?_
          rintro e y ⟨rfl, d', hm, q', hy⟩
          have ho := sorted_ord R k d' HQ.out hm
          have hds : d'.size = k := by rw [hm.perm.1]; simp
          have hin : ∀ i, i < k → d'[i]! = (ordA R k).getD i 0 := fun i hi => by
            rw [← ho, getElem!_pos _ _ (by omega)]
            simp [List.getD_eq_getElem?_getD, show i < d'.size by omega]
          have hlt : ∀ i, i < k → d'[i]! < k := fun i hi => by
            have : d'[i]! ∈ ordA R k := by
              rw [← ho, getElem!_pos _ _ (by omega)]
              simp
            exact (ordA_mem R k _ HQ.out).1 this
          obtain ⟨v1, v2⟩ := sorted_val HVV.out hds hlt hy
          exact ⟨rfl, v1.ext fun i hi => by rw [hin i hi], v2⟩
      clear hnb
      go_wp2_with fail
      refine Calls.mono HS.out ?_
      rintro e y ⟨rfl, hv, hg⟩
      have HE : Hid (ByTold k R w (.returned (.slice (some ⟨nb, 0, none⟩) k k)) y) := ⟨nb, rfl, by have := HNB.out; omega, hv, grown_new HG.out hg (by have := HNB.out; omega)⟩
      clear hv hg
      go_wp2_with fail
      go_ret
      exact HE.out

end Go.Proofs.Ytgmljpkenipgjaa.J

/-
  pack: the program's isFree.
-/
namespace Go.Proofs.Ytgmljpkenipgjaa.J
open Go.RowKit Go.Maps Go.Shelf Go.Sort Pk

attribute [local go_sem] Oper.semAt_some

set_option maxRecDepth 100000 in
set_option maxHeartbeats 2000000 in
theorem isFree_any (v0 v1 : Value) (oa a : Option Addr) (oc c : Nat) (ow : List Int) (l : List It) (b : Nat) (w : World) (ho : IntsAt w oa ow) (hge : ∀ x ∈ ow, -1 ≤ x) (hl : ItsAt w a l) (hP : ∀ e ∈ l, 0 ≤ e.1 ∧ e.1 < 256) (hlen : l.length ≤ 17592186044416) (hol : ow.length ≤ 17592186044416) (hb : b ≤ 17592186044416) :
    Calls Try.prog 56 #[.agg #[v0, v1, .slice oa ow.length oc], .int .i64 (b : Int), .slice a l.length c] w fun e y => e = .returned (.bool (fitsB ow l b)) ∧ w.grownBy y none := by
  obtain ⟨n, hn⟩ : ∃ v, v = l.length := ⟨_, rfl⟩
  obtain ⟨m, hm⟩ : ∃ v, v = ow.length := ⟨_, rfl⟩
  have HN : Hid (n = l.length) := hn
  have HM : Hid (m = ow.length) := hm
  have HL : Hid (∀ X, w.grownBy X none → ItsAt X a l) := fun X hX => hl.kept hX
  have HO : Hid (∀ X, w.grownBy X none → IntsAt X oa ow) := fun X hX => ho.kept hX
  have HP : Hid (∀ e ∈ l, 0 ≤ e.1 ∧ e.1 < 256) := hP
  have HGE : Hid (∀ x ∈ ow, -1 ≤ x) := hge
  have HB : Hid (b ≤ 17592186044416 ∧ m ≤ 17592186044416) := ⟨hb, by omega⟩
  obtain ⟨r, hr⟩ : ∃ v, v = fitsB ow l b := ⟨_, rfl⟩
  have HR : Hid (r = fitsB ow l b) := hr
  rw [← hn] at hlen ⊢
  rw [← hm, ← hr]
  obtain ⟨X0, hX0⟩ : ∃ X, X = w.alloc (.cells #[v0, v1, .slice oa m oc] 26) := ⟨_, rfl⟩
  have HX0 : Hid (X0.heap[w.heap.size]? = some (.cells #[v0, v1, .slice oa m oc] 26 (0, 0))) := by show _ = _; rw [hX0]; exact heap_alloc_last w _
  have HG0 : Hid (w.grownBy X0 none) := by show w.grownBy X0 none; rw [hX0]; exact World.grownBy_alloc _ _ none
  obtain ⟨xb, hxb⟩ : ∃ v, v = w.heap.size := ⟨_, rfl⟩
  rw [← hxb] at HX0
  clear hn hl hm ho hP hr hb hol hge
  go_enter Try.func56, Try.ntmps56
  go_wp2_with fail
  rw [← hxb, ← hX0]
  clear hxb hX0
  go_loopg [12] n (fun gk v4 wr => ∃ (j : Nat), j ≤ n ∧ gk = n - j ∧ v4 = .int .i64 j ∧ fitsB ow (l.take j) b = true ∧ X0.grownBy wr none)
  case atStart => exact ⟨0, Nat.zero_le _, rfl, rfl, by simp [fitsB], grown_refl _ _⟩
  case round =>
    obtain ⟨j, hj, hgj, rfl, hrt, hg⟩ := hrel
    have HGJ : Hid (gk = n - j) := hgj
    have HG : Hid (X0.grownBy wr none) := hg
    have HGW : Hid (w.grownBy wr none) := grown_trans HG0.out hg
    have HRT : Hid (fitsB ow (l.take j) b = true) := hrt
    have pb : ∀ o', (wr.alloc o').cell? ⟨xb, 2, none⟩ = some (.slice oa m oc) := fun o' => (grown_trans hg (World.grownBy_alloc _ o' none)).cell (by rw [cell_of_row _ _ _ _ _ _ HX0.out]; rfl) (by simp)
    clear hgj hg hrt
    by_cases hjl : j < n
    · have hjl2 : j < l.length := by rw [← HN.out]; exact hjl
      obtain ⟨ab, ao, rfl, hc1, hc2⟩ : ∃ ab ao, a = some ⟨ab, ao, none⟩ ∧ wr.cell? ⟨ab, ao + j * 2, none⟩ = some (.int .i64 (l.getD j (0, 0)).1) ∧ wr.cell? ⟨ab, ao + j * 2 + 1, none⟩ = some (.int .i64 (l.getD j (0, 0)).2) := by
        rcases HL.out wr HGW.out with h | ⟨ab, ao, e, h⟩
        · rw [h] at hjl2; cases hjl2
        · exact ⟨ab, ao, e, (h j hjl2).1, (h j hjl2).2⟩
      obtain ⟨x, hx⟩ : ∃ x, x = (l.getD j (0, 0)).1 := ⟨_, rfl⟩
      obtain ⟨tv, htv⟩ : ∃ x, x = (l.getD j (0, 0)).2 := ⟨_, rfl⟩
      have HX : Hid (x = (l.getD j (0, 0)).1) := hx
      rw [← hx] at hc1
      rw [← htv] at hc2
      have hpx : 0 ≤ x ∧ x < 256 := by
        rw [hx]
        have : l.getD j (0, 0) ∈ l := by rw [List.getD_eq_getElem?_getD, List.getElem?_eq_getElem hjl2]; exact List.getElem_mem _
        exact HP.out _ this
      have HT : Hid (fitsB ow (l.take (j + 1)) b = !(decide (b + x.toNat < m) && decide (0 ≤ ow.getD (b + x.toNat) 0))) := by
        show _ = _
        rw [take_snoc hjl2, fitsB_append, HRT.out, Bool.true_and, fitsB_one, ← hx, HM.out]
      obtain ⟨p, rfl⟩ := Int.eq_ofNat_of_zero_le hpx.1
      have hj0 : (0 : Int) ≤ (j : Int) := by omega
      have hj1 : (j : Int) < (n : Int) := by omega
      have hjd : decide (j < n) = true := decide_eq_true hjl
      have hB := HB.out
      have hwr : IntKind.i64.wrap ((b : Int) + (p : Int)) = ((b + p : Nat) : Int) := by rw [IntKind.wrap_i64]; omega
      rw [Int.toNat_natCast] at HT
      clear hx htv
      by_cases k0 : b + p < m
      · have e0 : decide (((b + p : Nat) : Int) < (m : Int)) = true := decide_eq_true (by omega)
        have e0' : decide (b + p < m) = true := decide_eq_true k0
        have k0' : b + p < ow.length := by rw [← HM.out]; exact k0
        obtain ⟨ob, oo, rfl, hc3⟩ : ∃ ab ao, oa = some ⟨ab, ao, none⟩ ∧ ∀ o', (wr.alloc o').cell? ⟨ab, ao + (b + p), none⟩ = some (.int .i64 (ow.getD (b + p) 0)) := by
          rcases HO.out wr HGW.out with h | ⟨ab, ao, e, h⟩
          · rw [h] at k0'; cases k0'
          · exact ⟨ab, ao, e, fun o' => (World.grownBy_alloc _ o' none).cell (h _ k0') (by simp)⟩
        obtain ⟨v, hv⟩ : ∃ v, v = ow.getD (b + p) 0 := ⟨_, rfl⟩
        have hv1 : -1 ≤ v := by
          rw [hv]
          refine HGE.out _ ?_
          rw [List.getD_eq_getElem?_getD, List.getElem?_eq_getElem k0']
          exact List.getElem_mem _
        rw [← hv] at HT
        rw [e0'] at HT
        simp only [← hv] at hc3
        have hq0 : (0 : Int) ≤ ((b + p : Nat) : Int) := by omega
        have hq1 : ((b + p : Nat) : Int) < (m : Int) := by omega
        obtain ⟨q, hq⟩ : ∃ q, q = b + p := ⟨_, rfl⟩
        rw [← hq] at hwr e0 e0' hq0 hq1
        simp only [← hq] at hc3
        clear hv hB hpx k0 k0'
        by_cases k1 : 0 ≤ v
        · have e1 : decide (0 ≤ v) = true := decide_eq_true k1
          have e2 : ¬ v = -1 := by omega
          have e3 : (v == -1) = false := by simpa using e2
          have e4 : (v != -1) = true := by simpa using e2
          rw [e1] at HT
          have HF : Hid (false = r) := by show _ = _; rw [HR.out]; exact (fitsB_false HT.out).symm
          clear k1 hq hv1
          go_wp2_with fail
          go_ret
          exact ⟨congrArg (fun b => Ending.returned (Value.bool b)) HF.out, grown_trans HGW.out (World.grownBy_alloc _ _ none)⟩
        · have e1 : decide (0 ≤ v) = false := decide_eq_false k1
          have e2 : v = -1 := by omega
          subst e2
          rw [e1] at HT
          clear k1 hq hv1
          go_wp2_with fail
          go_roundg (n - (j + 1))
          case measure => have := HGJ.out; omega
          case rel => exact ⟨j + 1, by omega, rfl, by go_num, HT.out, grown_trans HG.out (World.grownBy_alloc _ _ none)⟩
      · have e0 : decide (((b + p : Nat) : Int) < (m : Int)) = false := decide_eq_false (by omega)
        have e0' : decide (b + p < m) = false := decide_eq_false k0
        rw [e0'] at HT
        obtain ⟨q, hq⟩ : ∃ q, q = b + p := ⟨_, rfl⟩
        rw [← hq] at hwr e0 e0'
        clear hB hpx k0 hq
        go_wp2_with fail
        go_roundg (n - (j + 1))
        case measure => have := HGJ.out; omega
        case rel => exact ⟨j + 1, by omega, rfl, by go_num, HT.out, grown_trans HG.out (World.grownBy_alloc _ _ none)⟩
    · have hjn : n = j := by omega
      subst hjn
      have hjd : decide (n < n) = false := decide_eq_false (by omega)
      have HF : Hid (true = r) := by
        show _ = _
        have h := HRT.out
        rw [HN.out, List.take_length] at h
        rw [HR.out, h]
      go_wp2_with fail
      go_ret
      exact ⟨congrArg (fun b => Ending.returned (Value.bool b)) HF.out, HGW.out⟩

end Go.Proofs.Ytgmljpkenipgjaa.J

/-
  pack: rows under way in the program's lay: the box is told later than its rows; a block that stays.
-/
namespace Go.Proofs.Ytgmljpkenipgjaa.J
open Go.RowKit Go.Maps Go.Shelf Pk

theorem hidP {p : Prop} (h : p) : Hid p := h
theorem heap_alloc_two (V : World) (o o' : Obj) : ((V.alloc o).alloc o').heap[V.heap.size]? = some o := (heap_alloc_old (V.alloc o) o' (by simp)).trans (heap_alloc_last V o)
theorem heap_alloc_snd (V : World) (o o' : Obj) : ((V.alloc o).alloc o').heap[V.heap.size + 1]? = some o' := by
  have h := heap_alloc_last (V.alloc o) o'
  have e : (V.alloc o).heap.size = V.heap.size + 1 := by simp
  rw [e] at h
  exact h
/-- A block that stays, beside the box and its rows. -/
structure PasAt (X : World) (rb nb : Nat) (o : Obj) (Q : Nat → List Int) (ua : Nat → Option Addr) (uc : Nat → Nat) : Prop where
  pas : X.heap[nb]? = some o
  pne : ∀ j, j < 3 → (Value.slice (ua j) (Q j).length (uc j)).ownBlock ≠ some nb
  pnr : nb ≠ rb
section
variable {w X Y : World} {rb xb nb p : Nat} {tv : Int} {o : Obj} {Q : Nat → List Int} {ua : Nat → Option Addr} {uc : Nat → Nat}
theorem PasAt.lt (h : PasAt X rb nb o Q ua uc) : nb < X.heap.size := (Array.getElem?_eq_some_iff.1 h.pas).1
theorem PasAt.kept (h : PasAt X rb nb o Q ua uc) (hg : X.grownBy Y none) : PasAt Y rb nb o Q ua uc := ⟨by rw [hg.block nb h.lt (by simp)]; exact h.pas, h.pne, h.pnr⟩
theorem PasAt.ext {Q' : Nat → List Int} (h : PasAt X rb nb o Q ua uc) (e : ∀ j, j < 3 → Q j = Q' j) : PasAt X rb nb o Q' ua uc := ⟨h.pas, fun j hj => by rw [← e j hj]; exact h.pne j hj, h.pnr⟩
theorem PasAt.box (h : PasAt X rb nb o Q ua uc) (f : Nat) (v : Value) : PasAt (X.setCell ⟨rb, f, none⟩ v) rb nb o Q ua uc := ⟨by rw [heap_setCell_other _ _ _ _ h.pnr]; exact h.pas, h.pne, h.pnr⟩
theorem PasAt.turn {f m c' : Nat} {a' : Option Addr} {L' : List Int} (h : PasAt X rb nb o Q ua uc) (hf : f < 3) (hm : m = L'.length) (hg : X.grownBy Y (Value.slice (ua f) (Q f).length (uc f)).ownBlock) (hat : ∀ g, (Value.slice a' m c').ownBlock = some g → (Value.slice (ua f) (Q f).length (uc f)).ownBlock = some g ∨ X.heap.size ≤ g) : PasAt Y rb nb o (upZ Q f L') (upZ ua f a') (upZ uc f c') := by
  subst hm
  refine ⟨by rw [hg.block nb h.lt fun e => h.pne f hf e.symm]; exact h.pas, fun j hj => ?_, h.pnr⟩
  by_cases e : j = f
  · subst e
    rw [upZ_same, upZ_same, upZ_same]
    intro h2
    rcases hat nb h2 with h3 | h3
    · exact h.pne j hj h3
    · have := h.lt
      omega
  · rw [upZ_other _ _ e, upZ_other _ _ e, upZ_other _ _ e]
    exact h.pne j hj
theorem PasAt.put {f g q : Nat} (h : PasAt X rb nb o Q ua uc) (hf : f < 3) (ha : ua f = some ⟨g, 0, none⟩) (v : Int) : PasAt (X.setCell ⟨g, q, none⟩ (.int .i64 v)) rb nb o (upZ Q f ((Q f).set q v)) ua uc := by
  have e : (Value.slice (ua f) (Q f).length (uc f)).ownBlock = some g := by rw [ha]; rfl
  have h2 := h.turn (Y := X.setCell ⟨g, q, none⟩ (.int .i64 v)) (L' := (Q f).set q v) (a' := some ⟨g, 0, none⟩) (c' := uc f) hf rfl (by rw [e]; exact grown_setCell _ _ _) (fun g2 hg2 => .inl (by rw [e]; simpa [Value.ownBlock] using hg2))
  have e1 : upZ ua f (some ⟨g, 0, none⟩) = ua := by rw [← ha]; exact upZ_self ua f
  have e2 : upZ uc f (uc f) = uc := upZ_self uc f
  rw [e1, e2] at h2
  exact h2
theorem TrZ.boxes {B b f : Nat} (h : TrZ X B 3 Q ua uc) (hf : f < 3) {cs : Array Value} {t : TypeId} (hb : X.heap[b]? = some (.cells cs t (0, 0))) (ht : t ≠ 3) (hg : X.grownBy Y (Value.slice (ua f) (Q f).length (uc f)).ownBlock) : Y.heap[b]? = some (.cells cs t (0, 0)) := by
  rw [hg.block b (Array.getElem?_eq_some_iff.1 hb).1 ?_]
  · exact hb
  · rcases (h.inn f hf).2 with ⟨hv, _⟩ | ⟨g, cap, cur, hv, _, hh, _⟩
    · rw [hv]; simp [Value.ownBlock]
    · rw [hv]
      intro e2
      have e3 : g = b := Eq.symm (by simpa [Value.ownBlock] using e2)
      subst e3
      rw [hb] at hh
      simp only [Option.some.injEq, Obj.cells.injEq] at hh
      exact ht hh.2.1
theorem TrZ.news {f : Nat} (h : TrZ X w.heap.size 3 Q ua uc) (hw : w.grownBy X none) (hf : f < 3) (hg : X.grownBy Y (Value.slice (ua f) (Q f).length (uc f)).ownBlock) : w.grownBy Y none := by
  cases hv : (Value.slice (ua f) (Q f).length (uc f)).ownBlock with
  | none => rw [hv] at hg; exact grown_trans hw hg
  | some g => rw [hv] at hg; exact grown_new hw hg ((h.inn f hf).lt g hv).1

/-- Rows under way, the box not yet told. -/
structure MiAt (w X : World) (rb xb nb : Nat) (bx : Array Value) (o : Obj) (p : Nat) (tv : Int) (Q : Nat → List Int) (ua : Nat → Option Addr) (uc : Nat → Nat) : Prop where
  grown : w.grownBy X none
  res : X.heap[w.heap.size]? = some (.cells #[.slice none 0 0, .slice none 0 0, .slice none 0 0] 26 (0, 0))
  box : X.heap[rb]? = some (.cells bx 26 (0, 0))
  rows : TrZ X w.heap.size 3 Q ua uc
  lo : w.heap.size < rb
  ed : EdAt X xb p tv
  pa : PasAt X rb nb o Q ua uc
variable {bx : Array Value}
theorem LyAt.mid (h : LyAt w X rb Q ua uc) (hx : EdAt X xb p tv) (hp : PasAt X rb nb o Q ua uc) : MiAt w X rb xb nb #[.slice (ua 0) (Q 0).length (uc 0), .slice (ua 1) (Q 1).length (uc 1), .slice (ua 2) (Q 2).length (uc 2)] o p tv Q ua uc := ⟨h.grown, h.res, h.box, h.rows, h.lo, hx, hp⟩
theorem MiAt.kept (h : MiAt w X rb xb nb bx o p tv Q ua uc) (hg : X.grownBy Y none) : MiAt w Y rb xb nb bx o p tv Q ua uc := ⟨grown_trans h.grown hg, box_kept h.res hg, box_kept h.box hg, h.rows.kept hg, h.lo, h.ed.kept hg, h.pa.kept hg⟩
theorem MiAt.turn {f m c' : Nat} {a' : Option Addr} {L' : List Int} (h : MiAt w X rb xb nb bx o p tv Q ua uc) (hf : f < 3) (hm : m = L'.length) (hg : X.grownBy Y (Value.slice (ua f) (Q f).length (uc f)).ownBlock) (ho : Y.ownsRow w.heap.size 3 1 (.slice a' m c') m (zV L')) (hat : ∀ g, (Value.slice a' m c').ownBlock = some g → (Value.slice (ua f) (Q f).length (uc f)).ownBlock = some g ∨ X.heap.size ≤ g) : MiAt w Y rb xb nb bx o p tv (upZ Q f L') (upZ ua f a') (upZ uc f c') :=
  ⟨h.rows.news h.grown hf hg, h.rows.boxes hf h.res (by decide) hg, h.rows.boxes hf h.box (by decide) hg, h.rows.turn hf hm hg ho hat, h.lo, h.rows.boxes hf h.ed (by decide) hg, h.pa.turn hf hm hg hat⟩
/-- A number is appended to a row; the box is told later. -/
theorem MiAt.app {f m g c' : Nat} {v : Int} (h : MiAt w X rb xb nb bx o p tv Q ua uc) (hf : f < 3) (hm : (Q f).length = m) (hZ : X.grownBy Y (Value.slice (ua f) m (uc f)).ownBlock) (ho : Y.ownsRow w.heap.size 3 1 (.slice (some ⟨g, 0, none⟩) (m + 1) c') (m + 1) (zV (Q f) ++ [.int .i64 v])) (hat : (Value.slice (ua f) m (uc f)).ownBlock = some g ∨ g = X.heap.size) :
    MiAt w Y rb xb nb bx o p tv (upZ Q f (Q f ++ [v])) (upZ ua f (some ⟨g, 0, none⟩)) (upZ uc f c') := by
  subst hm
  have hzz : zV (Q f ++ [v]) = zV (Q f) ++ [.int .i64 v] := by rw [zV_append]; rfl
  exact h.turn (m := (Q f).length + 1) (a' := some ⟨g, 0, none⟩) (c' := c') (L' := Q f ++ [v]) hf (by rw [List.length_append]; rfl) hZ (by rw [hzz]; exact ho) (fun g2 hg2 => by
    have e2 : g = g2 := by simpa [Value.ownBlock] using hg2
    subst e2
    rcases hat with h | h
    · exact .inl h
    · exact .inr (by omega))
/-- The box is told. -/
theorem MiAt.fin {s0 s1 s2 : Value} (h : MiAt w X rb xb nb #[s0, s1, s2] o p tv Q ua uc) (e0 : s0 = .slice (ua 0) (Q 0).length (uc 0)) :
    LyAt w ((X.setCell ⟨rb, 1, none⟩ (.slice (ua 1) (Q 1).length (uc 1))).setCell ⟨rb, 2, none⟩ (.slice (ua 2) (Q 2).length (uc 2))) rb Q ua uc ∧ EdAt ((X.setCell ⟨rb, 1, none⟩ (.slice (ua 1) (Q 1).length (uc 1))).setCell ⟨rb, 2, none⟩ (.slice (ua 2) (Q 2).length (uc 2))) xb p tv ∧ PasAt ((X.setCell ⟨rb, 1, none⟩ (.slice (ua 1) (Q 1).length (uc 1))).setCell ⟨rb, 2, none⟩ (.slice (ua 2) (Q 2).length (uc 2))) rb nb o Q ua uc := by
  subst e0
  have hb1 := heap_setCell_same _ _ 1 _ _ (.slice (ua 1) (Q 1).length (uc 1)) h.box
  have hb2 := heap_setCell_same _ _ 2 _ _ (.slice (ua 2) (Q 2).length (uc 2)) hb1
  have hlo := h.lo
  have hxb : xb ≠ rb := fun e => by
    have h1 := h.ed
    unfold EdAt at h1
    rw [e, h.box] at h1
    simp at h1
  refine ⟨⟨?_, ?_, hb2, ?_, hlo⟩, ?_, (h.pa.box 1 _).box 2 _⟩
  · exact grown_new (grown_new h.grown (grown_setCell _ _ _) (by omega)) (grown_setCell _ _ _) (by omega)
  · rw [heap_setCell_other _ _ _ _ (by show w.heap.size ≠ rb; omega), heap_setCell_other _ _ _ _ (by show w.heap.size ≠ rb; omega)]
    exact h.res
  · exact (h.rows.beside h.box (by decide) (grown_setCell _ _ _)).beside hb1 (by decide) (grown_setCell _ _ _)
  · unfold EdAt
    rw [heap_setCell_other _ _ _ _ hxb, heap_setCell_other _ _ _ _ hxb]
    exact h.ed

theorem MiAt.fst {m : Nat} (h : MiAt w X rb xb nb bx o p tv Q ua uc) (h1 : (Q 1).length = m) : ∀ Y, X.grownBy Y none → Y.ownsRow w.heap.size 3 1 (.slice (ua 1) m (uc 1)) m (zV (Q 1)) ∧ w.heap.size ≤ Y.heap.size := fun Y hY => by
  subst h1
  exact ⟨(h.kept hY).rows.inn 1 (by decide), (grown_trans h.grown hY).size⟩
/-- What is so once the first append is done, and once both are. -/
theorem MiAt.nxt {m : Nat} (h : MiAt w X rb xb nb #[.slice (ua 0) (Q 0).length (uc 0), .slice (ua 1) m (uc 1), .slice (ua 2) m (uc 2)] o p tv Q ua uc) (h1 : (Q 1).length = m) (h2 : (Q 2).length = m) :
    ∀ (Y Z : World) (g k : Nat), X.grownBy Y none → Y.grownBy Z (Value.slice (ua 1) m (uc 1)).ownBlock → Z.ownsRow w.heap.size 3 1 (.slice (some ⟨g, 0, none⟩) (m + 1) k) (m + 1) (zV (Q 1) ++ [.int .i64 0]) → ((Value.slice (ua 1) m (uc 1)).ownBlock = some g ∨ g = Y.heap.size) →
    (∀ Y, Z.grownBy Y none → Y.cell? ⟨rb, 2, none⟩ = some (.slice (ua 2) m (uc 2)) ∧ Y.ownsRow w.heap.size 3 1 (.slice (ua 2) m (uc 2)) m (zV (Q 2)) ∧ w.heap.size ≤ Y.heap.size) ∧
    (∀ (Y U : World) (g2 k2 : Nat), Z.grownBy Y none → Y.grownBy U (Value.slice (ua 2) m (uc 2)).ownBlock → U.ownsRow w.heap.size 3 1 (.slice (some ⟨g2, 0, none⟩) (m + 1) k2) (m + 1) (zV (Q 2) ++ [.int .i64 (-1)]) → ((Value.slice (ua 2) m (uc 2)).ownBlock = some g2 ∨ g2 = Y.heap.size) →
    U.cell? ⟨rb, 1, none⟩ = some (.slice (ua 1) m (uc 1)) ∧ U.frozen? ⟨rb, 1, none⟩ = false ∧ (U.setCell ⟨rb, 1, none⟩ (.slice (some ⟨g, 0, none⟩) (m + 1) k)).cell? ⟨rb, 2, none⟩ = some (.slice (ua 2) m (uc 2)) ∧ (U.setCell ⟨rb, 1, none⟩ (.slice (some ⟨g, 0, none⟩) (m + 1) k)).frozen? ⟨rb, 2, none⟩ = false ∧
    LyAt w ((U.setCell ⟨rb, 1, none⟩ (.slice (some ⟨g, 0, none⟩) (m + 1) k)).setCell ⟨rb, 2, none⟩ (.slice (some ⟨g2, 0, none⟩) (m + 1) k2)) rb (upZ (upZ Q 1 (Q 1 ++ [0])) 2 (Q 2 ++ [-1])) (upZ (upZ ua 1 (some ⟨g, 0, none⟩)) 2 (some ⟨g2, 0, none⟩)) (upZ (upZ uc 1 k) 2 k2) ∧
    EdAt ((U.setCell ⟨rb, 1, none⟩ (.slice (some ⟨g, 0, none⟩) (m + 1) k)).setCell ⟨rb, 2, none⟩ (.slice (some ⟨g2, 0, none⟩) (m + 1) k2)) xb p tv ∧
    PasAt ((U.setCell ⟨rb, 1, none⟩ (.slice (some ⟨g, 0, none⟩) (m + 1) k)).setCell ⟨rb, 2, none⟩ (.slice (some ⟨g2, 0, none⟩) (m + 1) k2)) rb nb o (upZ (upZ Q 1 (Q 1 ++ [0])) 2 (Q 2 ++ [-1])) (upZ (upZ ua 1 (some ⟨g, 0, none⟩)) 2 (some ⟨g2, 0, none⟩)) (upZ (upZ uc 1 k) 2 k2)) ∧
    ∀ b, X.heap.size ≤ b → b < Y.heap.size → Z.heap[b]? = Y.heap[b]? := by
  intro Y Z g k hY hZ ho hat
  have hz := (h.kept hY).app (f := 1) (by decide) h1 hZ ho hat
  have e2 : upZ Q 1 (Q 1 ++ [0]) 2 = Q 2 := upZ_other _ _ (by decide)
  have e3 : upZ ua 1 (some ⟨g, 0, none⟩) 2 = ua 2 := upZ_other _ _ (by decide)
  have e4 : upZ uc 1 k 2 = uc 2 := upZ_other _ _ (by decide)
  refine ⟨fun Y2 hY2 => ?_, fun Y2 U g2 k2 hY2 hU ho2 hat2 => ?_, fun b hb hby => hZ.block b hby fun e => ?_⟩
  · have hk := hz.kept hY2
    refine ⟨by rw [cell_of_row _ _ _ _ _ _ hk.box]; rfl, ?_, hk.grown.size⟩
    have h3 := hk.rows.inn 2 (by decide)
    rw [e2, e3, e4, h2] at h3
    exact h3
  · have hu := (hz.kept hY2).app (f := 2) (m := m) (v := -1) (by decide) (by rw [e2]; exact h2) (by rw [e3, e4]; exact hU) (by rw [e2]; exact ho2) (by rw [e3, e4]; exact hat2)
    rw [e2] at hu
    have hb1 := heap_setCell_same _ _ 1 _ _ (.slice (some ⟨g, 0, none⟩) (m + 1) k) hu.box
    refine ⟨by rw [cell_of_row _ _ _ _ _ _ hu.box]; rfl, frozen_of_row _ _ _ _ _ hu.box, by rw [cell_of_row _ _ _ _ _ _ hb1]; rfl, frozen_of_row _ _ _ _ _ hb1, ?_⟩
    have hf := MiAt.fin hu (by rfl)
    have l1 : (upZ (upZ Q 1 (Q 1 ++ [0])) 2 (Q 2 ++ [-1]) 1).length = m + 1 := by rw [upZ_other _ _ (by decide), upZ_same, List.length_append, h1]; rfl
    have l2 : (upZ (upZ Q 1 (Q 1 ++ [0])) 2 (Q 2 ++ [-1]) 2).length = m + 1 := by rw [upZ_same, List.length_append, h2]; rfl
    rw [l1, l2] at hf
    exact hf
  · have h3 := ((h.rows.inn 1 (by decide)).lt b (by rw [h1]; exact e.symm)).2
    omega
end

end Go.Proofs.Ytgmljpkenipgjaa.J

/-
  pack: the program's lay: a number more in two rows at once (printed by tools/pk_r9.py).
-/
namespace Go.Proofs.Ytgmljpkenipgjaa.J
open Go.RowKit Go.Maps Go.Shelf Pk

attribute [local go_sem] Oper.semAt_some
attribute [local go_sem ↓] Go.wp_at_zero Go.wp_at_succ

noncomputable def pgR9 : Code := ((Try.f42.body.map (regionsJ 9)).getD []).getD 0 .skip

set_option maxRecDepth 100000 in
set_option maxHeartbeats 8000000 in
theorem pg_r9 {K : Act → World → Prop} {w V : World} {rb xb nb m p : Nat} {tv : Int} {o : Obj} {Q : Nat → List Int} {ua : Nat → Option Addr} {uc : Nat → Nat}
    {v1 v2 v3 v4 v5 v6 v7 v8 v9 v10 v11 v12 v13 v14 v15 v16 v17 v18 v19 v20 v21 v22 v23 v24 v25 v26 v27 v28 v29 v30 v31 v32 v33 v34 v35 v36 v37 v38 v39 v40 v41 v42 v43 v44 v45 v46 v47 v48 v49 v50 v51 v52 v53 v54 v55 v56 v57 v58 v59 v60 v61 v62 v63 v64 v65 v66 v67 v68 v69 v70 v71 v72 v73 v74 v75 v76 : Value}
    (hM : MiAt w V rb xb nb #[.slice (ua 0) (Q 0).length (uc 0), .slice (ua 1) m (uc 1), .slice (ua 2) m (uc 2)] o p tv Q ua uc) (h1 : (Q 1).length = m) (h2 : (Q 2).length = m) (hm : m ≤ 134217728)
    (hexit : ∀ (U : World) (ua' : Nat → Option Addr) (uc' : Nat → Nat) (u43 u44 u45 u46 u47 u48 u49 u50 u51 u52 u53 u54 u55 u56 u57 u58 u59 u60 : Value), LyAt w U rb (upZ (upZ Q 1 (Q 1 ++ [0])) 2 (Q 2 ++ [-1])) ua' uc' → EdAt U xb p tv → PasAt U rb nb o (upZ (upZ Q 1 (Q 1 ++ [0])) 2 (Q 2 ++ [-1])) ua' uc' → K ⟨List.toArray (.pointer (some ⟨rb, 0, none⟩) :: v1 :: v2 :: v3 :: v4 :: v5 :: v6 :: v7 :: v8 :: v9 :: v10 :: v11 :: v12 :: v13 :: v14 :: v15 :: v16 :: v17 :: v18 :: v19 :: v20 :: v21 :: v22 :: v23 :: v24 :: v25 :: v26 :: v27 :: v28 :: v29 :: v30 :: v31 :: v32 :: v33 :: v34 :: v35 :: v36 :: v37 :: v38 :: v39 :: v40 :: v41 :: v42 :: u43 :: u44 :: u45 :: u46 :: u47 :: u48 :: u49 :: u50 :: u51 :: u52 :: u53 :: u54 :: u55 :: u56 :: u57 :: u58 :: u59 :: u60 :: v61 :: v62 :: v63 :: v64 :: v65 :: v66 :: v67 :: v68 :: v69 :: v70 :: v71 :: v72 :: v73 :: v74 :: v75 :: v76 :: []), []⟩ U) :
    Code.wp Try.prog pgR9 (OnEndJ K) ⟨List.toArray (.pointer (some ⟨rb, 0, none⟩) :: v1 :: v2 :: v3 :: v4 :: v5 :: v6 :: v7 :: v8 :: v9 :: v10 :: v11 :: v12 :: v13 :: v14 :: v15 :: v16 :: v17 :: v18 :: v19 :: v20 :: v21 :: v22 :: v23 :: v24 :: v25 :: v26 :: v27 :: v28 :: v29 :: v30 :: v31 :: v32 :: v33 :: v34 :: v35 :: v36 :: v37 :: v38 :: v39 :: v40 :: v41 :: v42 :: v43 :: v44 :: v45 :: v46 :: v47 :: v48 :: v49 :: v50 :: v51 :: v52 :: v53 :: v54 :: v55 :: v56 :: v57 :: v58 :: v59 :: v60 :: v61 :: v62 :: v63 :: v64 :: v65 :: v66 :: v67 :: v68 :: v69 :: v70 :: v71 :: v72 :: v73 :: v74 :: v75 :: v76 :: []), []⟩ V := by
  obtain ⟨i0, hi0, hz0, hz1, hz2⟩ := info_parts infoIntP
  have HA : Hid (∀ Y, V.grownBy Y none → Y.ownsRow w.heap.size 3 1 (.slice (ua 1) m (uc 1)) m (zV (Q 1)) ∧ w.heap.size ≤ Y.heap.size) := hM.fst h1
  have HB := hidP (hM.nxt h1 h2)
  obtain ⟨f1, hf1⟩ : ∃ v, v = ua 1 := ⟨_, rfl⟩
  obtain ⟨f2, hf2⟩ : ∃ v, v = ua 2 := ⟨_, rfl⟩
  obtain ⟨c1, hc1⟩ : ∃ v, v = uc 1 := ⟨_, rfl⟩
  obtain ⟨c2, hc2⟩ : ∃ v, v = uc 2 := ⟨_, rfl⟩
  have q1 : V.cell? ⟨rb, 1, none⟩ = some (.slice (ua 1) m (uc 1)) := by rw [cell_of_row _ _ _ _ _ _ hM.box]; rfl
  have q2 : V.cell? ⟨rb, 2, none⟩ = some (.slice (ua 2) m (uc 2)) := by rw [cell_of_row _ _ _ _ _ _ hM.box]; rfl
  obtain ⟨xs1, hxs1⟩ : ∃ v, v = zV (Q 1) := ⟨_, rfl⟩
  obtain ⟨xs2, hxs2⟩ : ∃ v, v = zV (Q 2) := ⟨_, rfl⟩
  rw [← hf1, ← hc1] at q1
  rw [← hf2, ← hc2] at q2
  rw [← hf1, ← hc1, ← hxs1] at HA
  rw [← hf1, ← hf2, ← hc1, ← hc2, ← hxs1, ← hxs2] at HB
  have HEX := hidP hexit
  have q1a : ∀ o', (V.alloc o').cell? ⟨rb, 1, none⟩ = some (.slice f1 m c1) := fun o' => (World.grownBy_alloc _ o' none).cell q1 (by simp)
  have q2a : ∀ o', (V.alloc o').cell? ⟨rb, 2, none⟩ = some (.slice f2 m c2) := fun o' => (World.grownBy_alloc _ o' none).cell q2 (by simp)
  have q1b : ∀ o' o'', ((V.alloc o').alloc o'').cell? ⟨rb, 1, none⟩ = some (.slice f1 m c1) := fun o' o'' => (World.grownBy_alloc _ o'' none).cell (q1a o') (by simp)
  have q2b : ∀ o' o'', ((V.alloc o').alloc o'').cell? ⟨rb, 2, none⟩ = some (.slice f2 m c2) := fun o' o'' => (World.grownBy_alloc _ o'' none).cell (q2a o') (by simp)
  clear hM hexit h1 h2 hf1 hf2 hc1 hc2 hxs1 hxs2
  conv => arg 2; whnf
  go_region_law (first
    | (refine step_append_liesW _ rfl (.tmp 48) (.tmp 49) 24 rfl w.heap.size 3 i0 (.int .i64 0) 1 8 Try.underlying24 hi0 hz0 hz1 hz2 rfl (by decide) (.slice f1 m c1) m xs1 (by first | (simp [Act.eval]; done) | simp [Act.eval, Act.put]) (HA.out _ (by repeat (first | exact grown_refl _ _ | refine grown_trans ?_ (grown_drewN _ _) | refine grown_trans ?_ (World.grownBy_alloc _ _ none)))).1 ⟨V.heap.size, 0, none⟩ 1 1 [.int .i64 0] (by simp [Act.eval]) rfl (World.news_of_block (by first | exact heap_alloc_last V _ | exact heap_alloc_two V _ _ | exact heap_alloc_snd V _ _)) (by simp [Value.oneCell']) (by decide) (by unfold maxLen; omega) (by omega) (HA.out _ (by repeat (first | exact grown_refl _ _ | refine grown_trans ?_ (grown_drewN _ _) | refine grown_trans ?_ (World.grownBy_alloc _ _ none)))).2 ?_; intro g9 k9 wB hoB hgB hatB; have HN := hidP (HB.out _ wB g9 k9 (by repeat (first | exact grown_refl _ _ | refine grown_trans ?_ (grown_drewN _ _) | refine grown_trans ?_ (World.grownBy_alloc _ _ none))) hgB hoB hatB); have z2 := (HN.out.1 wB (grown_refl _ _)).1; have z2a : ∀ o', (wB.alloc o').cell? ⟨rb, 2, none⟩ = some (.slice f2 m c2) := fun o' => (HN.out.1 _ (World.grownBy_alloc _ o' none)).1; clear hoB hgB hatB)
    | (refine step_append_liesW _ rfl (.tmp 48) (.tmp 49) 24 rfl w.heap.size 3 i0 (.int .i64 0) 1 8 Try.underlying24 hi0 hz0 hz1 hz2 rfl (by decide) (.slice f1 m c1) m xs1 (by first | (simp [Act.eval]; done) | simp [Act.eval, Act.put]) (HA.out _ (by repeat (first | exact grown_refl _ _ | refine grown_trans ?_ (grown_drewN _ _) | refine grown_trans ?_ (World.grownBy_alloc _ _ none)))).1 ⟨V.heap.size + 1, 0, none⟩ 1 1 [.int .i64 0] (by simp [Act.eval]) rfl (World.news_of_block (by first | exact heap_alloc_last V _ | exact heap_alloc_two V _ _ | exact heap_alloc_snd V _ _)) (by simp [Value.oneCell']) (by decide) (by unfold maxLen; omega) (by omega) (HA.out _ (by repeat (first | exact grown_refl _ _ | refine grown_trans ?_ (grown_drewN _ _) | refine grown_trans ?_ (World.grownBy_alloc _ _ none)))).2 ?_; intro g9 k9 wB hoB hgB hatB; have HN := hidP (HB.out _ wB g9 k9 (by repeat (first | exact grown_refl _ _ | refine grown_trans ?_ (grown_drewN _ _) | refine grown_trans ?_ (World.grownBy_alloc _ _ none))) hgB hoB hatB); have z2 := (HN.out.1 wB (grown_refl _ _)).1; have z2a : ∀ o', (wB.alloc o').cell? ⟨rb, 2, none⟩ = some (.slice f2 m c2) := fun o' => (HN.out.1 _ (World.grownBy_alloc _ o' none)).1; clear hoB hgB hatB)
    | (refine step_append_liesW _ rfl (.tmp 54) (.tmp 55) 24 rfl w.heap.size 3 i0 (.int .i64 0) 1 8 Try.underlying24 hi0 hz0 hz1 hz2 rfl (by decide) (.slice f2 m c2) m xs2 (by first | (simp [Act.eval]; done) | simp [Act.eval, Act.put]) (HN.out.1 _ (by repeat (first | exact grown_refl _ _ | refine grown_trans ?_ (grown_drewN _ _) | refine grown_trans ?_ (World.grownBy_alloc _ _ none)))).2.1 ⟨V.heap.size, 0, none⟩ 1 1 [.int .i64 (-1)] (by simp [Act.eval]) rfl (World.news_of_block (by first | exact heap_alloc_last wB _ | exact (HN.out.2.2 _ (Nat.le_refl _) (by first | (simp; done) | (simp; omega))).trans (heap_alloc_two V _ _) | exact (HN.out.2.2 _ (Nat.le_succ _) (by first | (simp; done) | (simp; omega))).trans (heap_alloc_snd V _ _))) (by simp [Value.oneCell']) (by decide) (by unfold maxLen; omega) (by omega) (HN.out.1 _ (by repeat (first | exact grown_refl _ _ | refine grown_trans ?_ (grown_drewN _ _) | refine grown_trans ?_ (World.grownBy_alloc _ _ none)))).2.2 ?_; intro g8 k8 wC hoC hgC hatC; obtain ⟨r1, r2, r3, r4, r5⟩ := HN.out.2.1 _ wC g8 k8 (by repeat (first | exact grown_refl _ _ | refine grown_trans ?_ (grown_drewN _ _) | refine grown_trans ?_ (World.grownBy_alloc _ _ none))) hgC hoC hatC; have HR5 := hidP r5; clear r5 hoC hgC hatC)
    | (refine step_append_liesW _ rfl (.tmp 54) (.tmp 55) 24 rfl w.heap.size 3 i0 (.int .i64 0) 1 8 Try.underlying24 hi0 hz0 hz1 hz2 rfl (by decide) (.slice f2 m c2) m xs2 (by first | (simp [Act.eval]; done) | simp [Act.eval, Act.put]) (HN.out.1 _ (by repeat (first | exact grown_refl _ _ | refine grown_trans ?_ (grown_drewN _ _) | refine grown_trans ?_ (World.grownBy_alloc _ _ none)))).2.1 ⟨V.heap.size + 1, 0, none⟩ 1 1 [.int .i64 (-1)] (by simp [Act.eval]) rfl (World.news_of_block (by first | exact heap_alloc_last wB _ | exact (HN.out.2.2 _ (Nat.le_refl _) (by first | (simp; done) | (simp; omega))).trans (heap_alloc_two V _ _) | exact (HN.out.2.2 _ (Nat.le_succ _) (by first | (simp; done) | (simp; omega))).trans (heap_alloc_snd V _ _))) (by simp [Value.oneCell']) (by decide) (by unfold maxLen; omega) (by omega) (HN.out.1 _ (by repeat (first | exact grown_refl _ _ | refine grown_trans ?_ (grown_drewN _ _) | refine grown_trans ?_ (World.grownBy_alloc _ _ none)))).2.2 ?_; intro g8 k8 wC hoC hgC hatC; obtain ⟨r1, r2, r3, r4, r5⟩ := HN.out.2.1 _ wC g8 k8 (by repeat (first | exact grown_refl _ _ | refine grown_trans ?_ (grown_drewN _ _) | refine grown_trans ?_ (World.grownBy_alloc _ _ none))) hgC hoC hatC; have HR5 := hidP r5; clear r5 hoC hgC hatC)
    | (refine step_append_liesW _ rfl (.tmp 54) (.tmp 55) 24 rfl w.heap.size 3 i0 (.int .i64 0) 1 8 Try.underlying24 hi0 hz0 hz1 hz2 rfl (by decide) (.slice f2 m c2) m xs2 (by first | (simp [Act.eval]; done) | simp [Act.eval, Act.put]) (HN.out.1 _ (by repeat (first | exact grown_refl _ _ | refine grown_trans ?_ (grown_drewN _ _) | refine grown_trans ?_ (World.grownBy_alloc _ _ none)))).2.1 ⟨wB.heap.size, 0, none⟩ 1 1 [.int .i64 (-1)] (by simp [Act.eval]) rfl (World.news_of_block (by first | exact heap_alloc_last wB _ | exact (HN.out.2.2 _ (Nat.le_refl _) (by first | (simp; done) | (simp; omega))).trans (heap_alloc_two V _ _) | exact (HN.out.2.2 _ (Nat.le_succ _) (by first | (simp; done) | (simp; omega))).trans (heap_alloc_snd V _ _))) (by simp [Value.oneCell']) (by decide) (by unfold maxLen; omega) (by omega) (HN.out.1 _ (by repeat (first | exact grown_refl _ _ | refine grown_trans ?_ (grown_drewN _ _) | refine grown_trans ?_ (World.grownBy_alloc _ _ none)))).2.2 ?_; intro g8 k8 wC hoC hgC hatC; obtain ⟨r1, r2, r3, r4, r5⟩ := HN.out.2.1 _ wC g8 k8 (by repeat (first | exact grown_refl _ _ | refine grown_trans ?_ (grown_drewN _ _) | refine grown_trans ?_ (World.grownBy_alloc _ _ none))) hgC hoC hatC; have HR5 := hidP r5; clear r5 hoC hgC hatC)
    | fail)
  all_goals exact HEX.out _ _ _ _ _ _ _ _ _ _ _ _ _ _ _ _ _ _ _ _ _ HR5.out.1 HR5.out.2.1 HR5.out.2.2

theorem pg_r9q {Q0 : Exit → Act → World → Prop} {w V : World} {rb xb nb m p : Nat} {tv : Int} {o : Obj} {Q : Nat → List Int} {ua : Nat → Option Addr} {uc : Nat → Nat}
    {v1 v2 v3 v4 v5 v6 v7 v8 v9 v10 v11 v12 v13 v14 v15 v16 v17 v18 v19 v20 v21 v22 v23 v24 v25 v26 v27 v28 v29 v30 v31 v32 v33 v34 v35 v36 v37 v38 v39 v40 v41 v42 v43 v44 v45 v46 v47 v48 v49 v50 v51 v52 v53 v54 v55 v56 v57 v58 v59 v60 v61 v62 v63 v64 v65 v66 v67 v68 v69 v70 v71 v72 v73 v74 v75 v76 : Value}
    (hM : MiAt w V rb xb nb #[.slice (ua 0) (Q 0).length (uc 0), .slice (ua 1) m (uc 1), .slice (ua 2) m (uc 2)] o p tv Q ua uc) (h1 : (Q 1).length = m) (h2 : (Q 2).length = m) (hm : m ≤ 134217728)
    (hexit : ∀ (U : World) (ua' : Nat → Option Addr) (uc' : Nat → Nat) (u43 u44 u45 u46 u47 u48 u49 u50 u51 u52 u53 u54 u55 u56 u57 u58 u59 u60 : Value), LyAt w U rb (upZ (upZ Q 1 (Q 1 ++ [0])) 2 (Q 2 ++ [-1])) ua' uc' → EdAt U xb p tv → PasAt U rb nb o (upZ (upZ Q 1 (Q 1 ++ [0])) 2 (Q 2 ++ [-1])) ua' uc' → Q0 .normal ⟨List.toArray (.pointer (some ⟨rb, 0, none⟩) :: v1 :: v2 :: v3 :: v4 :: v5 :: v6 :: v7 :: v8 :: v9 :: v10 :: v11 :: v12 :: v13 :: v14 :: v15 :: v16 :: v17 :: v18 :: v19 :: v20 :: v21 :: v22 :: v23 :: v24 :: v25 :: v26 :: v27 :: v28 :: v29 :: v30 :: v31 :: v32 :: v33 :: v34 :: v35 :: v36 :: v37 :: v38 :: v39 :: v40 :: v41 :: v42 :: u43 :: u44 :: u45 :: u46 :: u47 :: u48 :: u49 :: u50 :: u51 :: u52 :: u53 :: u54 :: u55 :: u56 :: u57 :: u58 :: u59 :: u60 :: v61 :: v62 :: v63 :: v64 :: v65 :: v66 :: v67 :: v68 :: v69 :: v70 :: v71 :: v72 :: v73 :: v74 :: v75 :: v76 :: []), []⟩ U) :
    Code.wp Try.prog pgR9 Q0 ⟨List.toArray (.pointer (some ⟨rb, 0, none⟩) :: v1 :: v2 :: v3 :: v4 :: v5 :: v6 :: v7 :: v8 :: v9 :: v10 :: v11 :: v12 :: v13 :: v14 :: v15 :: v16 :: v17 :: v18 :: v19 :: v20 :: v21 :: v22 :: v23 :: v24 :: v25 :: v26 :: v27 :: v28 :: v29 :: v30 :: v31 :: v32 :: v33 :: v34 :: v35 :: v36 :: v37 :: v38 :: v39 :: v40 :: v41 :: v42 :: v43 :: v44 :: v45 :: v46 :: v47 :: v48 :: v49 :: v50 :: v51 :: v52 :: v53 :: v54 :: v55 :: v56 :: v57 :: v58 :: v59 :: v60 :: v61 :: v62 :: v63 :: v64 :: v65 :: v66 :: v67 :: v68 :: v69 :: v70 :: v71 :: v72 :: v73 :: v74 :: v75 :: v76 :: []), []⟩ V :=
  wp_mono (pg_r9 (K := fun a w => Q0 .normal a w) hM h1 h2 hm hexit) fun e a w h => by
    cases e <;> first | exact h | exact h.elim

end Go.Proofs.Ytgmljpkenipgjaa.J

/-
  pack: the program's areRows.
-/
namespace Go.Proofs.Ytgmljpkenipgjaa.J
open Go.RowKit Go.Maps Go.Shelf Pk

attribute [local go_sem] Oper.semAt_some

set_option maxRecDepth 100000 in
set_option maxHeartbeats 2000000 in
theorem areRows_any (a : Option Addr) (N c : Nat) (R : Nat → List It) (la : Nat → Option Addr) (lc : Nat → Nat) (w : World) (hR : RsAt w a N R la lc) (hN : N ≤ 17592186044416) (hl : ∀ i, i < N → (R i).length ≤ 17592186044416) (r : Bool) (hr : r = true ↔ MayLay N R) :
    Calls Try.prog 28 #[.slice a N c] w fun e y => e = .returned (.bool r) ∧ w.grownBy y none := by
  have HR : Hid (∀ X, w.grownBy X none → RsAt X a N R la lc) := fun X hX => hR.kept hX
  have HLL : Hid (∀ i, i < N → (R i).length ≤ 17592186044416) := hl
  have HRR : Hid (r = true ↔ MayLay N R) := hr
  clear hR hl hr
  have HNO : Hid (¬ MayLay N R → false = r) := fun h => by
    cases hrr : r with
    | false => rfl
    | true => exact absurd (HRR.out.1 hrr) h
  by_cases hb : 256 < N
  · have d0 : decide ((256 : Int) < (N : Int)) = true := decide_eq_true (by omega)
    have d0' : decide (256 < N) = true := decide_eq_true hb
    have HF : Hid (false = r) := HNO.out fun h => by have := h.1; omega
    clear hb
    go_enter Try.func28, Try.ntmps28
    go_wp2_with fail
    go_ret
    exact ⟨congrArg (fun b => Ending.returned (Value.bool b)) HF.out, grown_refl _ _⟩
  · have d0 : decide ((256 : Int) < (N : Int)) = false := decide_eq_false (by omega)
    have d0' : decide (256 < N) = false := decide_eq_false hb
    have hN2 : N ≤ 256 := by omega
    clear hb
    go_enter Try.func28, Try.ntmps28
    go_wp2_with fail
    go_loopg [10] N (fun gk v4 wr => ∃ (k : Nat), k ≤ N ∧ gk = N - k ∧ v4 = .int .i64 k ∧ (∀ i, i < k → IsRow (R i)) ∧ w.grownBy wr none)
    case atStart => exact ⟨0, Nat.zero_le _, rfl, rfl, fun i hi => absurd hi (Nat.not_lt_zero _), grown_refl _ _⟩
    case round =>
      obtain ⟨k, hk, hgk, rfl, hrw, hg⟩ := hrel
      have HGK : Hid (gk = N - k) := hgk
      have HRW : Hid (∀ i, i < k → IsRow (R i)) := hrw
      have HG : Hid (w.grownBy wr none) := hg
      clear hgk hrw hg
      by_cases hkn : k < N
      · have hkd : decide ((k : Int) < (N : Int)) = true := decide_eq_true (by omega)
        have hkd' : decide (k < N) = true := decide_eq_true hkn
        have hk0 : (0 : Int) ≤ (k : Int) := by omega
        have hk1 : (k : Int) < (N : Int) := by omega
        have hRw := HR.out wr HG.out
        obtain ⟨ra, ro, rfl, cr⟩ : ∃ ra ro, a = some ⟨ra, ro, none⟩ ∧ wr.cell? ⟨ra, ro + k, none⟩ = some (.slice (la k) (R k).length (lc k)) := by
          rcases hRw.1 with h | ⟨ra, ro, e, h⟩
          · omega
          · exact ⟨ra, ro, e, h k hkn⟩
        obtain ⟨r2, hr2⟩ : ∃ r : Bool, r = true ↔ IsRow (R k) := by
          by_cases h : IsRow (R k)
          · exact ⟨true, by simp [h]⟩
          · exact ⟨false, by simp [h]⟩
        have HR2 : Hid (r2 = true ↔ IsRow (R k)) := hr2
        have HC : Hid (Calls Try.prog 40 #[.slice (la k) (R k).length (lc k)] wr fun e y => e = .returned (.bool r2) ∧ wr.grownBy y none) := isRow_any (la k) (lc k) (R k) wr (hRw.2 k hkn) (HLL.out k hkn) r2 hr2
        obtain ⟨ln, hln⟩ : ∃ v, v = (R k).length := ⟨_, rfl⟩
        rw [← hln] at cr HC
        clear hr2 hRw hln
        go_wp2_with fail
        refine Calls.mono HC.out ?_
        rintro e y ⟨rfl, hy⟩
        have HY : Hid (wr.grownBy y none) := hy
        clear hy HC cr
        cases r2 with
        | false =>
          have HF : Hid (false = r) := HNO.out fun h => absurd (HR2.out.2 (h.2 k hkn)) (by decide)
          go_wp2_with fail
          go_ret
          exact ⟨congrArg (fun b => Ending.returned (Value.bool b)) HF.out, grown_trans HG.out HY.out⟩
        | true =>
          have HRK : Hid (IsRow (R k)) := HR2.out.1 rfl
          go_wp2_with fail
          go_roundg (N - (k + 1))
          case measure => have := HGK.out; omega
          case rel =>
            refine ⟨k + 1, by omega, rfl, by go_num, fun i hi => ?_, grown_trans HG.out HY.out⟩
            by_cases e : i = k
            · subst e; exact HRK.out
            · exact HRW.out i (by omega)
      · have hkd : decide ((k : Int) < (N : Int)) = false := decide_eq_false (by omega)
        have hkd' : decide (k < N) = false := decide_eq_false hkn
        have hkk : k = N := by omega
        subst hkk
        have HF : Hid (true = r) := (HRR.out.2 ⟨hN2, HRW.out⟩).symm
        go_wp2_with fail
        go_ret
        exact ⟨congrArg (fun b => Ending.returned (Value.bool b)) HF.out, HG.out⟩

end Go.Proofs.Ytgmljpkenipgjaa.J
