import Derived.Test.YthoamlahbnphkaaGreatQmfkmplcjbmnc
import Derived.Deep.RegionHeld3
import Derived.Test.YthoamlahbnphkaaGreatQclnnonbocidb
import Derived.Test.YthoamlahbnphkaaGreatQnmigoemenbcm
import Derived.Test.YthoamlahbnphkaaGreatQlgnomllaihgp

/-
  The document's Copy of any grammar: the same in new memory.
-/
namespace Go.Proofs.YthoamlahbnphkaaGreat
open Go.RowKit Go.Maps Go.Shelf

attribute [local go_sem] Oper.semAt_some

/-- While a grammar is copied: its box, the result's and the copy's. -/
structure CpAt (w X : World) (gb : Nat) (gv bv : Array Value) : Prop where
  grown : w.grownBy X none
  lo : w.heap.size ≤ gb
  gbox : X.heap[gb]? = some (.cells gv 27 (0, 0))
  rbox : X.heap[gb + 1]? = some (.cells #[.slice none 0 0, .slice none 0 0, .slice none 0 0, .int .i64 0, .slice none 0 0] 27 (0, 0))
  bbox : X.heap[gb + 1 + 1]? = some (.cells bv 27 (0, 0))

section
variable {w X Y : World} {gb : Nat} {gv bv : Array Value}
theorem CpAt.kept (h : CpAt w X gb gv bv) (hg : X.grownBy Y none) : CpAt w Y gb gv bv :=
  ⟨grown_trans h.grown hg, h.lo, (hg.block _ (Array.getElem?_eq_some_iff.1 h.gbox).1 (by simp)).trans h.gbox, (hg.block _ (Array.getElem?_eq_some_iff.1 h.rbox).1 (by simp)).trans h.rbox, (hg.block _ (Array.getElem?_eq_some_iff.1 h.bbox).1 (by simp)).trans h.bbox⟩
theorem CpAt.lt (h : CpAt w X gb gv bv) : gb + 1 + 1 < X.heap.size := (Array.getElem?_eq_some_iff.1 h.bbox).1
theorem CpAt.store (h : CpAt w X gb gv bv) (k : Nat) (v : Value) : CpAt w (X.setCell ⟨gb + 1 + 1, k, none⟩ v) gb gv (bv.setIfInBounds k v) :=
  ⟨grown_new h.grown (grown_setCell _ _ _) (by have := h.lo; omega), h.lo, ((grown_setCell (gb + 1 + 1) k v).block gb (Array.getElem?_eq_some_iff.1 h.gbox).1 (by simp; omega)).trans h.gbox, ((grown_setCell (gb + 1 + 1) k v).block (gb + 1) (Array.getElem?_eq_some_iff.1 h.rbox).1 (by simp)).trans h.rbox, heap_setCell_same X (gb + 1 + 1) k _ _ v h.bbox⟩
theorem CpAt.g (h : CpAt w X gb gv bv) (k : Nat) (v : Value) (hv : gv[k]? = some v) : X.cell? ⟨gb, k, none⟩ = some v := by rw [cell_of_row _ _ _ _ _ _ h.gbox]; exact hv
theorem CpAt.x (h : CpAt w X gb gv bv) (k : Nat) (v : Value) (hv : bv[k]? = some v) : X.cell? ⟨gb + 1 + 1, k, none⟩ = some v := by rw [cell_of_row _ _ _ _ _ _ h.bbox]; exact hv
theorem CpAt.xf (h : CpAt w X gb gv bv) (k : Nat) : X.frozen? ⟨gb + 1 + 1, k, none⟩ = false := frozen_of_row _ _ _ _ _ h.bbox
theorem CpAt.row {e s n : Nat} {v : Value} {xs : List Value} (h : CpAt w X gb gv bv) (ho : X.ownsRow (gb + 1 + 1 + 1) e s v n xs) (hg : X.grownBy Y v.ownBlock) : CpAt w Y gb gv bv := by
  cases hv : v.ownBlock with
  | none => rw [hv] at hg; exact h.kept hg
  | some q =>
    rw [hv] at hg
    have hq := (ho.lt q hv).1
    have hlo := h.lo
    exact ⟨grown_new h.grown hg (by omega), h.lo, (hg.block _ (Array.getElem?_eq_some_iff.1 h.gbox).1 (by simp; omega)).trans h.gbox, (hg.block _ (Array.getElem?_eq_some_iff.1 h.rbox).1 (by simp; omega)).trans h.rbox, (hg.block _ (Array.getElem?_eq_some_iff.1 h.bbox).1 (by simp; omega)).trans h.bbox⟩
end

/-- The rows of a copy, k of its productions. -/
structure CpRows (X : World) (B : Nat) (ts : List (ByteArray × Int)) (ns : List ByteArray) (lv : List Int) (tn nn ln k : Nat) (L : Nat → Int) (R : Nat → List Int) (V : Nat → Int) (v1 v2 v3 v4 : Value) (rg : Nat → Value) : Prop where
  t : X.ownsRow B 88 2 v1 tn (tmsL ts)
  s : X.ownsRow B 9 1 v2 nn (ns.map Value.string)
  l : X.ownsRow B 3 1 v3 ln (lv.map (Value.int .i64))
  p : X.ownsRow B 71 3 v4 k (prodRow k L rg V)
  rr : ∀ i, i < k → X.ownsRow B 3 1 (rg i) (R i).length ((R i).map (Value.int .i64))

section
variable {X Y : World} {B tn nn ln k : Nat} {ts : List (ByteArray × Int)} {ns : List ByteArray} {lv : List Int} {L : Nat → Int} {R : Nat → List Int} {V : Nat → Int} {v1 v2 v3 v4 : Value} {rg : Nat → Value}
theorem CpRows.kept (h : CpRows X B ts ns lv tn nn ln k L R V v1 v2 v3 v4 rg) (hg : X.grownBy Y none) : CpRows Y B ts ns lv tn nn ln k L R V v1 v2 v3 v4 rg :=
  ⟨keep0 h.t hg, keep0 h.s hg, keep0 h.l hg, keep0 h.p hg, fun i hi => keep0 (h.rr i hi) hg⟩
theorem CpRows.box {kb j : Nat} {u : Value} (h : CpRows X (kb + 1) ts ns lv tn nn ln k L R V v1 v2 v3 v4 rg) : CpRows (X.setCell ⟨kb, j, none⟩ u) (kb + 1) ts ns lv tn nn ln k L R V v1 v2 v3 v4 rg :=
  ⟨owns_box h.t, owns_box h.s, owns_box h.l, owns_box h.p, fun i hi => owns_box (h.rr i hi)⟩
theorem CpRows.push {v5 v6 : Value} (h : CpRows X B ts ns lv tn nn ln k L R V v1 v2 v3 v4 rg) (h5 : X.ownsRow B 3 1 v5 (R k).length ((R k).map (Value.int .i64)))
    (h6 : Y.ownsRow B 71 3 v6 (k + 1) (prodRow k L rg V ++ [.int .i64 (L k), v5, .int .i64 (V k)])) (hg : X.grownBy Y v4.ownBlock) : CpRows Y B ts ns lv tn nn ln (k + 1) L R V v1 v2 v3 v6 (fun i => if i = k then v5 else rg i) := by
  refine ⟨owns_other h.t h.p (by decide) hg, owns_other h.s h.p (by decide) hg, owns_other h.l h.p (by decide) hg, ?_, fun i hi => ?_⟩
  · rw [prodRow_succ, if_pos rfl, ← prodRow_ext (n := k) (L := L) (L' := L) (r := rg) (V := V) (V' := V) (fun _ _ => rfl) (fun i hi => by rw [if_neg (by omega)]) (fun _ _ => rfl)]
    exact h6
  · by_cases e : i = k
    · subst e
      simp only [if_true]
      exact owns_other h5 h.p (by decide) hg
    · simp only [if_neg e]
      exact owns_other (h.rr i (by omega)) h.p (by decide) hg
end

theorem results_rcopy (tmps : Array Value) (w : World) (g : Nat) (cs : Array Value) (h2 : tmps.getD 2 undef = .pointer (some ⟨g, 0, none⟩)) (hg : w.heap[g]? = some (.cells cs 27 (0, 0))) (hs : cs.size = 5) :
    (results Tryz.f8 tmps).run Tryz.prog w = .ok (.agg cs) w := by
  have h2' : tmps[2]?.getD undef = .pointer (some ⟨g, 0, none⟩) := by simpa using h2
  have hl := run_loadVar_row (P := Tryz.prog) w g 27 27 cs (0, 0) _ hg Tryz.underlying27 rfl (by rw [infoG, hs])
  simp [results, Tryz.results8, h2', asAddr, hl]

theorem ints_one (l : List Int) : ∀ u ∈ l.map (Value.int .i64), u.oneCell' = true := by
  intro u hu
  obtain ⟨t, _, rfl⟩ := List.mem_map.1 hu
  rfl

set_option maxRecDepth 100000 in
set_option maxHeartbeats 4000000 in
theorem rcopy_core (ta na la pa : Option Addr) (tn nn ln n tc nc lc pc : Nat) (st : Int) (ts : List (ByteArray × Int)) (ns : List ByteArray) (lv : List Int) (L : Nat → Int) (R : Nat → List Int) (ra : Nat → Option Addr) (rc : Nat → Nat) (V : Nat → Int) (w : World) (hlen : ts.length = tn ∧ ns.length = nn ∧ lv.length = ln)
    (hG : GAt w ta na la pa tc nc lc pc ts ns lv n L R ra rc V) (hnt : ta = none → tn = 0 ∧ tc = 0) (hnl : la = none → ln = 0 ∧ lc = 0) (h1 : tn * 24 ≤ 140737488355328) (h2 : nn * 16 ≤ 140737488355328) (h3 : ln * 8 ≤ 140737488355328) (h4 : n * 40 ≤ 140737488355328) :
    Calls Tryz.prog 8 #[.agg #[.slice ta tn tc, .slice na nn nc, .slice la ln lc, .int .i64 st, .slice pa n pc]] w fun e w' => ∃ vt vn vl vp, e = .returned (.agg #[vt, vn, vl, .int .i64 st, vp]) ∧ GramNew w' w.heap.size (grOf ts ns lv st n L R V) vt vn vl vp ∧ w.grownBy w' none := by
  obtain ⟨iT, hiT, hT0, hT1, hT2⟩ := info_parts infoTerm
  obtain ⟨iS, hiS, hS0, hS1, hS2⟩ := info_parts infoStr
  obtain ⟨iI, hiI, hI0, hI1, hI2⟩ := info_parts infoInt
  obtain ⟨iP, hiP, hP0, hP1, hP2⟩ := info_parts infoProd
  have HG : Hid (GAt w ta na la pa tc nc lc pc ts ns lv n L R ra rc V) := hG
  have HNT : Hid (ta = none → tn = 0 ∧ tc = 0) := hnt
  have HNL : Hid (la = none → ln = 0 ∧ lc = 0) := hnl
  have HNN : Hid (na = none → nn = 0 ∧ nc = 0) := by have := hG.nnil; rw [hlen.2.1] at this; exact this
  have HLN : Hid (ts.length = tn ∧ ns.length = nn ∧ lv.length = ln) := hlen
  have HPB : Hid (∀ k, k < n → ∃ b off, pa = some ⟨b, off, none⟩ ∧ w.cell? ⟨b, off + k * 3, none⟩ = some (.int .i64 (L k)) ∧ w.cell? ⟨b, off + k * 3 + 1, none⟩ = some (.slice (ra k) (R k).length (rc k)) ∧ w.cell? ⟨b, off + k * 3 + 2, none⟩ = some (.int .i64 (V k)) ∧ IntsAt w (ra k) (R k) ∧ (ra k = none → rc k = 0) ∧ (R k).length ≤ 17592186044416) := by
    intro k hk
    rcases hG.prods with h | ⟨b, off, e, h⟩
    · omega
    · exact ⟨b, off, e, h k hk⟩
  have HSL1 : Hid ((tmsL ts).length = tn * 2) := by show _ = _; rw [tms_cells_len, hlen.1]
  have HSL2 : Hid ((ns.map Value.string).length = nn * 1) := by show _ = _; rw [List.length_map, hlen.2.1, Nat.mul_one]
  have HSL3 : Hid ((lv.map (Value.int .i64)).length = ln * 1) := by show _ = _; rw [List.length_map, hlen.2.2, Nat.mul_one]
  have HC0 : Hid (CpAt w (((w.alloc (.cells #[.slice ta tn tc, .slice na nn nc, .slice la ln lc, .int .i64 st, .slice pa n pc] 27)).alloc (.cells #[.slice none 0 0, .slice none 0 0, .slice none 0 0, .int .i64 0, .slice none 0 0] 27)).alloc (.cells #[.slice none 0 0, .slice none 0 0, .slice none 0 0, .int .i64 st, .slice none 0 0] 27)) w.heap.size #[.slice ta tn tc, .slice na nn nc, .slice la ln lc, .int .i64 st, .slice pa n pc] #[.slice none 0 0, .slice none 0 0, .slice none 0 0, .int .i64 st, .slice none 0 0]) := by
    have g1 := World.grownBy_alloc w (.cells #[.slice ta tn tc, .slice na nn nc, .slice la ln lc, .int .i64 st, .slice pa n pc] 27) none
    have b1 := heap_alloc_last w (.cells #[.slice ta tn tc, .slice na nn nc, .slice la ln lc, .int .i64 st, .slice pa n pc] 27)
    have g2 := World.grownBy_alloc (w.alloc (.cells #[.slice ta tn tc, .slice na nn nc, .slice la ln lc, .int .i64 st, .slice pa n pc] 27)) (.cells #[.slice none 0 0, .slice none 0 0, .slice none 0 0, .int .i64 0, .slice none 0 0] 27) none
    have b2 := heap_alloc_last (w.alloc (.cells #[.slice ta tn tc, .slice na nn nc, .slice la ln lc, .int .i64 st, .slice pa n pc] 27)) (.cells #[.slice none 0 0, .slice none 0 0, .slice none 0 0, .int .i64 0, .slice none 0 0] 27)
    have g3 := World.grownBy_alloc ((w.alloc (.cells #[.slice ta tn tc, .slice na nn nc, .slice la ln lc, .int .i64 st, .slice pa n pc] 27)).alloc (.cells #[.slice none 0 0, .slice none 0 0, .slice none 0 0, .int .i64 0, .slice none 0 0] 27)) (.cells #[.slice none 0 0, .slice none 0 0, .slice none 0 0, .int .i64 st, .slice none 0 0] 27) none
    have b3 := heap_alloc_last ((w.alloc (.cells #[.slice ta tn tc, .slice na nn nc, .slice la ln lc, .int .i64 st, .slice pa n pc] 27)).alloc (.cells #[.slice none 0 0, .slice none 0 0, .slice none 0 0, .int .i64 0, .slice none 0 0] 27)) (.cells #[.slice none 0 0, .slice none 0 0, .slice none 0 0, .int .i64 st, .slice none 0 0] 27)
    rw [World.size_alloc] at b2
    rw [World.size_alloc, World.size_alloc] at b3
    have b1' := (g2.block _ (Array.getElem?_eq_some_iff.1 b1).1 (by simp)).trans b1
    exact ⟨grown_trans g1 (grown_trans g2 g3), Nat.le_refl _, (g3.block _ (Array.getElem?_eq_some_iff.1 b1').1 (by simp)).trans b1', (g3.block _ (Array.getElem?_eq_some_iff.1 b2).1 (by simp)).trans b2, b3⟩
  have HF1 : Hid (∀ X v1 wA, CpAt w X w.heap.size #[.slice ta tn tc, .slice na nn nc, .slice la ln lc, .int .i64 st, .slice pa n pc] #[.slice none 0 0, .slice none 0 0, .slice none 0 0, .int .i64 st, .slice none 0 0] → wA.ownsRow (w.heap.size + 1 + 1 + 1) 88 2 v1 (0 + tn) ([] ++ tmsL ts) → X.grownBy wA none → ∃ a c, v1 = .slice a tn c ∧ CpAt w wA w.heap.size #[.slice ta tn tc, .slice na nn nc, .slice la ln lc, .int .i64 st, .slice pa n pc] #[.slice none 0 0, .slice none 0 0, .slice none 0 0, .int .i64 st, .slice none 0 0] ∧ CpAt w (wA.setCell ⟨w.heap.size + 1 + 1, 0, none⟩ (.slice a tn c)) w.heap.size #[.slice ta tn tc, .slice na nn nc, .slice la ln lc, .int .i64 st, .slice pa n pc] #[.slice a tn c, .slice none 0 0, .slice none 0 0, .int .i64 st, .slice none 0 0] ∧ (wA.setCell ⟨w.heap.size + 1 + 1, 0, none⟩ (.slice a tn c)).ownsRow (w.heap.size + 1 + 1 + 1) 88 2 (.slice a tn c) tn (tmsL ts)) := by
    intro X v1 wA hC ho hg
    rw [List.nil_append, Nat.zero_add] at ho
    obtain ⟨a, c, rfl⟩ := owns_slice ho
    exact ⟨a, c, rfl, hC.kept hg, (hC.kept hg).store 0 _, owns_box ho⟩
  have HF2 : Hid (∀ X v1 wA a1 c1, CpAt w X w.heap.size #[.slice ta tn tc, .slice na nn nc, .slice la ln lc, .int .i64 st, .slice pa n pc] #[.slice a1 tn c1, .slice none 0 0, .slice none 0 0, .int .i64 st, .slice none 0 0] → X.ownsRow (w.heap.size + 1 + 1 + 1) 88 2 (.slice a1 tn c1) tn (tmsL ts) → wA.ownsRow (w.heap.size + 1 + 1 + 1) 9 1 v1 (0 + nn) ([] ++ ns.map Value.string) → X.grownBy wA none → ∃ a c, v1 = .slice a nn c ∧ CpAt w wA w.heap.size #[.slice ta tn tc, .slice na nn nc, .slice la ln lc, .int .i64 st, .slice pa n pc] #[.slice a1 tn c1, .slice none 0 0, .slice none 0 0, .int .i64 st, .slice none 0 0] ∧ CpAt w (wA.setCell ⟨w.heap.size + 1 + 1, 1, none⟩ (.slice a nn c)) w.heap.size #[.slice ta tn tc, .slice na nn nc, .slice la ln lc, .int .i64 st, .slice pa n pc] #[.slice a1 tn c1, .slice a nn c, .slice none 0 0, .int .i64 st, .slice none 0 0] ∧ (wA.setCell ⟨w.heap.size + 1 + 1, 1, none⟩ (.slice a nn c)).ownsRow (w.heap.size + 1 + 1 + 1) 88 2 (.slice a1 tn c1) tn (tmsL ts) ∧ (wA.setCell ⟨w.heap.size + 1 + 1, 1, none⟩ (.slice a nn c)).ownsRow (w.heap.size + 1 + 1 + 1) 9 1 (.slice a nn c) nn (ns.map Value.string)) := by
    intro X v1 wA a1 c1 hC hT ho hg
    rw [List.nil_append, Nat.zero_add] at ho
    obtain ⟨a, c, rfl⟩ := owns_slice ho
    exact ⟨a, c, rfl, hC.kept hg, (hC.kept hg).store 1 _, owns_box (keep0 hT hg), owns_box ho⟩
  have HF3 : Hid (∀ X v1 wA a1 c1 a2 c2, CpAt w X w.heap.size #[.slice ta tn tc, .slice na nn nc, .slice la ln lc, .int .i64 st, .slice pa n pc] #[.slice a1 tn c1, .slice a2 nn c2, .slice none 0 0, .int .i64 st, .slice none 0 0] → X.ownsRow (w.heap.size + 1 + 1 + 1) 88 2 (.slice a1 tn c1) tn (tmsL ts) → X.ownsRow (w.heap.size + 1 + 1 + 1) 9 1 (.slice a2 nn c2) nn (ns.map Value.string) → wA.ownsRow (w.heap.size + 1 + 1 + 1) 3 1 v1 (0 + ln) ([] ++ lv.map (Value.int .i64)) → X.grownBy wA none → ∃ a c, v1 = .slice a ln c ∧ CpAt w wA w.heap.size #[.slice ta tn tc, .slice na nn nc, .slice la ln lc, .int .i64 st, .slice pa n pc] #[.slice a1 tn c1, .slice a2 nn c2, .slice none 0 0, .int .i64 st, .slice none 0 0] ∧ CpAt w (wA.setCell ⟨w.heap.size + 1 + 1, 2, none⟩ (.slice a ln c)) w.heap.size #[.slice ta tn tc, .slice na nn nc, .slice la ln lc, .int .i64 st, .slice pa n pc] #[.slice a1 tn c1, .slice a2 nn c2, .slice a ln c, .int .i64 st, .slice none 0 0] ∧ (wA.setCell ⟨w.heap.size + 1 + 1, 2, none⟩ (.slice a ln c)).ownsRow (w.heap.size + 1 + 1 + 1) 88 2 (.slice a1 tn c1) tn (tmsL ts) ∧ (wA.setCell ⟨w.heap.size + 1 + 1, 2, none⟩ (.slice a ln c)).ownsRow (w.heap.size + 1 + 1 + 1) 9 1 (.slice a2 nn c2) nn (ns.map Value.string) ∧ (wA.setCell ⟨w.heap.size + 1 + 1, 2, none⟩ (.slice a ln c)).ownsRow (w.heap.size + 1 + 1 + 1) 3 1 (.slice a ln c) ln (lv.map (Value.int .i64))) := by
    intro X v1 wA a1 c1 a2 c2 hC hT hS ho hg
    rw [List.nil_append, Nat.zero_add] at ho
    obtain ⟨a, c, rfl⟩ := owns_slice ho
    exact ⟨a, c, rfl, hC.kept hg, (hC.kept hg).store 2 _, owns_box (keep0 hT hg), owns_box (keep0 hS hg), owns_box ho⟩
  clear hG hnt hnl hlen
  go_enter Tryz.func8, Tryz.ntmps8
  go_wp2_with (first
    | (at_builtin; refine wpList_append_src rfl (.tmp 10) (.tmp 12) 22 rfl (w.heap.size + 1 + 1 + 1) 88 iT (.agg #[.string ⟨#[]⟩, .int .i64 0]) 2 24 Tryz.underlying22 hiT hT0 hT1 hT2 rfl (by decide) (.slice none 0 0) 0 [] rfl (World.ownsRow_nil _ _ _ _) ta tn tc (tmsL ts) rfl HNT.out HSL1.out (terms_cells (HG.out.kept HC0.out.grown).terms) (tms_one ts) (by unfold maxLen; omega) (by omega) (by have := HC0.out.lt; omega) ?_; intro v1 wA hoA hgA; obtain ⟨a1, c1, rfl, hA, hA', hR1⟩ := HF1.out _ _ _ HC0.out hoA hgA; have HA1 : Hid (CpAt w (wA.setCell ⟨w.heap.size + 1 + 1, 0, none⟩ (.slice a1 tn c1)) w.heap.size #[.slice ta tn tc, .slice na nn nc, .slice la ln lc, .int .i64 st, .slice pa n pc] #[.slice a1 tn c1, .slice none 0 0, .slice none 0 0, .int .i64 st, .slice none 0 0]) := hA'; have HR1 : Hid ((wA.setCell ⟨w.heap.size + 1 + 1, 0, none⟩ (.slice a1 tn c1)).ownsRow (w.heap.size + 1 + 1 + 1) 88 2 (.slice a1 tn c1) tn (tmsL ts)) := hR1; have q0 := hA.x 0 _ rfl; have q1 := hA.x 1 _ rfl; have q2 := hA.xf 0; have q3 := hA.g 1 _ rfl; clear hoA hgA hA hA' hR1)
    | (at_builtin; refine wpList_append_src rfl (.tmp 16) (.tmp 18) 23 rfl (w.heap.size + 1 + 1 + 1) 9 iS (.string ByteArray.empty) 1 16 Tryz.underlying23 hiS hS0 hS1 hS2 rfl (by decide) (.slice none 0 0) 0 [] rfl (World.ownsRow_nil _ _ _ _) na nn nc (ns.map Value.string) rfl HNN.out HSL2.out (strs_cells (HG.out.kept HA1.out.grown).nons) (strs_one ns) (by unfold maxLen; omega) (by omega) (by have := HA1.out.lt; omega) ?_; intro v2 wB hoB hgB; obtain ⟨a2, c2, rfl, hB, hB', hR1, hR2⟩ := HF2.out _ _ _ _ _ HA1.out HR1.out hoB hgB; clear HR1 q0 q1 q2 q3; have HA2 : Hid (CpAt w (wB.setCell ⟨w.heap.size + 1 + 1, 1, none⟩ (.slice a2 nn c2)) w.heap.size #[.slice ta tn tc, .slice na nn nc, .slice la ln lc, .int .i64 st, .slice pa n pc] #[.slice a1 tn c1, .slice a2 nn c2, .slice none 0 0, .int .i64 st, .slice none 0 0]) := hB'; have HR1 : Hid ((wB.setCell ⟨w.heap.size + 1 + 1, 1, none⟩ (.slice a2 nn c2)).ownsRow (w.heap.size + 1 + 1 + 1) 88 2 (.slice a1 tn c1) tn (tmsL ts)) := hR1; have HR2 : Hid ((wB.setCell ⟨w.heap.size + 1 + 1, 1, none⟩ (.slice a2 nn c2)).ownsRow (w.heap.size + 1 + 1 + 1) 9 1 (.slice a2 nn c2) nn (ns.map Value.string)) := hR2; have q0 := hB.x 1 _ rfl; have q1 := hB.x 2 _ rfl; have q2 := hB.xf 1; have q3 := hB.g 2 _ rfl; clear hoB hgB hB hB' hR1 hR2)
    | (at_builtin; refine wpList_append_src rfl (.tmp 22) (.tmp 24) 24 rfl (w.heap.size + 1 + 1 + 1) 3 iI (.int .i64 0) 1 8 Tryz.underlying24 hiI hI0 hI1 hI2 rfl (by decide) (.slice none 0 0) 0 [] rfl (World.ownsRow_nil _ _ _ _) la ln lc (lv.map (Value.int .i64)) rfl HNL.out HSL3.out (ints_cells (HG.out.kept HA2.out.grown).levels) (ints_one lv) (by unfold maxLen; omega) (by omega) (by have := HA2.out.lt; omega) ?_; intro v3 wC hoC hgC; obtain ⟨a3, c3, rfl, hC, hC', hR1, hR2, hR3⟩ := HF3.out _ _ _ _ _ _ _ HA2.out HR1.out HR2.out hoC hgC; clear HR1 HR2 q0 q1 q2 q3; have HA3 : Hid (CpAt w (wC.setCell ⟨w.heap.size + 1 + 1, 2, none⟩ (.slice a3 ln c3)) w.heap.size #[.slice ta tn tc, .slice na nn nc, .slice la ln lc, .int .i64 st, .slice pa n pc] #[.slice a1 tn c1, .slice a2 nn c2, .slice a3 ln c3, .int .i64 st, .slice none 0 0]) := hC'; have HR1 : Hid ((wC.setCell ⟨w.heap.size + 1 + 1, 2, none⟩ (.slice a3 ln c3)).ownsRow (w.heap.size + 1 + 1 + 1) 88 2 (.slice a1 tn c1) tn (tmsL ts)) := hR1; have HR2 : Hid ((wC.setCell ⟨w.heap.size + 1 + 1, 2, none⟩ (.slice a3 ln c3)).ownsRow (w.heap.size + 1 + 1 + 1) 9 1 (.slice a2 nn c2) nn (ns.map Value.string)) := hR2; have HR3 : Hid ((wC.setCell ⟨w.heap.size + 1 + 1, 2, none⟩ (.slice a3 ln c3)).ownsRow (w.heap.size + 1 + 1 + 1) 3 1 (.slice a3 ln c3) ln (lv.map (Value.int .i64))) := hR3; have q0 := hC.x 2 _ rfl; have q2 := hC.xf 2; clear hoC hgC hC hC' hR1 hR2 hR3))
  have HR4 : Hid (CpRows (wC.setCell ⟨w.heap.size + 1 + 1, 2, none⟩ (.slice a3 ln c3)) (w.heap.size + 1 + 1 + 1) ts ns lv tn nn ln 0 L R V (.slice a1 tn c1) (.slice a2 nn c2) (.slice a3 ln c3) (.slice none 0 0) fun _ => undef) := ⟨HR1.out, HR2.out, HR3.out, World.ownsRow_nil _ _ _ _, fun i hi => absurd hi (Nat.not_lt_zero i)⟩
  clear HR1 HR2 HR3 q0 q2 HA1 HA2 HF1 HF2 HF3 HC0
  go_loopg [4, 5] n (fun gk i v5 wr => ∃ (k : Nat) (a4 : Option Addr) (c4 : Nat) (rg : Nat → Value), k ≤ n ∧ gk = n - k ∧ i = .int .i64 k ∧ CpAt w wr w.heap.size #[.slice ta tn tc, .slice na nn nc, .slice la ln lc, .int .i64 st, .slice pa n pc] #[.slice a1 tn c1, .slice a2 nn c2, .slice a3 ln c3, .int .i64 st, .slice a4 k c4] ∧ CpRows wr (w.heap.size + 1 + 1 + 1) ts ns lv tn nn ln k L R V (.slice a1 tn c1) (.slice a2 nn c2) (.slice a3 ln c3) (.slice a4 k c4) rg)
  case atStart => exact ⟨0, none, 0, _, Nat.zero_le _, rfl, rfl, HA3.out, HR4.out⟩
  case round =>
    obtain ⟨k, a4, c4, rg, hk, hgk, rfl, hA, hR⟩ := hrel
    have HGK : Hid (gk = n - k) := hgk
    have HA : Hid (CpAt w wr w.heap.size #[.slice ta tn tc, .slice na nn nc, .slice la ln lc, .int .i64 st, .slice pa n pc] #[.slice a1 tn c1, .slice a2 nn c2, .slice a3 ln c3, .int .i64 st, .slice a4 k c4]) := hA
    have HR : Hid (CpRows wr (w.heap.size + 1 + 1 + 1) ts ns lv tn nn ln k L R V (.slice a1 tn c1) (.slice a2 nn c2) (.slice a3 ln c3) (.slice a4 k c4) rg) := hR
    have m4 := hA.g 4 _ rfl
    clear hgk hA hR HA3 HR4
    by_cases hlt : k < n
    · obtain ⟨bp, op, rfl, p0, p1, p2, hI, hrn, hrl⟩ := HPB.out k hlt
      have d0 := HA.out.grown.cell p0 (by simp)
      have d1 := HA.out.grown.cell p1 (by simp)
      have d2 := HA.out.grown.cell p2 (by simp)
      have HI : Hid (IntsAt w (ra k) (R k)) := hI
      have HRN : Hid (ra k = none → rc k = 0) := hrn
      obtain ⟨len, hlen⟩ : ∃ x, x = (R k).length := ⟨_, rfl⟩
      obtain ⟨Lk, hLk⟩ : ∃ x, x = L k := ⟨_, rfl⟩
      obtain ⟨Vk, hVk⟩ : ∃ x, x = V k := ⟨_, rfl⟩
      have HLE : Hid (len = (R k).length) := hlen
      have HLK : Hid (Lk = L k) := hLk
      have HVK : Hid (Vk = V k) := hVk
      rw [← hlen] at d1 hrl
      rw [← hLk] at d0
      rw [← hVk] at d2
      have hi0 : (0 : Int) ≤ (k : Int) := by omega
      have hi1 : (k : Int) < (n : Int) := by omega
      have HKP : Hid (wr.drew.cell? ⟨w.heap.size, 4, none⟩ = some (.slice (some ⟨bp, op, none⟩) n pc) ∧ wr.drew.cell? ⟨bp, op + k * 3, none⟩ = some (.int .i64 Lk) ∧ wr.drew.cell? ⟨bp, op + k * 3 + 2, none⟩ = some (.int .i64 Vk)) := ⟨m4, d0, d2⟩
      clear p0 p1 p2 hI hrn hlen hLk hVk
      go_wp2_with fail
      go_region_held3 (fun w' => w'.cell? ⟨w.heap.size, 4, none⟩ = some (.slice (some ⟨bp, op, none⟩) n pc) ∧ w'.cell? ⟨bp, op + k * 3, none⟩ = some (.int .i64 Lk) ∧ w'.cell? ⟨bp, op + k * 3 + 2, none⟩ = some (.int .i64 Vk)) (first | exact HKP.out | go_keep) (fail)
      go_wp2_with fail
      obtain ⟨Z, hZ⟩ : ∃ Z, Z = wr.heap.size := ⟨_, rfl⟩
      obtain ⟨X1, hX1⟩ : ∃ X1, X1 = (wr.alloc (.cells #[.int .i64 Lk, .slice none 0 0, .int .i64 Vk] 71)).drew := ⟨_, rfl⟩
      have hXZ : X1.drew.heap[Z]? = some (.cells #[.int .i64 Lk, .slice none 0 0, .int .i64 Vk] 71 (0, 0)) := by rw [hX1, hZ]; exact heap_alloc_last wr _
      have HX1 : Hid (wr.grownBy X1.drew none) := by rw [hX1]; exact grown_trans (World.grownBy_alloc wr _ none) (grown_drewN _ 2)
      have e1 := HX1.out.cell m4 (by simp)
      have e2 := HX1.out.cell d1 (by simp)
      have e3 : X1.drew.cell? ⟨Z, 1, none⟩ = some (.slice none 0 0) := by rw [cell_of_row _ _ _ _ _ _ hXZ]; rfl
      have HSRC : Hid (∀ ad, ra k = some ad → ∀ j u, ((R k).map (Value.int .i64))[j]? = some u → X1.drew.cell? (ad.add j) = some u) := ints_cells (HI.out.kept (grown_trans HA.out.grown HX1.out))
      have HSL : Hid (((R k).map (Value.int .i64)).length = len * 1) := by show _ = _; rw [List.length_map, HLE.out, Nat.mul_one]
      have HNIL : Hid (ra k = none → len = 0 ∧ rc k = 0) := by
        intro h
        refine ⟨?_, HRN.out h⟩
        rcases HI.out with h0 | ⟨b, off, e, _⟩
        · rw [HLE.out, h0]; rfl
        · rw [h] at e; cases e
      have HBS : Hid (w.heap.size + 1 + 1 + 1 ≤ X1.drew.heap.size) := by show _ ≤ _; have := HA.out.lt; have := HX1.out.size; omega
      have HFIN : Hid (∀ v5 wA, wA.ownsRow (w.heap.size + 1 + 1 + 1) 3 1 v5 (0 + len) ([] ++ (R k).map (Value.int .i64)) → X1.drew.grownBy wA none → ∃ a c, v5 = .slice a len c ∧ wA.cell? ⟨Z, 1, none⟩ = some (.slice none 0 0) ∧ wA.frozen? ⟨Z, 1, none⟩ = false ∧ wr.grownBy (wA.setCell ⟨Z, 1, none⟩ (.slice a len c)) none ∧ (wA.setCell ⟨Z, 1, none⟩ (.slice a len c)).heap[Z]? = some (.cells #[.int .i64 Lk, .slice a len c, .int .i64 Vk] 71 (0, 0)) ∧ (wA.setCell ⟨Z, 1, none⟩ (.slice a len c)).ownsRow (w.heap.size + 1 + 1 + 1) 3 1 (.slice a len c) len ((R k).map (Value.int .i64))) := by
        intro v5 wA ho hg
        rw [List.nil_append, Nat.zero_add] at ho
        obtain ⟨a, c, rfl⟩ := owns_slice ho
        have hbz := (hg.block Z (Array.getElem?_eq_some_iff.1 hXZ).1 (by simp)).trans hXZ
        refine ⟨a, c, rfl, by rw [cell_of_row _ _ _ _ _ _ hbz]; rfl, frozen_of_row _ _ _ _ _ hbz, grown_new (grown_trans HX1.out hg) (grown_setCell _ _ _) (by omega), heap_setCell_same wA Z 1 _ _ _ hbz, ?_⟩
        exact ho.kept (grown_setCell Z 1 _) (owns_nebox ho hbz (by decide))
      rw [← hZ, ← hX1]
      clear hX1 hXZ hZ d0 d1 d2 m4 HKP HI HRN
      go_cut [] from 47 to 56 (fun wx => ∃ a c, wr.grownBy wx none ∧ wx.heap[Z]? = some (.cells #[.int .i64 Lk, .slice a len c, .int .i64 Vk] 71 (0, 0)) ∧ wx.ownsRow (w.heap.size + 1 + 1 + 1) 3 1 (.slice a len c) len ((R k).map (Value.int .i64)))
      case first =>
        go_region_law ((refine step_append_src rfl (.tmp 48) (.tmp 54) 24 rfl (w.heap.size + 1 + 1 + 1) 3 iI (.int .i64 0) 1 8 Tryz.underlying24 hiI hI0 hI1 hI2 rfl (by decide) (.slice none 0 0) 0 [] (by simp [Act.eval]) (World.ownsRow_nil _ _ _ _) (ra k) len (rc k) ((R k).map (Value.int .i64)) (by simp [Act.eval]) HNIL.out HSL.out HSRC.out (ints_one (R k)) (by unfold maxLen; omega) (by omega) HBS.out ?_; intro v5 wA hoA hgA; obtain ⟨a5, c5, rfl, y1, y2, y3⟩ := HFIN.out v5 wA hoA hgA; have HY : Hid (wr.grownBy (wA.setCell ⟨Z, 1, none⟩ (.slice a5 len c5)) none ∧ (wA.setCell ⟨Z, 1, none⟩ (.slice a5 len c5)).heap[Z]? = some (.cells #[.int .i64 Lk, .slice a5 len c5, .int .i64 Vk] 71 (0, 0)) ∧ (wA.setCell ⟨Z, 1, none⟩ (.slice a5 len c5)).ownsRow (w.heap.size + 1 + 1 + 1) 3 1 (.slice a5 len c5) len ((R k).map (Value.int .i64))) := y3; clear y3))
        all_goals go_wp2_with fail
        all_goals go_meet
        all_goals exact ⟨a5, c5, HY.out⟩
      case rest =>
        obtain ⟨a5, c5, hW, hWZ, hWo⟩ := hcut
        have HW : Hid (wr.grownBy wc none) := hW
        have HWZ : Hid (wc.heap[Z]? = some (.cells #[.int .i64 Lk, .slice a5 len c5, .int .i64 Vk] 71 (0, 0))) := hWZ
        have HWO : Hid (wc.ownsRow (w.heap.size + 1 + 1 + 1) 3 1 (.slice a5 len c5) len ((R k).map (Value.int .i64))) := hWo
        have z0 : wc.cell? ⟨Z, 0, none⟩ = some (.int .i64 Lk) := by rw [cell_of_row _ _ _ _ _ _ hWZ]; rfl
        have z1 : wc.cell? ⟨Z, 1, none⟩ = some (.slice a5 len c5) := by rw [cell_of_row _ _ _ _ _ _ hWZ]; rfl
        have z2 : wc.cell? ⟨Z, 2, none⟩ = some (.int .i64 Vk) := by rw [cell_of_row _ _ _ _ _ _ hWZ]; rfl
        have x4 := (HA.out.kept hW).x 4 _ rfl
        have HRW : Hid (CpRows wc (w.heap.size + 1 + 1 + 1) ts ns lv tn nn ln k L R V (.slice a1 tn c1) (.slice a2 nn c2) (.slice a3 ln c3) (.slice a4 k c4) rg) := HR.out.kept hW
        have HAW : Hid (CpAt w wc w.heap.size _ #[.slice a1 tn c1, .slice a2 nn c2, .slice a3 ln c3, .int .i64 st, .slice a4 k c4]) := HA.out.kept hW
        have hzz := HAW.out.lt
        clear hW hWZ hWo HFIN HSRC HSL HNIL HBS HX1 e1 e2 e3 HR HA
        go_wp2_with (at_builtin; refine wpList_append_src rfl (.tmp 58) (.tmp 60) 25 rfl (w.heap.size + 1 + 1 + 1) 71 iP (.agg #[.int .i64 0, .slice none 0 0, .int .i64 0]) 3 40 Tryz.underlying25 hiP hP0 hP1 hP2 rfl (by decide) (.slice a4 k c4) k (prodRow k L rg V) rfl (keep0 HRW.out.p (World.grownBy_alloc _ _ none)) (some ⟨wc.heap.size, 0, none⟩) 1 1 [.int .i64 Lk, .slice a5 len c5, .int .i64 Vk] rfl (fun h => by cases h) rfl (fun ad e => by cases e; exact news_new wc _ _) (by simp [Value.oneCell']) (by unfold maxLen; omega) (by omega) (by simp; omega) ?_; intro v6 wB hoB hgB; have HOB := show Hid _ from hoB; have HGB := show Hid _ from hgB; obtain ⟨a6, c6, rfl⟩ := owns_slice hoB; have y0 := ((HAW.out.kept (World.grownBy_alloc _ _ none)).row (keep0 HRW.out.p (World.grownBy_alloc _ _ none)) hgB).x 4 _ rfl; have y1 := ((HAW.out.kept (World.grownBy_alloc _ _ none)).row (keep0 HRW.out.p (World.grownBy_alloc _ _ none)) hgB).xf 4; clear hoB hgB)
        go_roundg (n - (k + 1))
        case measure => have := HGK.out; omega
        case rel =>
          rw [HLK.out, HVK.out] at HOB HGB
          have hob := HOB.out
          have hgb := HGB.out
          have hwo := HWO.out
          rw [HLE.out] at hwo hob hgb
          have hAl := World.grownBy_alloc wc (.cells #[.int .i64 (L k), .slice a5 (R k).length c5, .int .i64 (V k)] 71) none
          exact ⟨k + 1, a6, c6, _, by omega, rfl, by go_num, ((HAW.out.kept hAl).row (keep0 HRW.out.p hAl) hgb).store 4 _, ((HRW.out.kept hAl).push (keep0 hwo hAl) hob hgb).box⟩
    · obtain rfl : n = k := by omega
      obtain ⟨r0, r1, r2, r3, r4⟩ : wr.cell? ⟨w.heap.size + 1 + 1, 0, none⟩ = some (.slice a1 tn c1) ∧ wr.cell? ⟨w.heap.size + 1 + 1, 1, none⟩ = some (.slice a2 nn c2) ∧ wr.cell? ⟨w.heap.size + 1 + 1, 2, none⟩ = some (.slice a3 ln c3) ∧ wr.cell? ⟨w.heap.size + 1 + 1, 3, none⟩ = some (.int .i64 st) ∧ wr.cell? ⟨w.heap.size + 1 + 1, 4, none⟩ = some (.slice a4 n c4) := ⟨HA.out.x 0 _ rfl, HA.out.x 1 _ rfl, HA.out.x 2 _ rfl, HA.out.x 3 _ rfl, HA.out.x 4 _ rfl⟩
      obtain ⟨s0, s1, s2, s3, s4⟩ : wr.cell? ⟨w.heap.size + 1, 0, none⟩ = some (.slice none 0 0) ∧ wr.cell? ⟨w.heap.size + 1, 1, none⟩ = some (.slice none 0 0) ∧ wr.cell? ⟨w.heap.size + 1, 2, none⟩ = some (.slice none 0 0) ∧ wr.cell? ⟨w.heap.size + 1, 3, none⟩ = some (.int .i64 0) ∧ wr.cell? ⟨w.heap.size + 1, 4, none⟩ = some (.slice none 0 0) := by
        refine ⟨?_, ?_, ?_, ?_, ?_⟩ <;> rw [cell_of_row _ _ _ _ _ _ HA.out.rbox] <;> rfl
      have sf : ∀ j, wr.frozen? ⟨w.heap.size + 1, j, none⟩ = false := fun j => frozen_of_row _ _ _ _ _ HA.out.rbox
      have hst := set5_grown wr (w.heap.size + 1) (.slice a1 tn c1) (.slice a2 nn c2) (.slice a3 ln c3) (.int .i64 st) (.slice a4 n c4)
      have hF3 := set5_heap HA.out.rbox (.slice a1 tn c1) (.slice a2 nn c2) (.slice a3 ln c3) (.int .i64 st) (.slice a4 n c4)
      have HST := show Hid _ from hst
      have HF3 := show Hid _ from hF3
      clear hst hF3
      go_wp2_with fail
      refine bodyPost_ret (v := .agg #[.slice a1 tn c1, .slice a2 nn c2, .slice a3 ln c3, .int .i64 st, .slice a4 n c4]) ?_ rfl ?_
      · exact results_rcopy _ _ (w.heap.size + 1) _ rfl HF3.out rfl
      · have hT' := HR.out.t
        have hN' := HR.out.s
        have hL' := HR.out.l
        rw [← HLN.out.1] at hT' ⊢
        rw [← HLN.out.2.1] at hN' ⊢
        rw [← HLN.out.2.2] at hL' ⊢
        have hst := HST.out
        rw [← HLN.out.1, ← HLN.out.2.1, ← HLN.out.2.2] at hst
        exact ⟨_, _, _, _, rfl, copy_fin (k := w.heap.size + 1) (by omega) (owns_lower hT' (by omega)) (owns_lower hN' (by omega)) (owns_lower hL' (by omega)) ⟨owns_lower HR.out.p (by omega), fun i hi => owns_lower (HR.out.rr i hi) (by omega)⟩ hst, grown_new HA.out.grown hst (by omega)⟩

end Go.Proofs.YthoamlahbnphkaaGreat

/-
  The document's Copy, told as a grammar that can be read.
-/
namespace Go.Proofs.YthoamlahbnphkaaGreat
open Go.RowKit Go.Maps Go.Shelf

theorem prods_new {w : World} {B n pc : Nat} {pa : Option Addr} {L V : Nat → Int} {R : Nat → List Int} {rg : Nat → Value} (hp : w.ownsRow B 71 3 (.slice pa n pc) n (prodRow n L rg V)) (hr : ∀ i, i < n → w.ownsRow B 3 1 (rg i) (R i).length ((R i).map (Value.int .i64))) (h5 : ∀ i, i < n → (R i).length ≤ 17592186044416) :
    ∃ ra rc, ProdsAt w pa n L R ra rc V ∧ ∀ i, i < n → (R i).length ≤ rc i := by
  have hI : ∀ k, ∃ x : Option Addr × Nat, k < n → rg k = .slice x.1 (R k).length x.2 ∧ IntsAt w x.1 (R k) ∧ (x.1 = none → x.2 = 0) ∧ (R k).length ≤ x.2 := fun k => by
    by_cases hk : k < n
    · obtain ⟨a, c, hv⟩ := owns_slice (hr k hk)
      have h0 := hr k hk
      rw [hv] at h0
      obtain ⟨h1, h2⟩ := owns_bounds h0
      exact ⟨(a, c), fun _ => ⟨hv, owns_intsAt h0 rfl, fun h => (h2 h).2, h1⟩⟩
    · exact ⟨(none, 0), fun h => absurd h hk⟩
  refine ⟨fun k => (Classical.choose (hI k)).1, fun k => (Classical.choose (hI k)).2, ?_, fun i hi => (Classical.choose_spec (hI i) hi).2.2.2⟩
  by_cases h0 : n = 0
  · exact .inl h0
  · rcases hp.2 with ⟨_, hz⟩ | ⟨g, cap, cur, hv, _, hc, _⟩
    · exact absurd hz h0
    · simp at hv
      obtain ⟨rfl, rfl⟩ := hv
      refine .inr ⟨g, 0, rfl, fun k hk => ?_⟩
      obtain ⟨e1, e2, e3, _⟩ := Classical.choose_spec (hI k) hk
      have c0 := prodRow_at L rg V n k hk 0 (by omega)
      have c1 := prodRow_at L rg V n k hk 1 (by omega)
      have c2 := prodRow_at L rg V n k hk 2 (by omega)
      rw [e1] at c1
      have cell := fun j u hu => World.ownsRow.cells hp (g := g) rfl j u hu
      have d0 := cell (k * 3) _ c0
      have d1 := cell (k * 3 + 1) _ c1
      have d2 := cell (k * 3 + 2) _ c2
      rw [Addr.add_mid] at d0 d1 d2
      rw [Nat.zero_add]
      rw [Nat.zero_add] at d0 d1 d2
      exact ⟨d0, d1, d2, e2, e3, h5 k hk⟩

theorem ProdsAt.ext {w : World} {pa : Option Addr} {n : Nat} {L L' V V' : Nat → Int} {R R' : Nat → List Int} {ra : Nat → Option Addr} {rc : Nat → Nat} (h : ProdsAt w pa n L R ra rc V) (h1 : ∀ i, i < n → L i = L' i) (h2 : ∀ i, i < n → R i = R' i) (h3 : ∀ i, i < n → V i = V' i) : ProdsAt w pa n L' R' ra rc V' := by
  rcases h with h | ⟨b, off, e, hc⟩
  · exact .inl h
  · refine .inr ⟨b, off, e, fun k hk => ?_⟩
    rw [← h1 k hk, ← h2 k hk, ← h3 k hk]
    exact hc k hk

theorem GramNew.read {w : World} {B n : Nat} {ts : List (ByteArray × Int)} {ns : List ByteArray} {lv : List Int} {st : Int} {L : Nat → Int} {R : Nat → List Int} {V : Nat → Int} {vt vn vl vp : Value} (h : GramNew w B (grOf ts ns lv st n L R V) vt vn vl vp) (h1 : ts.length ≤ 17592186044416) (h2 : ns.length ≤ 17592186044416) (h3 : lv.length ≤ 17592186044416) (h4 : n ≤ 17592186044416) (h5 : ∀ i, i < n → (R i).length ≤ 17592186044416) :
    ∃ ta na la pa tc nc lc pc ra rc, vt = .slice ta ts.length tc ∧ vn = .slice na ns.length nc ∧ vl = .slice la lv.length lc ∧ vp = .slice pa n pc ∧ GAt w ta na la pa tc nc lc pc ts ns lv n L R ra rc V ∧ (∀ i, i < n → (R i).length ≤ rc i) ∧ (ta = none → ts.length = 0 ∧ tc = 0) ∧ (la = none → lv.length = 0 ∧ lc = 0) := by
  have e1 : (grOf ts ns lv st n L R V).terms = ts := rfl
  have e2 : (grOf ts ns lv st n L R V).nons = ns := rfl
  have e3 : (grOf ts ns lv st n L R V).levels = lv := rfl
  have hT := h.terms
  have hN := h.nons
  have hL := h.levels
  obtain ⟨rg, hp, hr⟩ := h.prods
  rw [grOf_len] at hp hr
  rw [e1] at hT
  rw [e2] at hN
  rw [e3] at hL
  obtain ⟨ta, tc, rfl⟩ := owns_slice hT
  obtain ⟨na, nc, rfl⟩ := owns_slice hN
  obtain ⟨la, lc, rfl⟩ := owns_slice hL
  obtain ⟨pa, pc, rfl⟩ := owns_slice hp
  obtain ⟨hT1, htc⟩ := owns_termsAt hT rfl
  obtain ⟨_, htn⟩ := owns_bounds hT
  obtain ⟨hnc, hnn⟩ := owns_bounds hN
  obtain ⟨_, hln⟩ := owns_bounds hL
  obtain ⟨hpc, hpn⟩ := owns_bounds hp
  obtain ⟨ra, rc, hP, hrc⟩ := prods_new hp hr (fun i hi => by rw [grOf_at _ _ _ _ _ _ _ _ hi]; exact h5 i hi)
  refine ⟨ta, na, la, pa, tc, nc, lc, pc, ra, rc, rfl, rfl, rfl, rfl, ⟨hT1, StrsIn.strsAt (v := .slice na ns.length nc) (owns_base hN) rfl, owns_intsAt hL rfl, hP.ext (fun i hi => by rw [grOf_at _ _ _ _ _ _ _ _ hi]) (fun i hi => by rw [grOf_at _ _ _ _ _ _ _ _ hi]) (fun i hi => by rw [grOf_at _ _ _ _ _ _ _ _ hi]), htc, hnc, hpc, hnn, hpn, h1, h2, h3, h4⟩, fun i hi => ?_, htn, hln⟩
  have := hrc i hi
  rw [grOf_at _ _ _ _ _ _ _ _ hi] at this
  exact this

theorem rcopy_any (ta na la pa : Option Addr) (tn nn ln n tc nc lc pc : Nat) (st : Int) (ts : List (ByteArray × Int)) (ns : List ByteArray) (lv : List Int) (L : Nat → Int) (R : Nat → List Int) (ra : Nat → Option Addr) (rc : Nat → Nat) (V : Nat → Int) (w : World) (hlen : ts.length = tn ∧ ns.length = nn ∧ lv.length = ln)
    (hG : GAt w ta na la pa tc nc lc pc ts ns lv n L R ra rc V) (hnt : ta = none → tn = 0 ∧ tc = 0) (hnl : la = none → ln = 0 ∧ lc = 0) (h1 : tn * 24 ≤ 140737488355328) (h2 : nn * 16 ≤ 140737488355328) (h4 : n * 40 ≤ 140737488355328) :
    Calls Tryz.prog 8 #[.agg #[.slice ta tn tc, .slice na nn nc, .slice la ln lc, .int .i64 st, .slice pa n pc]] w fun e w' => ∃ ta' na' la' pa' tc' nc' lc' pc' ra' rc', e = .returned (.agg #[.slice ta' tn tc', .slice na' nn nc', .slice la' ln lc', .int .i64 st, .slice pa' n pc']) ∧ GAt w' ta' na' la' pa' tc' nc' lc' pc' ts ns lv n L R ra' rc' V ∧ (∀ i, i < n → (R i).length ≤ rc' i) ∧ (ta' = none → tn = 0 ∧ tc' = 0) ∧ (la' = none → ln = 0 ∧ lc' = 0) ∧ w.grownBy w' none := by
  refine (rcopy_core ta na la pa tn nn ln n tc nc lc pc st ts ns lv L R ra rc V w hlen hG hnt hnl h1 h2 (by have := hG.llen; rw [hlen.2.2] at this; omega) h4).mono ?_
  rintro e w' ⟨vt, vn, vl, vp, rfl, hN, hg⟩
  obtain ⟨ta', na', la', pa', tc', nc', lc', pc', ra', rc', rfl, rfl, rfl, rfl, hG', hrc, hn1, hn2⟩ := hN.read hG.tlen hG.nlen hG.llen hG.plen (fun i hi => by
    rcases hG.prods with h | ⟨b, off, e, h⟩
    · omega
    · exact (h i hi).2.2.2.2.2)
  obtain ⟨rfl, rfl, rfl⟩ := hlen
  exact ⟨ta', na', la', pa', tc', nc', lc', pc', ra', rc', rfl, hG', hrc, hn1, hn2, hg⟩

end Go.Proofs.YthoamlahbnphkaaGreat

/-
  reach: sets of symbols in a grammar's memory: marksOf, covers, ofNons.
-/
namespace Go.Proofs.YthoamlahbnphkaaGreat
open Go.RowKit Go.Maps Go.Shelf

theorem grown_of_below {w w' : World} (h : Below w.heap.size w w') : w.grownBy w' none := ⟨h.os, h.tape, h.output, h.size, fun k hk _ => h.block k hk⟩
theorem below_of_grown {w w' : World} (h : w.grownBy w' none) : Below w.heap.size w w' := ⟨h.os, h.tape, h.output, h.size, fun k hk => h.block k hk (by simp)⟩
theorem SetM_kept {w w' : World} {b n m : Nat} (h : B.SetM w (some ⟨b, 0, none⟩) n m) (hg : w.grownBy w' none) : B.SetM w' (some ⟨b, 0, none⟩) n m := B.SetM.keep h (below_of_grown hg)
theorem SetM_row {w : World} {b n m : Nat} (h : B.SetM w (some ⟨b, 0, none⟩) n m) : B.RowAt w b n (B.wd m) := by
  rcases h.2.2 with ⟨h, _⟩ | ⟨b', e, hr⟩
  · simp at h
  · simp at e; rw [e]; exact hr
theorem SetM_lt {w : World} {b n m : Nat} (h : B.SetM w (some ⟨b, 0, none⟩) n m) : b < w.heap.size := (SetM_row h).lt

theorem grown_at {w w1 w2 : World} {b : Nat} (h : w.grownBy w1 none) (hg : w1.grownBy w2 (some b)) (hb : w.heap.size ≤ b) : w.grownBy w2 none :=
  ⟨hg.os.trans h.os, hg.tape.trans h.tape, hg.output.trans h.output, Nat.le_trans h.size hg.size, fun k hk _ => (hg.block k (Nat.lt_of_lt_of_le hk h.size) (by simp; omega)).trans (h.block k hk (by simp))⟩
theorem SetM_at {w w' : World} {b c n m : Nat} (h : B.SetM w (some ⟨b, 0, none⟩) n m) (hg : w.grownBy w' (some c)) (hne : b ≠ c) : B.SetM w' (some ⟨b, 0, none⟩) n m :=
  B.SetM.of ((hg.block b (SetM_lt h) (by simpa using hne)).trans (SetM_row h)) h.1 h.2.1
theorem addStep_bit (n m k : Nat) (x : Int) (i : Nat) : (B.addStep n (m, k) x).1.testBit i = (m.testBit i || (decide (i < n) && decide ((i : Int) = x))) := by
  unfold B.addStep
  by_cases h : (B.inB n x && !B.hasB m x) = true
  · rw [if_pos h]
    simp [B.inB] at h
    obtain ⟨y, rfl⟩ := Int.eq_ofNat_of_zero_le h.1.1
    have hy : y < n := by omega
    rw [Nat.testBit_or, Nat.testBit_two_pow]
    by_cases e : i = y
    · subst e; simp [hy]
    · have e1 : ¬ y = i := fun h => e h.symm
      simp [e1]
      intro _ h2; exact absurd (by omega) e
  · rw [if_neg h]
    by_cases e : (i : Int) = x
    · subst e
      by_cases hi : i < n
      · have : m.testBit i = true := by simpa [B.inB, B.hasB, hi] using h
        simp [this]
      · simp [hi]
    · simp [e]

theorem addS_bit (n : Nat) (l : List Int) (i : Nat) : ∀ m : Nat, (B.addS n m l).1.testBit i = (m.testBit i || (decide (i < n) && l.contains (i : Int))) := by
  unfold B.addS
  generalize 0 = k
  induction l generalizing k with
  | nil => intro m; simp
  | cons x l ih =>
    intro m
    rw [List.foldl_cons]
    rcases hs : B.addStep n (m, k) x with ⟨m2, k2⟩
    rw [ih k2 m2]
    have := addStep_bit n m k x i
    rw [hs] at this
    rw [this]
    by_cases e : (i : Int) = x
    · simp [e]
      intro h _; exact Or.inr h
    · have e2 : ((i : Int) == x) = false := by simp [e]
      simp only [List.contains_cons, e2, Bool.false_or, e, decide_false, Bool.and_false, Bool.or_false]

theorem clampN_sum (a b : Nat) (h : a + b ≤ 1024) : B.clampN ((a : Int) + (b : Int)) = a + b := by unfold B.clampN; omega

end Go.Proofs.YthoamlahbnphkaaGreat

/-
  reach: covers, ofNons.
-/
namespace Go.Proofs.YthoamlahbnphkaaGreat
open Go.RowKit Go.Maps Go.Shelf

theorem pc_or (k : Nat) : ∀ a b : Nat, B.pc k a ≤ B.pc k (a ||| b) ∧ (B.pc k (a ||| b) = B.pc k a ↔ ∀ i, i < k → b.testBit i = true → a.testBit i = true) := by
  unfold B.pc
  induction k with
  | zero => intro a b; simp [B.ds]
  | succ k ih =>
    intro a b
    have h1 := ih (a / 2) (b / 2)
    rw [← Nat.or_div_two] at h1
    have h0 : (a ||| b).testBit 0 = (a.testBit 0 || b.testBit 0) := Nat.testBit_or a b 0
    simp only [Nat.testBit_zero] at h0
    simp only [B.ds]
    generalize B.ds 2 k ((a ||| b) / 2) = x at *
    have ha := Nat.mod_two_eq_zero_or_one a
    have hb := Nat.mod_two_eq_zero_or_one b
    have hab := Nat.mod_two_eq_zero_or_one (a ||| b)
    have hle : a % 2 ≤ (a ||| b) % 2 := by
      rcases ha with ha | ha <;> rcases hb with hb | hb <;> rcases hab with hab | hab <;> simp [ha, hb, hab] at h0 ⊢
    refine ⟨by omega, ?_⟩
    constructor
    · intro h i hi
      have e1 : (a ||| b) % 2 = a % 2 := by omega
      cases i with
      | zero =>
        simp only [Nat.testBit_zero]
        rw [e1] at h0
        intro h2
        rw [h2, Bool.or_true] at h0
        exact h0
      | succ i => simp only [Nat.testBit_succ]; exact h1.2.1 (by omega) i (by omega)
    · intro h
      have e2 : x = _ := h1.2.2 fun i hi => by have := h (i + 1) (by omega); simpa only [Nat.testBit_succ] using this
      have e0 := h 0 (by omega)
      simp only [Nat.testBit_zero] at e0
      have e1 : (a ||| b) % 2 = a % 2 := by
        rcases ha with ha | ha <;> rcases hb with hb | hb <;> rcases hab with hab | hab <;> simp [ha, hb, hab] at h0 e0 ⊢
      omega

theorem cov_pure {n m s : Nat} (hn : n ≤ 1024) (hs : s < 2 ^ n) (r : Bool) (hr : r = true ↔ ∀ i, s.testBit i = true → m.testBit i = true) :
    (((B.cnt (m ||| (s &&& (2 ^ n - 1))) : Nat) : Int) - (B.cnt m : Nat) == 0) = r := by
  have e : s &&& (2 ^ n - 1) = s := by rw [Nat.and_two_pow_sub_one_eq_mod, Nat.mod_eq_of_lt hs]
  rw [e]
  have h := pc_or 1024 m s
  unfold B.cnt
  rw [Bool.eq_iff_iff, hr, beq_iff_eq]
  constructor
  · intro h1 i hi
    have hi2 : i < 1024 := Decidable.byContradiction fun hc => by
      rw [Nat.testBit_lt_two_pow (Nat.lt_of_lt_of_le hs (Nat.pow_le_pow_right (by decide) (by omega)))] at hi
      simp at hi
    exact h.2.1 (by omega) i hi2 hi
  · intro h1
    have := h.2.2 fun i _ hi => h1 i hi
    omega

theorem cnt_le (x : Nat) : B.cnt x ≤ 1024 := B.pc_le _ _

theorem new_cell (w : World) (v : Value) (t : TypeId) : (w.alloc (.cells #[v] t)).cell? ⟨w.heap.size, 0, none⟩ = some v := by
  rw [cell_of_row _ _ _ _ _ _ (heap_alloc_last w _)]; rfl

theorem calls_at {P : Program} {f : FuncId} {args : Array Value} {w : World} {Q : Ending → World → Prop} (w0 : World) (e : w = w0) (h : Calls P f args w0 Q) : Calls P f args w Q := by rw [e]; exact h

/-- A union with one other. -/
theorem union_one (b c n m s bl : Nat) (w : World) (hm : B.SetM w (some ⟨b, 0, none⟩) n m) (hs : B.SetM w (some ⟨c, 0, none⟩) n s) (hne : c ≠ b) (hnl : bl ≠ b) (hl : w.cell? ⟨bl, 0, none⟩ = some (.pointer (some ⟨c, 0, none⟩))) (z : Int) (hz : z = ((B.cnt (m ||| (s &&& (2 ^ n - 1))) : Nat) : Int) - (B.cnt m : Nat)) (u : Nat) (hu : u = m ||| (s &&& (2 ^ n - 1))) :
    Calls Tryz.prog 127 #[.pointer (some ⟨b, 0, none⟩), .slice (some ⟨bl, 0, none⟩) 1 1] w fun e w' =>
      e = .returned (.int .i64 z) ∧ B.SetM w' (some ⟨b, 0, none⟩) n u ∧ w.grownBy w' (some b) := by
  have h := B.union_core b n m bl 0 1 B.cnt [(some ⟨c, 0, none⟩, s)] w B.countIs cnt_le hm.1 hm.2.1 (SetM_row hm) hnl (by simp) (World.block_lt_of_cell? w _ hl)
    (fun i hi => by have : i = 0 := by simpa using hi
                    subst this; exact hl)
    (fun i hi => by have : i = 0 := by simpa using hi
                    subst this; exact .inr ⟨fun h => hne (by injection h with h1; injection h1), n, hs⟩)
  refine Calls.mono h ?_
  rintro e w' ⟨he, hr, hb⟩
  rw [hz, hu]
  refine ⟨he, B.SetM.of hr hm.1 (B.lt_or hm.2.1 (B.lt_and_right (B.ones_lt n))), hb.os, hb.tape, hb.output, hb.size, fun k hk hne => hb.block k hk (by simpa using hne)⟩

end Go.Proofs.YthoamlahbnphkaaGreat
