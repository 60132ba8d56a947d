/-
  A new name in a table: the map and the list are replaced.
-/
import Derived.Test.YtkbpnafahimeiaaTables
namespace Go.Proofs.Ytkbpnafahimeiaa
open Go.RowKit Go.Maps

theorem str_oneCell (s : ByteArray) : ∀ u ∈ [Value.string s], u.oneCell' = true := by
  intro u hu; simp at hu; subst hu; rfl

theorem owns_apart_map {w : World} {e size n B k : Nat} {v : Value} {xs : List Value} {D : DataW Unit} (h : w.ownsRow 0 e size v n xs) (hm : w.ownsMap Try.prog 9 strR B k D) : v.ownBlock = none ∨ v.ownBlock ≠ some B := by
  rcases h.2 with ⟨rfl, _⟩ | ⟨g, cap, cur, rfl, _, hg, _⟩
  · exact .inl rfl
  · right
    intro hh
    obtain ⟨es, clock, hb, _⟩ := hm
    have hh' : g = B := by simpa [Value.ownBlock] using hh
    rw [hh'] at hg
    rw [hb] at hg
    cases hg

/-- What add leaves. -/
def Added (w w' : World) (b o : Nat) (c : Nat → Value) (l : List ByteArray) (s : ByteArray) : Prop :=
  ∃ m v, BRow w' b (putC (putC c (o + 1) v) o m) ∧ MapIs w' m (l ++ [s]) ∧ StrsIn w' v (l ++ [s]) ∧ w.grownBy w' (some b) ∧ ∀ g, v.ownBlock = some g → w.heap.size ≤ g

/-- Behind the map's own making: the list grows, the map is told the new name, both are laid into the builder. -/
theorem add_some (b o : Nat) (c : Nat → Value) (l : List ByteArray) (s : ByteArray) (w : World) (hr : BRow w b c) (ho : o + 1 < 72) (B n : Nat) (D : DataW Unit) (hm : c o = .map (some B)) (hn : n ≤ l.length)
    (hown : w.ownsMap Try.prog 9 strR B n D) (hat : ∀ s : ByteArray, D.atKey (.string s.data.toList) (.lit (.int .i64 0)) = .lit (.int .i64 (numOf l s)))
    (hl : StrsIn w (c (o + 1)) l) (hs : s ∉ l) (hlen : l.length < 64) (hsz : s.size ≤ 16) :
    Calls Try.prog 81 #[.pointer (some ⟨b, o, none⟩), .string s] w fun e w' => e = .returned (.int .i64 (l.length + 1)) ∧ Added w w' b o c l s := by
  obtain ⟨i0, hi, hz0, hz1, hz2⟩ := info_parts infoStr
  have hltw := hr.lt
  have hc0 := hr.cell o (by omega)
  rw [hm] at hc0
  have hcl := clone_some B n D w hown
  obtain ⟨a, cap, hv, hle, hnil, hcells⟩ := hl.form
  have hc1 := hr.cell (o + 1) ho
  rw [hv] at hc1
  have hq := fun (w : World) (p : Option Nat) => run_eql_map_nil_sl (P := Try.prog) w 61 _ _ p Try.underlying61
  have HR : Hid (BRow w b c) := hr
  have HL : Hid (StrsIn w (.slice a l.length cap) l) := by rw [← hv]; exact hl
  have HC : Hid (∀ g, a = some g → ∀ j u, (l.map Value.string)[j]? = some u → w.cell? (g.add j) = some u) := hcells
  have HAT : Hid (∀ s : ByteArray, D.atKey (.string s.data.toList) (.lit (.int .i64 0)) = .lit (.int .i64 (numOf l s))) := hat
  have HS : Hid (s ∉ l) := hs
  clear hr hl hcells hat hs hown hm hv
  go_enter Try.func81, Try.ntmps81
  go_wp2_with fail
  refine hcl.mono ?_
  clear hcl hc0
  rintro e w1 ⟨rfl, hown1, hg1⟩
  have hR1 : BRow w1 b c := HR.out.kept hg1 (by simp)
  have hc1' : w1.cell? ⟨b, o + 1, none⟩ = some (.slice a l.length cap) := hg1.cell hc1 (by simp)
  have HC1 : Hid (∀ g, a = some g → ∀ j u, (l.map Value.string)[j]? = some u → w1.cell? (g.add j) = some u) := fun g hg j u hu => hg1.cell (HC.out g hg j u hu) (by simp)
  have HR1 : Hid (BRow w1 b c) := hR1
  have HG1 : Hid (w.grownBy w1 none) := hg1
  have HO1 : Hid (w1.ownsMap Try.prog 9 strR w.heap.size n D) := hown1
  clear hg1 hown1 hR1 hc1 HC
  go_wp2_with fail
  refine (clip_str a l.length cap _ hle hnil).mono ?_
  rintro e w1' ⟨rfl, hw⟩
  subst hw
  go_wp2_with (at_builtin; refine wpList_append_new _ rfl _ _ 29 rfl 9 i0 (.string ByteArray.empty) 1 16 Try.underlying29 hi hz0 hz1 hz2 rfl (by decide) a l.length l.length (l.map Value.string) rfl ?hnil (by simp) ?hcs ⟨w1'.heap.size, 0, none⟩ 1 1 [.string s] rfl rfl (cell_one_new _ _ _) (str_oneCell s) (by omega) (by unfold maxLen; omega) (by omega) ?_)
  case hnil => exact fun h => ⟨(hnil h).1, (hnil h).1⟩
  case hcs => exact fun g hg j u hu => (World.grownBy_alloc _ _ none).cell (HC1.out g hg j u hu) (by simp)
  intro g c' w2 hown2 hg2
  have HGE : Hid (w.heap.size ≤ g) := by
    have h1 := (hown2.lt g rfl).1
    have h2 := HG1.out.size
    show w.heap.size ≤ g
    first | omega | (simp at h1; omega)
  have hG2 : w1'.grownBy w2 none := grown_trans (World.grownBy_alloc _ _ none) hg2
  have hR2 : BRow w2 b c := HR1.out.kept hG2 (by simp)
  have hcell2 := hR2.cell (o + 1) ho
  have hfz2 := hR2.free (o + 1)
  have hcell0 := hR2.cell o (by omega)
  have hfz0 := hR2.free o
  have hlt := hR2.lt
  have hR3 : BRow (w2.setCell ⟨b, o + 1, none⟩ (.slice (some ⟨g, 0, none⟩) (l.length + 1) c')) b (putC c (o + 1) (.slice (some ⟨g, 0, none⟩) (l.length + 1) c')) := hR2.set (o + 1) _ ho
  have hc3 : (w2.setCell ⟨b, o + 1, none⟩ (.slice (some ⟨g, 0, none⟩) (l.length + 1) c')).cell? ⟨b, o + 1, none⟩ = some (.slice (some ⟨g, 0, none⟩) (l.length + 1) c') := by rw [hR3.cell (o + 1) ho, putC_same]
  have hG3 : w.grownBy (w2.setCell ⟨b, o + 1, none⟩ (.slice (some ⟨g, 0, none⟩) (l.length + 1) c')) (some b) := grown_trans (grown_but _ (grown_trans HG1.out hG2)) (grown_setCell _ _ _)
  have hO3 : (w2.setCell ⟨b, o + 1, none⟩ (.slice (some ⟨g, 0, none⟩) (l.length + 1) c')).ownsMap Try.prog 9 strR w.heap.size n D := by
    have hO2 := HO1.out.kept hG2 (by simp)
    exact hO2.kept (grown_setCell b (o + 1) _) (map_apart hO2 hR2.apart)
  have hS3 : StrsIn (w2.setCell ⟨b, o + 1, none⟩ (.slice (some ⟨g, 0, none⟩) (l.length + 1) c')) (.slice (some ⟨g, 0, none⟩) (l.length + 1) c') (l ++ [s]) := by
    have h2 : StrsIn w2 (.slice (some ⟨g, 0, none⟩) (l.length + 1) c') (l ++ [s]) := by
      have := owns_base hown2
      unfold StrsIn
      simpa using this
    exact h2.kept (grown_setCell b (o + 1) _) hR2.apart
  have HR3 : Hid (BRow (w2.setCell ⟨b, o + 1, none⟩ (.slice (some ⟨g, 0, none⟩) (l.length + 1) c')) b (putC c (o + 1) (.slice (some ⟨g, 0, none⟩) (l.length + 1) c'))) := hR3
  have HG3 : Hid (w.grownBy (w2.setCell ⟨b, o + 1, none⟩ (.slice (some ⟨g, 0, none⟩) (l.length + 1) c')) (some b)) := hG3
  have HO3 : Hid ((w2.setCell ⟨b, o + 1, none⟩ (.slice (some ⟨g, 0, none⟩) (l.length + 1) c')).ownsMap Try.prog 9 strR w.heap.size n D) := hO3
  have HS3 : Hid (StrsIn (w2.setCell ⟨b, o + 1, none⟩ (.slice (some ⟨g, 0, none⟩) (l.length + 1) c')) (.slice (some ⟨g, 0, none⟩) (l.length + 1) c') (l ++ [s])) := hS3
  clear hR3 hG3 hO3 hS3 hown2 hg2 hG2 hR2 HR1 HG1 HO1 HC1 HR
  go_wp2_with fail
  generalize hw3 : w2.setCell ⟨b, o + 1, none⟩ (.slice (some ⟨g, 0, none⟩) (l.length + 1) c') = w3 at *
  refine (size_any b o (l.length + 1) c' _ w3 hc3).mono ?_
  rintro e w3' ⟨rfl, hw⟩
  subst hw
  have hwf : (Lit.int .i64 ((l.length + 1 : Nat) : Int)).wf = true := WalkArith.wf_i64 (by omega)
  go_wp2_with (at_mapUpdate; refine wpList_mapUpdate_own _ rfl _ _ _ 61 rfl 9 3 strKey Try.underlying61 _ w.heap.size n D rfl HO3.out (by unfold maxLen; omega) _ _ _ rfl rfl (keyStr s (by unfold maxLen; omega)) _ [] (plainElem_int Try.underlying3 hwf) ?_)
  intro w4 hown4 hg4
  have hR4 : BRow w4 b (putC c (o + 1) (.slice (some ⟨g, 0, none⟩) (l.length + 1) c')) := HR3.out.kept hg4 (by simp; omega)
  have hS4 : StrsIn w4 (.slice (some ⟨g, 0, none⟩) (l.length + 1) c') (l ++ [s]) := World.ownsRow.kept HS3.out hg4 (owns_apart_map HS3.out HO3.out)
  have hG4 : w.grownBy w4 (some b) := ⟨hg4.os.trans HG3.out.os, hg4.tape.trans HG3.out.tape, hg4.output.trans HG3.out.output, Nat.le_trans HG3.out.size hg4.size, fun k hk hne => (hg4.block k (Nat.lt_of_lt_of_le hk HG3.out.size) (by simp; omega)).trans (HG3.out.block k hk hne)⟩
  have hM4 : MapIs w4 (.map (some w.heap.size)) (l ++ [s]) := MapIs.put hown4 hn HS.out HO3.out.isMap HAT.out
  have hc4 := hR4.cell o (by omega)
  have hf4 := hR4.free o
  have hR5 := hR4.set o (.map (some w.heap.size)) (by omega)
  have hc5 : (w4.setCell ⟨b, o, none⟩ (.map (some w.heap.size))).cell? ⟨b, o + 1, none⟩ = some (.slice (some ⟨g, 0, none⟩) (l.length + 1) c') := by
    rw [hR5.cell (o + 1) ho, putC_other _ _ (by omega), putC_same]
  have HFIN : Hid (Added w (w4.setCell ⟨b, o, none⟩ (.map (some w.heap.size))) b o c l s) :=
    ⟨_, _, hR5, hM4.kept (grown_setCell b o _) hR4.apart, hS4.kept (grown_setCell b o _) hR4.apart, grown_trans hG4 (grown_setCell b o _), fun q hq => by cases hq; exact HGE.out⟩
  clear hR5 hR4 hS4 hG4 hM4 hown4 hg4 HR3 HG3 HO3 HS3
  go_wp2_with fail
  refine (size_any b o (l.length + 1) c' _ _ hc5).mono ?_
  rintro e w6 ⟨rfl, hw⟩
  subst hw
  go_wp2_with fail
  go_ret
  exact ⟨by first | rfl | simp, HFIN.out⟩

/-- .. where there was no map yet. -/
theorem add_nil (b o : Nat) (c : Nat → Value) (s : ByteArray) (w : World) (hr : BRow w b c) (ho : o + 1 < 72) (hm : c o = .map none) (hl : StrsIn w (c (o + 1)) []) (hsz : s.size ≤ 16) :
    Calls Try.prog 81 #[.pointer (some ⟨b, o, none⟩), .string s] w fun e w' => e = .returned (.int .i64 1) ∧ Added w w' b o c [] s := by
  obtain ⟨i0, hi, hz0, hz1, hz2⟩ := info_parts infoStr
  have hltw := hr.lt
  have hc0 := hr.cell o (by omega)
  rw [hm] at hc0
  have hcl := clone_nil w
  have hmm := @run_makeMap Try.prog
  obtain ⟨a, cap, hv, hle, hnil, hcells⟩ := hl.form
  have hc1 := hr.cell (o + 1) ho
  rw [hv] at hc1
  have hq := fun (w : World) (p : Option Nat) => run_eql_map_nil_sl (P := Try.prog) w 61 _ _ p Try.underlying61
  have hc1 : ∀ ob, (w.alloc ob).cell? ⟨b, o + 1, none⟩ = some (.slice a 0 cap) := fun ob => (World.grownBy_alloc w ob none).cell hc1 (by simp)
  have HR : Hid (BRow w b c) := hr
  have hnil' : a = none → 0 = 0 ∧ cap = 0 := hnil
  clear hr hl hcells hm hv hnil
  go_enter Try.func81, Try.ntmps81
  go_wp2_with (go_at_call 96; refine hcl.mono ?_; rintro e w1 ⟨rfl, rfl⟩)
  refine (clip_str a 0 cap _ hle (fun h => ⟨rfl, (hnil' h).2⟩)).mono ?_
  rintro e w1' ⟨rfl, hw⟩
  have hown1 : w1'.ownsMap Try.prog 9 strR w1.heap.size 0 (.map []) := by rw [hw]; exact World.ownsMap_made _ _ _ _
  have hG1 : w1.grownBy w1' none := by rw [hw]; exact World.grownBy_alloc _ _ _
  have HR1 : Hid (BRow w1' b c) := HR.out.kept hG1 (by simp)
  have HG1 : Hid (w1.grownBy w1' none) := hG1
  have HO1 : Hid (w1'.ownsMap Try.prog 9 strR w1.heap.size 0 (.map [])) := hown1
  clear hG1 hown1 hc1
  generalize (w1.alloc (.map #[] 0)) = W at *
  subst hw
  go_wp2_with (at_builtin; refine wpList_append_new _ rfl _ _ 29 rfl 9 i0 (.string ByteArray.empty) 1 16 Try.underlying29 hi hz0 hz1 hz2 rfl (by decide) a 0 0 [] rfl (fun _ => ⟨rfl, rfl⟩) (by simp) ?hcs ⟨w1'.heap.size, 0, none⟩ 1 1 [.string s] rfl rfl (cell_one_new _ _ _) (str_oneCell s) (by omega) (by unfold maxLen; omega) (by omega) ?_)
  case hcs => exact fun g hg j u hu => by simp at hu
  intro g c' w2 hown2 hg2
  have HGE : Hid (w1.heap.size ≤ g) := by
    have h1 := (hown2.lt g rfl).1
    have h2 := HG1.out.size
    show w1.heap.size ≤ g
    first | omega | (simp at h1; omega)
  have hG2 : w1'.grownBy w2 none := grown_trans (World.grownBy_alloc _ _ none) hg2
  have hR2 : BRow w2 b c := HR1.out.kept hG2 (by simp)
  have hcell2 := hR2.cell (o + 1) ho
  have hfz2 := hR2.free (o + 1)
  have hcell0 := hR2.cell o (by omega)
  have hfz0 := hR2.free o
  have hlt := hR2.lt
  have hR3 : BRow (w2.setCell ⟨b, o + 1, none⟩ (.slice (some ⟨g, 0, none⟩) 1 c')) b (putC c (o + 1) (.slice (some ⟨g, 0, none⟩) 1 c')) := hR2.set (o + 1) _ ho
  have hc3 : (w2.setCell ⟨b, o + 1, none⟩ (.slice (some ⟨g, 0, none⟩) 1 c')).cell? ⟨b, o + 1, none⟩ = some (.slice (some ⟨g, 0, none⟩) 1 c') := by rw [hR3.cell (o + 1) ho, putC_same]
  have hG3 : w1.grownBy (w2.setCell ⟨b, o + 1, none⟩ (.slice (some ⟨g, 0, none⟩) 1 c')) (some b) := grown_trans (grown_but _ (grown_trans HG1.out hG2)) (grown_setCell _ _ _)
  have hO3 : (w2.setCell ⟨b, o + 1, none⟩ (.slice (some ⟨g, 0, none⟩) 1 c')).ownsMap Try.prog 9 strR w1.heap.size 0 (.map []) := by
    have hO2 := HO1.out.kept hG2 (by simp)
    exact hO2.kept (grown_setCell b (o + 1) _) (map_apart hO2 hR2.apart)
  have hS3 : StrsIn (w2.setCell ⟨b, o + 1, none⟩ (.slice (some ⟨g, 0, none⟩) 1 c')) (.slice (some ⟨g, 0, none⟩) 1 c') [s] := by
    have h2 : StrsIn w2 (.slice (some ⟨g, 0, none⟩) 1 c') [s] := by
      have := owns_base hown2
      unfold StrsIn
      simpa using this
    exact h2.kept (grown_setCell b (o + 1) _) hR2.apart
  have HR3 : Hid (BRow (w2.setCell ⟨b, o + 1, none⟩ (.slice (some ⟨g, 0, none⟩) 1 c')) b (putC c (o + 1) (.slice (some ⟨g, 0, none⟩) 1 c'))) := hR3
  have HG3 : Hid (w1.grownBy (w2.setCell ⟨b, o + 1, none⟩ (.slice (some ⟨g, 0, none⟩) 1 c')) (some b)) := hG3
  have HO3 : Hid ((w2.setCell ⟨b, o + 1, none⟩ (.slice (some ⟨g, 0, none⟩) 1 c')).ownsMap Try.prog 9 strR w1.heap.size 0 (.map [])) := hO3
  have HS3 : Hid (StrsIn (w2.setCell ⟨b, o + 1, none⟩ (.slice (some ⟨g, 0, none⟩) 1 c')) (.slice (some ⟨g, 0, none⟩) 1 c') [s]) := hS3
  clear hR3 hG3 hO3 hS3 hown2 hg2 hG2 hR2 HR1 HG1 HO1 HR
  go_wp2_with fail
  generalize hw3 : w2.setCell ⟨b, o + 1, none⟩ (.slice (some ⟨g, 0, none⟩) 1 c') = w3 at *
  refine (size_any b o 1 c' _ w3 hc3).mono ?_
  rintro e w3' ⟨rfl, hw⟩
  subst hw
  have hwf : (Lit.int .i64 ((1 : Nat) : Int)).wf = true := WalkArith.wf_i64 (by omega)
  go_wp2_with (at_mapUpdate; refine wpList_mapUpdate_own _ rfl _ _ _ 61 rfl 9 3 strKey Try.underlying61 _ w1.heap.size 0 (.map []) rfl HO3.out (by unfold maxLen; omega) _ _ _ rfl rfl (keyStr s (by unfold maxLen; omega)) _ [] (plainElem_int Try.underlying3 hwf) ?_)
  intro w4 hown4 hg4
  have hR4 : BRow w4 b (putC c (o + 1) (.slice (some ⟨g, 0, none⟩) 1 c')) := HR3.out.kept hg4 (by simp; omega)
  have hS4 : StrsIn w4 (.slice (some ⟨g, 0, none⟩) 1 c') [s] := World.ownsRow.kept HS3.out hg4 (owns_apart_map HS3.out HO3.out)
  have hG4 : w1.grownBy w4 (some b) := ⟨hg4.os.trans HG3.out.os, hg4.tape.trans HG3.out.tape, hg4.output.trans HG3.out.output, Nat.le_trans HG3.out.size hg4.size, fun k hk hne => (hg4.block k (Nat.lt_of_lt_of_le hk HG3.out.size) (by simp; omega)).trans (HG3.out.block k hk hne)⟩
  have hM4 : MapIs w4 (.map (some w1.heap.size)) ([] ++ [s]) := MapIs.put (l := []) hown4 (Nat.le_refl _) (by simp) HO3.out.isMap (fun s => by rw [numOf_nil]; rfl)
  have hc4 := hR4.cell o (by omega)
  have hf4 := hR4.free o
  have hR5 := hR4.set o (.map (some w1.heap.size)) (by omega)
  have hc5 : (w4.setCell ⟨b, o, none⟩ (.map (some w1.heap.size))).cell? ⟨b, o + 1, none⟩ = some (.slice (some ⟨g, 0, none⟩) 1 c') := by
    rw [hR5.cell (o + 1) ho, putC_other _ _ (by omega), putC_same]
  have HFIN : Hid (Added w1 (w4.setCell ⟨b, o, none⟩ (.map (some w1.heap.size))) b o c [] s) :=
    ⟨_, _, hR5, hM4.kept (grown_setCell b o _) hR4.apart, hS4.kept (grown_setCell b o _) hR4.apart, grown_trans hG4 (grown_setCell b o _), fun q hq => by cases hq; exact HGE.out⟩
  clear hR5 hR4 hS4 hG4 hM4 hown4 hg4 HR3 HG3 HO3 HS3
  go_wp2_with fail
  refine (size_any b o 1 c' _ _ hc5).mono ?_
  rintro e w6 ⟨rfl, hw⟩
  subst hw
  go_wp2_with fail
  go_ret
  exact ⟨by first | rfl | simp, HFIN.out⟩

theorem add_any (b o : Nat) (c : Nat → Value) (l : List ByteArray) (s : ByteArray) (w : World) (hr : BRow w b c) (ho : o + 1 < 72) (hm : MapIs w (c o) l) (hl : StrsIn w (c (o + 1)) l) (hs : s ∉ l) (hlen : l.length < 64) (hsz : s.size ≤ 16) :
    Calls Try.prog 81 #[.pointer (some ⟨b, o, none⟩), .string s] w fun e w' => e = .returned (.int .i64 (l.length + 1)) ∧ Added w w' b o c l s := by
  rcases hm with ⟨h1, rfl⟩ | ⟨B, n, D, h1, hn, hown, hat⟩
  · exact add_nil b o c s w hr ho h1 hl hsz
  · exact add_some b o c l s w hr ho B n D h1 hn hown hat hl hs hlen hsz

end Go.Proofs.Ytkbpnafahimeiaa
