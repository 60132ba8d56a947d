/-
  handle and levels of the law GramAgain.
-/
import Derived.Test.YtdlbeffkgdjihaaAgainGram
import Derived.Test.YtdlbeffkgdjihaaRvValid
import Derived.Test.YtdlbeffkgdjihaaLevelWalk
namespace Go.Proofs.Ytdlbeffkgdjihaa
open Go.RowKit

attribute [local go_sem] Oper.semAt_some

theorem handle_any (ta na la pa : Option Addr) (tn nn ln pn tc nc lc pc : Nat) (st x : Int) (w : World) (ht : tn ≤ 65) (hx : 0 ≤ x ∧ x ≤ 1000) :
    Calls Try.prog 23 #[.agg #[.slice ta tn tc, .slice na nn nc, .slice la ln lc, .int .i64 st, .slice pa pn pc], .int .i64 x] w fun e w' => e = .returned (.int .i64 (hdl tn x)) ∧ w.grownBy w' none := by
  by_cases h : x < (tn : Int)
  · have e : hdl tn x = x := by unfold hdl; rw [if_pos h]
    rw [e]
    have d1 : decide (x < (tn : Int)) = true := decide_eq_true h
    clear e h
    go_enter Try.func23, Try.ntmps23
    go_wp2_with fail
    go_ret
    exact ⟨rfl, World.grownBy_alloc _ _ none⟩
  · have e : hdl tn x = -(x - tn + 1) := by unfold hdl; rw [if_neg h]
    rw [e]
    have d1 : decide (x < (tn : Int)) = false := decide_eq_false h
    have h' : (tn : Int) ≤ x := by omega
    clear e h
    go_enter Try.func23, Try.ntmps23
    go_wp2_with fail
    go_ret
    exact ⟨by first | rfl | go_num, World.grownBy_alloc _ _ none⟩

/-- A box of the grammar at B, the builder at X.heap.size, and all that there was in X. -/
structure LvAt (X wr : World) (B : Nat) (cs : Array Value) (S : BS) : Prop where
  grown : X.grownBy wr none
  box : wr.heap[B]? = some (.cells cs 42 (0, 0))
  ne : B ≠ X.heap.size
  bat : BAt wr X.heap.size S
theorem LvAt.kept {X wr wx : World} {B : Nat} {cs : Array Value} {S : BS} (h : LvAt X wr B cs S) (hg : wr.grownBy wx none) : LvAt X wx B cs S :=
  ⟨grown_trans h.grown hg, (hg.block B (Array.getElem?_eq_some_iff.1 h.box).1 (by simp)).trans h.box, h.ne, h.bat.kept hg⟩
theorem LvAt.step {X wr wx : World} {B : Nat} {cs : Array Value} {S S' : BS} (h : LvAt X wr B cs S) (hg : wr.grownBy wx (some X.heap.size)) (hb : BAt wx X.heap.size S') : LvAt X wx B cs S' :=
  ⟨grown_new h.grown hg (Nat.le_refl _), (hg.block B (Array.getElem?_eq_some_iff.1 h.box).1 (by simp [h.ne])).trans h.box, h.ne, hb⟩
theorem LvAt.cells {X wr : World} {B : Nat} {S : BS} {v0 v1 v2 v3 v4 : Value} (h : LvAt X wr B #[v0, v1, v2, v3, v4] S) : wr.cell? ⟨B, 0, none⟩ = some v0 ∧ wr.cell? ⟨B, 1, none⟩ = some v1 ∧ wr.cell? ⟨B, 2, none⟩ = some v2 ∧ wr.cell? ⟨B, 3, none⟩ = some v3 ∧ wr.cell? ⟨B, 4, none⟩ = some v4 := by
  refine ⟨?_, ?_, ?_, ?_, ?_⟩ <;> rw [cell_of_row _ _ _ _ _ _ h.box] <;> rfl

set_option maxRecDepth 100000 in
set_option maxHeartbeats 4000000 in
theorem levels_any (ta na la pa : Option Addr) (tn nn ln pn tc nc lc pc : Nat) (st : Int) (ts : List (ByteArray × Int)) (ns : List ByteArray) (lv : List Int) (n : Nat) (L : Nat → Int) (R : Nat → List Int) (V : Nat → Int) (X W : World)
    (hT : TermsAt X ta ts) (hL : IntsAt X la lv) (htn : ts.length = tn) (hln : lv.length = ln) (hn : tn ≤ 65) (hb : ln ≤ 64) (hH : holdsOK ts ns lv st n L R V) (hg : X.grownBy W none) (hB : BAt W X.heap.size (AL ts ns lv 0)) :
    Calls Try.prog 22 #[.pointer (some ⟨X.heap.size, 0, none⟩), .agg #[.slice ta tn tc, .slice na nn nc, .slice la ln lc, .int .i64 st, .slice pa pn pc]] W fun e w' => e = .returned (.bool true) ∧ X.grownBy w' none ∧ BAt w' X.heap.size (AL ts ns lv ln) := by
  obtain ⟨i0, hi, hz0, hz1, hz2⟩ := info_parts infoInt
  have HT : Hid (TermsAt X ta ts) := hT
  have HL : Hid (IntsAt X la lv) := hL
  have HTN : Hid (ts.length = tn) := htn
  have HLN : Hid (lv.length = ln) := hln
  have HH : Hid (holdsOK ts ns lv st n L R V) := hH
  have hlt0 := hB.lt
  have HX0 : Hid (LvAt X (W.alloc (.cells #[.slice ta tn tc, .slice na nn nc, .slice la ln lc, .int .i64 st, .slice pa pn pc] 42)) W.heap.size #[.slice ta tn tc, .slice na nn nc, .slice la ln lc, .int .i64 st, .slice pa pn pc] (AL ts ns lv 0)) := ⟨grown_trans hg (World.grownBy_alloc _ _ none), heap_alloc_last W _, by omega, hB.kept (World.grownBy_alloc _ _ none)⟩
  clear hT hL htn hln hH hg hB
  go_enter Try.func22, Try.ntmps22
  go_wp2_with fail
  generalize W.heap.size = B at *
  go_loopg [5] ln (fun gk i wr => ∃ k : Nat, k ≤ ln ∧ gk = ln - k ∧ i = .int .i64 k ∧ LvAt X wr B #[.slice ta tn tc, .slice na nn nc, .slice la ln lc, .int .i64 st, .slice pa pn pc] (AL ts ns lv k))
  case atStart => exact ⟨0, Nat.zero_le _, rfl, rfl, HX0.out⟩
  case round =>
    obtain ⟨k, hk, hgk, rfl, hX⟩ := hrel
    have HX : Hid (LvAt X wr B #[.slice ta tn tc, .slice na nn nc, .slice la ln lc, .int .i64 st, .slice pa pn pc] (AL ts ns lv k)) := hX
    have HGK : Hid (gk = ln - k) := hgk
    clear hX hgk HX0
    obtain ⟨m0, m1, m2, m3, m4⟩ := HX.out.cells
    by_cases hlt : k < ln
    · have HLS : Hid ((AL ts ns lv k).level (lv.getD k 0) (lst ts ((k : Int) + 1) ts.length) = ((k : Int) + 1, 0, AL ts ns lv (k + 1))) := al_level HH.out (by rw [HLN.out]; exact hlt)
      go_wp2_with fail
      clear m0 m1 m2 m3 m4
      generalize wr = Y at *
      have HT0 : Hid (0 < tn) := by have := HH.out.terms.names.2.2; rw [HTN.out] at this; exact this
      go_loopg [6, 7] (tn - 1) (fun gx v6 i wz => ∃ x : Nat, 1 ≤ x ∧ x ≤ tn ∧ gx = tn - x ∧ i = .int .i64 x ∧ ∃ a' c', v6 = .slice a' (lst ts ((k : Int) + 1) x).length c' ∧ Y.grownBy wz none ∧ wz.ownsRow Y.heap.size 3 1 (.slice a' (lst ts ((k : Int) + 1) x).length c') (lst ts ((k : Int) + 1) x).length ((lst ts ((k : Int) + 1) x).map (Value.int .i64)))
      case atStart => exact ⟨1, Nat.le_refl _, HT0.out, rfl, rfl, none, 0, rfl, grown_refl _ _, World.ownsRow_nil _ _ _ _⟩
      case round =>
        obtain ⟨x, hx1, hx, hgx, rfl, a3, c3, rfl, hg, hown⟩ := hrel
        have HG : Hid (Y.grownBy wr none) := hg
        have HO : Hid (wr.ownsRow Y.heap.size 3 1 (.slice a3 (lst ts ((k : Int) + 1) x).length c3) (lst ts ((k : Int) + 1) x).length ((lst ts ((k : Int) + 1) x).map (Value.int .i64))) := hown
        have HX2 : Hid (LvAt X wr B #[.slice ta tn tc, .slice na nn nc, .slice la ln lc, .int .i64 st, .slice pa pn pc] (AL ts ns lv k)) := HX.out.kept hg
        have HGX : Hid (gk = tn - x) := hgx
        have hll := lst_le ts ((k : Int) + 1) x
        clear hg hown hgx
        obtain ⟨m0, m1, m2, m3, m4⟩ := HX2.out.cells
        by_cases hlx : x < tn
        · obtain ⟨bt, off, rfl, hcs⟩ : ∃ b off, ta = some ⟨b, off, none⟩ ∧ ∀ i, i < ts.length → wr.cell? ⟨b, off + i * 2, none⟩ = some (.string (ts.getD i (⟨#[]⟩, 0)).1) ∧ wr.cell? ⟨b, off + i * 2 + 1, none⟩ = some (.int .i64 (ts.getD i (⟨#[]⟩, 0)).2) := by
            rcases HT.out.kept HX2.out.grown with h | h
            · have := HTN.out; rw [h] at this; simp at this; omega
            · exact h
          have c1 := (hcs x (by rw [HTN.out]; exact hlx)).2
          have HST : Hid (lst ts ((k : Int) + 1) (x + 1) = if 1 ≤ x ∧ (ts.getD x (⟨#[]⟩, 0)).2 = (k : Int) + 1 then lst ts ((k : Int) + 1) x ++ [(x : Int)] else lst ts ((k : Int) + 1) x) := rfl
          have hsz2 := HG.out.size
          clear hcs
          generalize (ts.getD x (⟨#[]⟩, 0)).2 = l at *
          generalize lst ts ((k : Int) + 1) x = out at *
          obtain ⟨on, hon⟩ : ∃ on, on = out.length := ⟨_, rfl⟩
          have HON : Hid (out.length = on) := hon.symm
          rw [← hon] at hll HO ⊢
          clear hon
          by_cases he : l = (k : Int) + 1
          · have d1 : (l == (k : Int) + 1) = true := beq_iff_eq.2 he
            have HS2 : Hid (lst ts ((k : Int) + 1) (x + 1) = out ++ [(x : Int)]) := by show _ = _; rw [HST.out, if_pos ⟨hx1, he⟩]
            clear he HST
            go_wp2_with (at_builtin; refine wpList_append_lies _ rfl _ _ 30 rfl Y.heap.size 3 i0 (.int .i64 0) 1 8 Try.underlying30 hi hz0 hz1 hz2 rfl (by decide) (.slice a3 on c3) on (out.map (Value.int .i64)) rfl (HO.out.alloc _) ⟨wr.heap.size, 0, none⟩ 1 1 [.int .i64 x] rfl rfl (cell_one_new _ _ _) (ints_oneCell' [(x : Int)]) (by omega) (by unfold maxLen; omega) (by omega) (by simp; omega) _ rfl ?_; intro g4 c4 w4 hown4 hg4 hloc4 hlt4)
            have HFIN : Hid (w4.ownsRow Y.heap.size 3 1 (.slice (some ⟨g4, 0, none⟩) (out ++ [(x : Int)]).length c4) (out ++ [(x : Int)]).length ((out ++ [(x : Int)]).map (Value.int .i64)) ∧ Y.grownBy w4 none) := by
              refine ⟨by simpa [HON.out] using hown4, ?_⟩
              have hA := grown_trans HG.out (World.grownBy_alloc wr (.cells #[.int .i64 x] 3) none)
              cases hv : (Value.slice a3 on c3).ownBlock with
              | none => rw [hv] at hg4; exact grown_trans hA hg4
              | some q => rw [hv] at hg4; exact grown_new hA hg4 (HO.out.lt q hv).1
            clear hown4 hg4 hloc4 hlt4
            go_wp2_with fail
            go_roundg (tn - (x + 1))
            case measure => have := HGX.out; omega
            case rel => exact ⟨x + 1, by omega, by omega, rfl, by go_num, some ⟨g4, 0, none⟩, c4, by rw [HS2.out]; simp [HON.out], HFIN.out.2, by rw [HS2.out]; exact HFIN.out.1⟩
          · have d1 : (l == (k : Int) + 1) = false := beq_eq_false_iff_ne.2 he
            have HS2 : Hid (lst ts ((k : Int) + 1) (x + 1) = out) := by show _ = _; rw [HST.out, if_neg (fun h => he h.2)]
            clear he HST
            go_wp2_with fail
            go_roundg (tn - (x + 1))
            case measure => have := HGX.out; omega
            case rel => exact ⟨x + 1, by omega, by omega, rfl, by go_num, a3, c3, by rw [HS2.out, HON.out], HG.out, by rw [HS2.out, HON.out]; exact HO.out⟩
        · obtain rfl : x = tn := by omega
          obtain ⟨bl, off, rfl, hcs⟩ : ∃ b off, la = some ⟨b, off, none⟩ ∧ ∀ i, i < lv.length → wr.cell? ⟨b, off + i, none⟩ = some (.int .i64 (lv.getD i 0)) := by
            rcases HL.out.kept HX2.out.grown with h | h
            · have := HLN.out; rw [h] at this; simp at this; omega
            · exact h
          have c1 := hcs k (by rw [HLN.out]; exact hlt)
          have HCL := level_any X.heap.size (AL ts ns lv k) (lv.getD k 0) a3 c3 (lst ts ((k : Int) + 1) x) wr HX2.out.bat (owns_intsAt HO.out rfl) (by omega)
          have hE := HLS.out
          rw [HTN.out] at hE
          rw [hE] at HCL
          have d1 : ((k : Int) + 1 != (k : Int) + 1) = false := bne_self_eq_false _
          clear hcs hE
          generalize lv.getD k 0 = sd at *
          generalize (lst ts ((k : Int) + 1) x).length = on at *
          go_wp2_with fail
          refine HCL.mono ?_
          rintro e w5 ⟨rfl, hB5, hg5⟩
          have HX5 : Hid (LvAt X w5 B #[.slice ta x tc, .slice na nn nc, .slice (some ⟨bl, off, none⟩) ln lc, .int .i64 st, .slice pa pn pc] (AL ts ns lv (k + 1))) := HX2.out.step hg5 hB5
          clear hB5 hg5 HX2 HCL HO m0 m1 m2 m3 m4 c1
          go_wp2_with fail
          go_roundg (ln - (k + 1))
          case measure => have := HGK.out; omega
          case rel => exact ⟨k + 1, by omega, rfl, by go_num, HX5.out⟩
    · obtain rfl : k = ln := by omega
      go_wp2_with fail
      go_ret
      exact ⟨rfl, HX.out.grown, HX.out.bat⟩

end Go.Proofs.Ytdlbeffkgdjihaa
