import Derived.Test.YtfllgmbnljfboaaQklpljapnkfje
import Derived.Deep.RegionLaw
import Derived.Test.YtfllgmbnljfboaaQlfccjpjgphlf
import Derived.Test.YtfllgmbnljfboaaQiomhlbglpeak

/-
  lr0: the document's from.
-/
namespace Go.Proofs.Ytfllgmbnljfboaa.J
open Go.RowKit Go.Maps Go.Shelf

attribute [local go_sem] Oper.semAt_some

theorem kerT_asc {R : Nat → List Int} {l : List It} (h : Asc l) (s : Int) : Asc (kerT R l s) := by
  unfold kerT Asc
  rw [List.pairwise_map]
  refine List.Pairwise.imp ?_ (List.Pairwise.filter _ h)
  intro x y hxy
  unfold ltI at *
  simp only
  omega

set_option maxRecDepth 100000 in
set_option maxHeartbeats 4000000 in
theorem rfrom_any (ta na la pa : Option Addr) (tc nc lc pc : Nat) (n : Nat) (L : Nat → Int) (R : Nat → List Int) (ra : Nat → Option Addr) (rc : Nat → Nat) (V : Nat → Int) (st s : Int) (w : World) (tn nn ln : Nat) (hP : ProdsAt w pa n L R ra rc V) (hRb : ∀ k, k < n → (R k).length ≤ 17592186044416) (a : Option Addr) (cap : Nat) (l : List It) (hl : ItsAt w a l) (hlb : l.length ≤ 8796093035208) (hit : ∀ x ∈ l, itB n R x = true) (hasc : Asc l) :
    Calls Try.prog 36 #[.agg #[.slice ta tn tc, .slice na nn nc, .slice la ln lc, .int .i64 st, .slice pa n pc], .int .i64 s, .slice a l.length cap] w fun e y => ItsTold (kerT R l s) w e y := by
  have HAH : Hid (∀ X x, w.grownBy X none → itB n R x = true → Calls Try.prog 52 #[.agg #[.slice ta tn tc, .slice na nn nc, .slice la ln lc, .int .i64 st, .slice pa n pc], .agg #[.int .i64 x.1, .int .i64 x.2]] X fun e y => e = .returned (.int .i64 (aheadV R x)) ∧ X.grownBy y none) := fun X x hX hx => rafter_any ta na la pa tc nc lc pc n L R ra rc V st X tn nn ln (prods_kept hP hX) x hx
  have HRB : Hid (∀ x, itB n R x = true → (0 : Int) ≤ x.2 ∧ x.2 ≤ 17592186044416) := fun x hx => by
    unfold itB at hx
    simp only [Bool.and_eq_true, decide_eq_true_eq] at hx
    have := hRb x.1.toNat (by omega)
    omega
  have HIT : Hid (∀ x ∈ l, itB n R x = true) := hit
  have HL : Hid (∀ X, w.grownBy X none → ItsAt X a l) := fun X hX => hl.kept hX
  have HAS : Hid (Asc l) := hasc
  obtain ⟨N, hN⟩ : ∃ m, m = l.length := ⟨_, rfl⟩
  have HN : Hid (N = l.length) := hN
  rw [← hN] at hlb
  rw [← hN]
  have HX0 : Hid (PhAt w (w.alloc (.cells #[.slice ta tn tc, .slice na nn nc, .slice la ln lc, .int .i64 st, .slice pa n pc] 27)) w.heap.size #[.slice ta tn tc, .slice na nn nc, .slice la ln lc, .int .i64 st, .slice pa n pc]) := ⟨World.grownBy_alloc _ _ none, heap_alloc_last w _⟩
  obtain ⟨i0, hi0, hz0, hz1, hz2⟩ := info_parts infoItem
  clear hP hRb hl hit hasc hN
  go_enter Try.func36, Try.ntmps36
  go_wp2_with fail
  go_loopg [7, 8] N (fun gk v7 v8 wr => ∃ (i q c : Nat) (a' : Option Addr), i ≤ N ∧ gk = N - i ∧ v7 = .slice a' q c ∧ v8 = .int .i64 i ∧ q = (kerT R (l.take i) s).length ∧ q ≤ i ∧ wr.ownsRow w.heap.size 55 2 (.slice a' q c) q (itsV (kerT R (l.take i) s)) ∧ PhAt w wr w.heap.size #[.slice ta tn tc, .slice na nn nc, .slice la ln lc, .int .i64 st, .slice pa n pc])
  case atStart => exact ⟨0, 0, 0, none, Nat.zero_le _, rfl, rfl, rfl, rfl, Nat.le_refl _, World.ownsRow_nil _ _ _ _, HX0.out⟩
  case round =>
    obtain ⟨i, q, c, a', hi, hgi, rfl, rfl, hq, hqi, hO, hPh⟩ := hrel
    have HGI : Hid (gk = N - i) := hgi
    have HQ : Hid (q = (kerT R (l.take i) s).length) := hq
    have HO : Hid (wr.ownsRow w.heap.size 55 2 (.slice a' q c) q (itsV (kerT R (l.take i) s))) := hO
    have HPh : Hid (PhAt w wr w.heap.size #[.slice ta tn tc, .slice na nn nc, .slice la ln lc, .int .i64 st, .slice pa n pc]) := hPh
    clear hgi hq hO hPh HX0
    by_cases hlt : i < N
    · have hi0' : (0 : Int) ≤ (i : Int) := by omega
      have hi1' : (i : Int) < (N : Int) := by omega
      have hid : decide (i < N) = true := decide_eq_true hlt
      have hil : i < l.length := by rw [← HN.out]; exact hlt
      obtain ⟨lb, lo, rfl, HLC⟩ : ∃ lb lo, a = some ⟨lb, lo, none⟩ ∧ Hid (∀ X, w.grownBy X none → X.cell? ⟨lb, lo + i * 2, none⟩ = some (.int .i64 (l.getD i (0, 0)).1) ∧ X.cell? ⟨lb, lo + i * 2 + 1, none⟩ = some (.int .i64 (l.getD i (0, 0)).2)) := by
        obtain ⟨lb, lo, e, _⟩ := (HL.out w (grown_refl _ _)).at hil
        refine ⟨lb, lo, e, fun X hX => ?_⟩
        obtain ⟨lb', lo', e', q1, q2⟩ := (HL.out X hX).at hil
        rw [e] at e'
        cases e'
        exact ⟨q1, q2⟩
      have hmem : l.getD i (0, 0) ∈ l := by rw [List.getD_eq_getElem?_getD, List.getElem?_eq_getElem hil]; exact List.getElem_mem hil
      have hxi := HIT.out _ hmem
      have hdb := HRB.out _ hxi
      have HTK : Hid (kerT R (l.take (i + 1)) s = kerT R (l.take i) s ++ (if aheadV R (l.getD i (0, 0)) = s then [((l.getD i (0, 0)).1, (l.getD i (0, 0)).2 + 1)] else [])) := by show _ = _; rw [take_at hil, kerT_append, kerT_one]
      have HAC : Hid (∀ X, wr.grownBy X none → Calls Try.prog 52 #[.agg #[.slice ta tn tc, .slice na nn nc, .slice la ln lc, .int .i64 st, .slice pa n pc], .agg #[.int .i64 (l.getD i (0, 0)).1, .int .i64 (l.getD i (0, 0)).2]] X fun e y => e = .returned (.int .i64 (aheadV R (l.getD i (0, 0)))) ∧ X.grownBy y none) := fun X hX => HAH.out X _ (grown_trans HPh.out.grown hX) hxi
      obtain ⟨sv, hsv⟩ : ∃ s, s = aheadV R (l.getD i (0, 0)) := ⟨_, rfl⟩
      rw [← hsv] at HAC HTK
      obtain ⟨x, hx⟩ : ∃ x, x = l.getD i (0, 0) := ⟨_, rfl⟩
      rw [← hx] at HAC HLC HTK hdb
      clear hsv hx hxi hmem hil
      obtain ⟨p, d⟩ := x
      simp only at HAC HLC HTK hdb
      obtain ⟨d2, hd2⟩ : ∃ d2 : Nat, d = (d2 : Int) := ⟨d.toNat, by omega⟩
      subst hd2
      have hd3 : d2 ≤ 17592186044416 := by omega
      have HUP : Hid (wr.grownBy wr.drew none) := grown_drewN wr 1
      have HKS : Hid (∀ Y, wr.grownBy Y none → (Y.cell? ⟨w.heap.size, 0, none⟩ = some (.slice ta tn tc) ∧ Y.cell? ⟨w.heap.size, 1, none⟩ = some (.slice na nn nc) ∧ Y.cell? ⟨w.heap.size, 2, none⟩ = some (.slice la ln lc) ∧ Y.cell? ⟨w.heap.size, 3, none⟩ = some (.int .i64 st) ∧ Y.cell? ⟨w.heap.size, 4, none⟩ = some (.slice pa n pc)) ∧ Y.cell? ⟨lb, lo + i * 2, none⟩ = some (.int .i64 p) ∧ Y.cell? ⟨lb, lo + i * 2 + 1, none⟩ = some (.int .i64 (d2 : Int))) := fun Y hY => ⟨(HPh.out.kept hY).cells, (HLC.out Y (grown_trans HPh.out.grown hY)).1, (HLC.out Y (grown_trans HPh.out.grown hY)).2⟩
      clear hdb
      go_wp2_with fail
      go_region_held3 (fun Y => (Y.cell? ⟨w.heap.size, 0, none⟩ = some (.slice ta tn tc) ∧ Y.cell? ⟨w.heap.size, 1, none⟩ = some (.slice na nn nc) ∧ Y.cell? ⟨w.heap.size, 2, none⟩ = some (.slice la ln lc) ∧ Y.cell? ⟨w.heap.size, 3, none⟩ = some (.int .i64 st) ∧ Y.cell? ⟨w.heap.size, 4, none⟩ = some (.slice pa n pc)) ∧ Y.cell? ⟨lb, lo + i * 2, none⟩ = some (.int .i64 p) ∧ Y.cell? ⟨lb, lo + i * 2 + 1, none⟩ = some (.int .i64 (d2 : Int))) (first | exact HKS.out _ HUP.out | exact HKS.out _ HG4.out | go_keep)
        ((first
          | (go_at_call 52; refine Calls.mono (HAC.out _ HUP.out) ?_; rintro e w4 ⟨rfl, hg4⟩; have HG4 : Hid (wr.grownBy w4 none) := grown_trans HUP.out hg4; clear hg4)
          | fail))
      have HP4 : Hid (PhAt w w4 w.heap.size #[.slice ta tn tc, .slice na nn nc, .slice la ln lc, .int .i64 st, .slice pa n pc]) := HPh.out.kept HG4.out
      have HO4 : Hid (∀ X, w4.grownBy X none → X.ownsRow w.heap.size 55 2 (.slice a' q c) q (itsV (kerT R (l.take i) s))) := fun X hX => keep0 HO.out (grown_trans HG4.out hX)
      clear HKS HUP HAC HPh HO
      by_cases hse : sv = s
      · have he : (sv == s) = true := beq_iff_eq.2 hse
        have HT2 : Hid (kerT R (l.take (i + 1)) s = kerT R (l.take i) s ++ [(p, (d2 : Int) + 1)]) := by show _ = _; rw [HTK.out, if_pos hse]
        have hwr : IntKind.i64.wrap ((d2 : Int) + 1) = (d2 : Int) + 1 := by rw [IntKind.wrap_i64]; omega
        have y0 := (HLC.out w4 HP4.out.grown).1
        have y1 := (HLC.out w4 HP4.out.grown).2
        have HSZ : Hid (∀ X, w4.grownBy X none → w.heap.size ≤ X.heap.size) := fun X hX => (grown_trans HP4.out.grown hX).size
        have HFI : Hid (∀ (Y Z : World) (v : Value), w4.grownBy Y none → Y.grownBy Z (Value.slice a' q c).ownBlock → Z.ownsRow w.heap.size 55 2 v (q + 1) (itsV (kerT R (l.take i) s) ++ [.int .i64 p, .int .i64 ((d2 : Int) + 1)]) → Z.ownsRow w.heap.size 55 2 v (q + 1) (itsV (kerT R (l.take (i + 1)) s)) ∧ PhAt w Z w.heap.size #[.slice ta tn tc, .slice na nn nc, .slice la ln lc, .int .i64 st, .slice pa n pc]) := fun Y Z v hY hg ho => by
          refine ⟨by rw [HT2.out, itsV_append]; exact ho, grown_row (HP4.out.kept hY).grown (HO4.out Y hY) (Nat.le_refl _) hg, ?_⟩
          have hb := (HP4.out.kept hY).box
          refine (hg.block _ (Array.getElem?_eq_some_iff.1 hb).1 ?_).trans hb
          rcases owns_nebox (HO4.out Y hY) hb (by decide) with h1 | h1
          · rw [h1]; simp
          · exact fun h2 => h1 h2.symm
        obtain ⟨xs, hxs⟩ : ∃ xs, xs = itsV (kerT R (l.take i) s) := ⟨_, rfl⟩
        rw [← hxs] at HO4 HFI
        clear hse hxs
        go_wp2_with fail
        go_region_law (first
          | (refine step_append_liesW _ rfl (.tmp 23) (.tmp 36) 48 rfl w.heap.size 55 i0 (.agg #[.int .i64 0, .int .i64 0]) 2 16 Try.underlying48 hi0 hz0 hz1 hz2 rfl (by decide) (.slice a' q c) q xs (by simp [Act.eval]) (HO4.out _ (grown_trans (World.grownBy_alloc _ _ none) (grown_drewN _ 1))) ⟨w4.heap.size, 0, none⟩ 1 1 [.int .i64 p, .int .i64 ((d2 : Int) + 1)] (by simp [Act.eval]) rfl (World.news_of_block (heap_alloc_last w4 _)) (by simp [Value.oneCell']) (by decide) (by unfold maxLen; omega) (by omega) (HSZ.out _ (grown_trans (World.grownBy_alloc _ _ none) (grown_drewN _ 1))) ?_; intro g7 c7 wB hoB hgB _; have HQ1 := show Hid _ from HFI.out _ wB _ (grown_trans (World.grownBy_alloc _ _ none) (grown_drewN _ 1)) hgB hoB; clear hoB hgB)
          | fail)
        all_goals go_wp2_with fail
        all_goals go_roundg (N - (i + 1))
        all_goals first
          | exact ⟨i + 1, q + 1, c7, _, by omega, rfl, rfl, by go_num, by rw [HT2.out, List.length_append, ← HQ.out]; rfl, by omega, HQ1.out.1, HQ1.out.2⟩
          | (have := HGI.out; omega)
      · have he : (sv == s) = false := beq_eq_false_iff_ne.2 hse
        have HT2 : Hid (kerT R (l.take (i + 1)) s = kerT R (l.take i) s) := by show _ = _; rw [HTK.out, if_neg hse, List.append_nil]
        clear hse
        go_wp2_with fail
        go_roundg (N - (i + 1))
        case measure => have := HGI.out; omega
        case rel => exact ⟨i + 1, q, c, a', by omega, rfl, rfl, by go_num, by rw [HT2.out]; exact HQ.out, by omega, by rw [HT2.out]; exact HO4.out _ (grown_refl _ _), HP4.out⟩
    · have hin : N = i := by omega
      subst hin
      have hid : decide (N < N) = false := decide_eq_false (by omega)
      have HTL : Hid (l.take N = l) := by show _ = _; rw [HN.out]; exact List.take_length
      rw [HTL.out] at HO HQ
      have HLA : Hid (Calls Try.prog 51 #[.slice a' q c] wr fun e y => LaidTold (kerT R l s) wr e y) := by
        have ho := HO.out
        rw [HQ.out] at ho ⊢
        exact laid_any a' c (kerT R l s) wr (ItsAt.of ho) (by rw [← HQ.out]; omega)
      go_wp2_with fail
      refine Calls.mono HLA.out ?_
      rintro e w5 ⟨l', h1, h2, h3, a5, c5, rfl, ho5, hg5⟩
      have HE : Hid (l' = kerT R l s) := h1.unique (kerT_asc HAS.out s) h2
      have HO5 : Hid (w5.ownsRow w.heap.size 55 2 (.slice a5 l'.length c5) l'.length (itsV l')) := owns_lowJ ho5 HPh.out.grown.size
      have HG5 : Hid (w.grownBy w5 none) := grown_trans HPh.out.grown hg5
      obtain ⟨m, hm⟩ : ∃ m, m = l'.length := ⟨_, rfl⟩
      have HM : Hid (m = l'.length) := hm
      rw [← hm]
      clear h1 h2 h3 ho5 hg5 hm HLA
      go_wp2_with fail
      go_ret
      exact ⟨a5, c5, by rw [← HE.out, ← HM.out]; rfl, by rw [← HE.out]; exact HO5.out, HG5.out⟩

end Go.Proofs.Ytfllgmbnljfboaa.J

/-
  lr0: the document's asked and Behind.
-/
namespace Go.Proofs.Ytfllgmbnljfboaa.J
open Go.RowKit Go.Maps Go.Shelf

attribute [local go_sem] Oper.semAt_some

section
variable (ta na la pa : Option Addr) (tc nc lc pc : Nat) (ts : List (ByteArray × Int)) (ns : List ByteArray) (lv : List Int) (n : Nat) (L : Nat → Int) (R : Nat → List Int) (ra : Nat → Option Addr) (rc : Nat → Nat) (V : Nat → Int) (st : Int) (w : World) (tn nn ln : Nat) (hlen : ts.length = tn ∧ ns.length = nn ∧ lv.length = ln) (hG : GAt w ta na la pa tc nc lc pc ts ns lv n L R ra rc V) (a : Option Addr) (cap : Nat) (I : List It) (hI : ItsAt w a I)
include hlen hG hI
end

/-- What Behind tells. -/
def BehTold (tn n : Nat) (L : Nat → Int) (R : Nat → List Int) (I : List It) (s : Int) (w : World) (e : Ending) (y : World) : Prop := ∃ l, IsClo tn n L R I l ∧ l.length ≤ I.length + 13000 ∧ ItsTold (kerT R l s) w e y

end Go.Proofs.Ytfllgmbnljfboaa.J

/-
  lr0: the document's Closure and Goto.
-/
namespace Go.Proofs.Ytfllgmbnljfboaa.J
open Go.RowKit Go.Maps Go.Shelf

attribute [local go_sem] Oper.semAt_some

section
variable (ta na la pa : Option Addr) (tc nc lc pc : Nat) (ts : List (ByteArray × Int)) (ns : List ByteArray) (lv : List Int) (n : Nat) (L : Nat → Int) (R : Nat → List Int) (ra : Nat → Option Addr) (rc : Nat → Nat) (V : Nat → Int) (st : Int) (w : World) (tn nn ln : Nat) (hlen : ts.length = tn ∧ ns.length = nn ∧ lv.length = ln) (hG : GAt w ta na la pa tc nc lc pc ts ns lv n L R ra rc V) (a : Option Addr) (cap : Nat) (I : List It) (hI : ItsAt w a I)
include hlen hG hI
end

end Go.Proofs.Ytfllgmbnljfboaa.J

/-
  A region of a function as a declaration of its own.
-/
namespace Go.Proofs.Ytfllgmbnljfboaa.J
open Go.RowKit Go.Maps Go.Shelf

/-- The regions of a number. -/
def regionsJ (n : Nat) : Code → List Code
  | .region i ops b => if i = n then [.region i ops b] else []
  | .loop c => regionsJ n c
  | .seq a b => regionsJ n a ++ regionsJ n b
  | .block _ c => regionsJ n c
  | .scope c => regionsJ n c
  | .cond _ a b => regionsJ n a ++ regionsJ n b
  | _ => []
/-- The loops of a piece of code, the outer ahead of the inner. -/
def loopsJ : Code → List Code
  | .loop c => .loop c :: loopsJ c
  | .seq a b => loopsJ a ++ loopsJ b
  | .block _ c => loopsJ c
  | .scope c => loopsJ c
  | .cond _ a b => loopsJ a ++ loopsJ b
  | _ => []
def OnEndJ (P : Act → World → Prop) : Exit → Act → World → Prop
  | .normal, a, w => P a w
  | _, _, _ => False

end Go.Proofs.Ytfllgmbnljfboaa.J
