import Derived.Test.YtgpmmhkdpjlimaaQcijjjjkknnlc
import Derived.Test.YtgpmmhkdpjlimaaQfigdcgcaomhk
import Derived.Test.YtgpmmhkdpjlimaaQdgjboihnione
import Derived.Test.YtgpmmhkdpjlimaaQealmlkmnagkk

/-
  lr0: the document's asked and Behind.
-/
namespace Go.Proofs.Ytgpmmhkdpjlimaa.J
open Go.RowKit Go.Maps Go.Shelf

attribute [local go_sem] Oper.semAt_some

section
variable (ta na la pa : Option Addr) (tc nc lc pc : Nat) (ts : List (ByteArray × Int)) (ns : List ByteArray) (lv : List Int) (n : Nat) (L : Nat → Int) (R : Nat → List Int) (ra : Nat → Option Addr) (rc : Nat → Nat) (V : Nat → Int) (st : Int) (w : World) (tn nn ln : Nat) (hlen : ts.length = tn ∧ ns.length = nn ∧ lv.length = ln) (hG : GAt w ta na la pa tc nc lc pc ts ns lv n L R ra rc V) (a : Option Addr) (cap : Nat) (I : List It) (hI : ItsAt w a I)
include hlen hG hI
set_option maxRecDepth 100000 in
set_option maxHeartbeats 1000000 in
theorem rasked_any (hts : ∀ t ∈ ts, t.1.size ≤ 140737488355328) (hns : ∀ s ∈ ns, s.size ≤ 140737488355328) (hIb : I.length ≤ 8796093022208) (r : Bool) (hr : r = true ↔ closedOK ts ns lv st n L R V ∧ ∀ x ∈ I, itB n R x = true) : Calls Try.prog 36 #[.agg #[.slice ta tn tc, .slice na nn nc, .slice la ln lc, .int .i64 st, .slice pa n pc], .slice a I.length cap] w fun e y => e = .returned (.bool r) ∧ w.grownBy y none := by
  obtain ⟨rC, hC⟩ := boolOf (closedOK ts ns lv st n L R V)
  have HCL : Hid (∀ X, w.grownBy X none → Calls Try.prog 22 #[.agg #[.slice ta tn tc, .slice na nn nc, .slice la ln lc, .int .i64 st, .slice pa n pc]] X fun e w' => e = .returned (.bool rC) ∧ X.grownBy w' none) := fun X hX => by
    have := rclosed_any ta na la pa tc nc lc pc st ts ns lv n L R ra rc V X (hG.kept hX) hts hns rC hC
    rwa [hlen.1, hlen.2.1, hlen.2.2] at this
  have HII : Hid (∀ X x, w.grownBy X none → Calls Try.prog 56 #[.agg #[.slice ta tn tc, .slice na nn nc, .slice la ln lc, .int .i64 st, .slice pa n pc], .agg #[.int .i64 x.1, .int .i64 x.2]] X fun e y => e = .returned (.bool (itB n R x)) ∧ X.grownBy y none) := fun X x hX => risItem_any ta na la pa tc nc lc pc n L R ra rc V st X tn nn ln (prods_kept hG.prods hX) x
  have HL : Hid (∀ X, w.grownBy X none → ItsAt X a I) := fun X hX => hI.kept hX
  have HR : Hid (r = true ↔ rC = true ∧ ∀ x ∈ I, itB n R x = true) := by show _ ↔ _; rw [hr, hC]
  obtain ⟨N, hN⟩ : ∃ m, m = I.length := ⟨_, rfl⟩
  have HN : Hid (N = I.length) := hN
  rw [← hN] at hIb
  rw [← hN]
  have HX0 : Hid (PhAt w (w.alloc (.cells #[.slice ta tn tc, .slice na nn nc, .slice la ln lc, .int .i64 st, .slice pa n pc] 27)) w.heap.size #[.slice ta tn tc, .slice na nn nc, .slice la ln lc, .int .i64 st, .slice pa n pc]) := ⟨World.grownBy_alloc _ _ none, heap_alloc_last w _⟩
  clear hlen hG hI hC hr hts hns hN
  go_enter Try.func36, Try.ntmps36
  go_wp2_with fail
  refine Calls.mono (HCL.out _ HX0.out.grown) ?_
  rintro e w1 ⟨rfl, hg1⟩
  have HX1 : Hid (PhAt w w1 w.heap.size #[.slice ta tn tc, .slice na nn nc, .slice la ln lc, .int .i64 st, .slice pa n pc]) := HX0.out.kept hg1
  clear hg1 HX0 HCL
  go_wp2_with fail
  go_loopg [5, 6] N (fun gk v5 v6 wr => ∃ (i : Nat) (b : Bool), i ≤ N ∧ gk = N - i ∧ v5 = .bool b ∧ v6 = .int .i64 i ∧ (b = true ↔ rC = true ∧ ∀ x ∈ I.take i, itB n R x = true) ∧ PhAt w wr w.heap.size #[.slice ta tn tc, .slice na nn nc, .slice la ln lc, .int .i64 st, .slice pa n pc])
  case atStart => exact ⟨0, rC, Nat.zero_le _, rfl, rfl, rfl, by simp, HX1.out⟩
  case round =>
    obtain ⟨i, b, hi, hgi, rfl, rfl, hb, hPh⟩ := hrel
    have HGI : Hid (gk = N - i) := hgi
    have HB : Hid (b = true ↔ rC = true ∧ ∀ x ∈ I.take i, itB n R x = true) := hb
    have HPh : Hid (PhAt w wr w.heap.size #[.slice ta tn tc, .slice na nn nc, .slice la ln lc, .int .i64 st, .slice pa n pc]) := hPh
    clear hgi hb hPh HX1
    by_cases hlt : i < N
    · have hi0' : (0 : Int) ≤ (i : Int) := by omega
      have hi1' : (i : Int) < (N : Int) := by omega
      have hid : decide (i < N) = true := decide_eq_true hlt
      have hil : i < I.length := by rw [← HN.out]; exact hlt
      cases b with
      | false =>
        have HF : Hid (r = false) := by
          show r = false
          cases r with
          | false => rfl
          | true =>
            have h1 := HR.out.1 rfl
            have h2 := HB.out.2 ⟨h1.1, fun x hx => h1.2 x (List.mem_of_mem_take hx)⟩
            cases h2
        go_wp2_with fail
        go_ret
        exact ⟨by rw [HF.out]; rfl, HPh.out.grown⟩
      | true =>
        obtain ⟨lb, lo, rfl, HLC⟩ : ∃ lb lo, a = some ⟨lb, lo, none⟩ ∧ Hid (∀ X, w.grownBy X none → X.cell? ⟨lb, lo + i * 2, none⟩ = some (.int .i64 (I.getD i (0, 0)).1) ∧ X.cell? ⟨lb, lo + i * 2 + 1, none⟩ = some (.int .i64 (I.getD i (0, 0)).2)) := by
          obtain ⟨lb, lo, e, _⟩ := (HL.out w (grown_refl _ _)).at hil
          refine ⟨lb, lo, e, fun X hX => ?_⟩
          obtain ⟨lb', lo', e', q1, q2⟩ := (HL.out X hX).at hil
          rw [e] at e'
          cases e'
          exact ⟨q1, q2⟩
        have HTK : Hid (∀ rr : Bool, rr = itB n R (I.getD i (0, 0)) → (rr = true ↔ rC = true ∧ ∀ x ∈ I.take (i + 1), itB n R x = true)) := fun rr hrr => by
          have h1 := HB.out.1 rfl
          rw [take_at hil, hrr]
          constructor
          · intro h
            refine ⟨h1.1, fun x hx => ?_⟩
            rcases List.mem_append.1 hx with hx | hx
            · exact h1.2 x hx
            · rw [List.mem_singleton.1 hx]; exact h
          · intro h
            exact h.2 _ (List.mem_append_right _ (List.mem_singleton.2 rfl))
        have HAC : Hid (∀ X, wr.grownBy X none → Calls Try.prog 56 #[.agg #[.slice ta tn tc, .slice na nn nc, .slice la ln lc, .int .i64 st, .slice pa n pc], .agg #[.int .i64 (I.getD i (0, 0)).1, .int .i64 (I.getD i (0, 0)).2]] X fun e y => e = .returned (.bool (itB n R (I.getD i (0, 0)))) ∧ X.grownBy y none) := fun X hX => HII.out X _ (grown_trans HPh.out.grown hX)
        obtain ⟨rr, hrr⟩ : ∃ rr, rr = itB n R (I.getD i (0, 0)) := ⟨_, rfl⟩
        have HTR := show Hid _ from HTK.out rr hrr
        rw [← hrr] at HAC
        obtain ⟨x, hx⟩ : ∃ x, x = I.getD i (0, 0) := ⟨_, rfl⟩
        rw [← hx] at HAC HLC
        clear hrr hx hil HTK
        obtain ⟨p, d⟩ := x
        simp only at HAC HLC
        have HUP : Hid (wr.grownBy wr.drew none) := grown_drewN wr 1
        have HKS : Hid (∀ Y, wr.grownBy Y none → (Y.cell? ⟨w.heap.size, 0, none⟩ = some (.slice ta tn tc) ∧ Y.cell? ⟨w.heap.size, 1, none⟩ = some (.slice na nn nc) ∧ Y.cell? ⟨w.heap.size, 2, none⟩ = some (.slice la ln lc) ∧ Y.cell? ⟨w.heap.size, 3, none⟩ = some (.int .i64 st) ∧ Y.cell? ⟨w.heap.size, 4, none⟩ = some (.slice pa n pc)) ∧ Y.cell? ⟨lb, lo + i * 2, none⟩ = some (.int .i64 p) ∧ Y.cell? ⟨lb, lo + i * 2 + 1, none⟩ = some (.int .i64 d)) := fun Y hY => ⟨(HPh.out.kept hY).cells, (HLC.out Y (grown_trans HPh.out.grown hY)).1, (HLC.out Y (grown_trans HPh.out.grown hY)).2⟩
        go_wp2_with fail
        go_region_held3 (fun Y => (Y.cell? ⟨w.heap.size, 0, none⟩ = some (.slice ta tn tc) ∧ Y.cell? ⟨w.heap.size, 1, none⟩ = some (.slice na nn nc) ∧ Y.cell? ⟨w.heap.size, 2, none⟩ = some (.slice la ln lc) ∧ Y.cell? ⟨w.heap.size, 3, none⟩ = some (.int .i64 st) ∧ Y.cell? ⟨w.heap.size, 4, none⟩ = some (.slice pa n pc)) ∧ Y.cell? ⟨lb, lo + i * 2, none⟩ = some (.int .i64 p) ∧ Y.cell? ⟨lb, lo + i * 2 + 1, none⟩ = some (.int .i64 d)) (first | exact HKS.out _ HUP.out | exact HKS.out _ HG4.out | go_keep)
          ((first
            | (go_at_call 56; refine Calls.mono (HAC.out _ HUP.out) ?_; rintro e w4 ⟨rfl, hg4⟩; have HG4 : Hid (wr.grownBy w4 none) := grown_trans HUP.out hg4; clear hg4)
            | fail))
        have HP4 : Hid (PhAt w w4 w.heap.size #[.slice ta tn tc, .slice na nn nc, .slice la ln lc, .int .i64 st, .slice pa n pc]) := HPh.out.kept HG4.out
        clear HKS HUP HAC HPh
        go_wp2_with fail
        go_roundg (N - (i + 1))
        case measure => have := HGI.out; omega
        case rel => exact ⟨i + 1, rr, by omega, rfl, rfl, by go_num, HTR.out, HP4.out⟩
    · have hin : N = i := by omega
      subst hin
      have hid : decide (N < N) = false := decide_eq_false (by omega)
      have HE : Hid (r = b) := by
        show r = b
        have h1 := HB.out
        rw [HN.out, List.take_length] at h1
        rw [Bool.eq_iff_iff, HR.out, h1]
      go_wp2_with fail
      go_ret
      exact ⟨by rw [HE.out]; rfl, HPh.out.grown⟩
end

/-- What Behind tells. -/
def BehTold (tn n : Nat) (L : Nat → Int) (R : Nat → List Int) (I : List It) (s : Int) (w : World) (e : Ending) (y : World) : Prop := ∃ l, IsClo tn n L R I l ∧ l.length ≤ I.length + 13000 ∧ ItsTold (kerT R l s) w e y

set_option maxRecDepth 100000 in
set_option maxHeartbeats 1000000 in
theorem rbehind_any (ta na la pa : Option Addr) (tc nc lc pc : Nat) (n : Nat) (L : Nat → Int) (R : Nat → List Int) (ra : Nat → Option Addr) (rc : Nat → Nat) (V : Nat → Int) (st s : Int) (w : World) (tn nn ln : Nat) (hP : ProdsAt w pa n L R ra rc V) (hn : n ≤ 97) (hn0 : 0 < n) (htn : tn ≤ 65) (hnn : nn ≤ 65) (hR : ∀ k, k < n → ∀ x ∈ R k, (0 : Int) ≤ x ∧ x < ((tn + nn : Nat) : Int)) (a : Option Addr) (cap : Nat) (I : List It) (hI : ItsAt w a I) (hIb : I.length ≤ 8796093022208) (hit : ∀ x ∈ I, itB n R x = true) :
    Calls Try.prog 39 #[.agg #[.slice ta tn tc, .slice na nn nc, .slice la ln lc, .int .i64 st, .slice pa n pc], .int .i64 s, .slice a I.length cap] w fun e y => BehTold tn n L R I s w e y := by
  have HCS : Hid (∀ X, w.grownBy X none → Calls Try.prog 27 #[.agg #[.slice ta tn tc, .slice na nn nc, .slice la ln lc, .int .i64 st, .slice pa n pc], .slice a I.length cap] X fun e y => CloTold tn n L R I X e y) := fun X hX => rclos_any ta na la pa tc nc lc pc n L R ra rc V st X tn nn ln (prods_kept hP hX) hn hn0 htn hnn hR a cap I (hI.kept hX) hIb hit
  have HFR : Hid (∀ X (a' : Option Addr) (c' : Nat) (l : List It), w.grownBy X none → IsClo tn n L R I l → l.length ≤ I.length + 13000 → ItsAt X a' l → Calls Try.prog 28 #[.agg #[.slice ta tn tc, .slice na nn nc, .slice la ln lc, .int .i64 st, .slice pa n pc], .int .i64 s, .slice a' l.length c'] X fun e y => ItsTold (kerT R l s) X e y) := fun X a' c' l hX hc hl hat => rfrom_any ta na la pa tc nc lc pc n L R ra rc V st s X tn nn ln (prods_kept hP hX) (gright hP) a' c' l hat (by omega) (fun x hx => ((hc.mem x).1 hx).item hit) hc.asc
  obtain ⟨m, hm⟩ : ∃ m, m = I.length := ⟨_, rfl⟩
  have HM : Hid (m = I.length) := hm
  rw [← hm] at HCS
  rw [← hm]
  have HX0 : Hid (PhAt w (w.alloc (.cells #[.slice ta tn tc, .slice na nn nc, .slice la ln lc, .int .i64 st, .slice pa n pc] 27)) w.heap.size #[.slice ta tn tc, .slice na nn nc, .slice la ln lc, .int .i64 st, .slice pa n pc]) := ⟨World.grownBy_alloc _ _ none, heap_alloc_last w _⟩
  have HUP : Hid ((w.alloc (.cells #[.slice ta tn tc, .slice na nn nc, .slice la ln lc, .int .i64 st, .slice pa n pc] 27)).grownBy (w.alloc (.cells #[.slice ta tn tc, .slice na nn nc, .slice la ln lc, .int .i64 st, .slice pa n pc] 27)).drew none) := grown_drewN _ 1
  have HKS : Hid (∀ Y, (w.alloc (.cells #[.slice ta tn tc, .slice na nn nc, .slice la ln lc, .int .i64 st, .slice pa n pc] 27)).grownBy Y none → (Y.cell? ⟨w.heap.size, 0, none⟩ = some (.slice ta tn tc) ∧ Y.cell? ⟨w.heap.size, 1, none⟩ = some (.slice na nn nc) ∧ Y.cell? ⟨w.heap.size, 2, none⟩ = some (.slice la ln lc) ∧ Y.cell? ⟨w.heap.size, 3, none⟩ = some (.int .i64 st) ∧ Y.cell? ⟨w.heap.size, 4, none⟩ = some (.slice pa n pc))) := fun Y hY => (HX0.out.kept hY).cells
  clear hP hn hn0 htn hnn hR hI hIb hit hm
  go_enter Try.func39, Try.ntmps39
  go_wp2_with fail
  go_region_held3 (fun Y => (Y.cell? ⟨w.heap.size, 0, none⟩ = some (.slice ta tn tc) ∧ Y.cell? ⟨w.heap.size, 1, none⟩ = some (.slice na nn nc) ∧ Y.cell? ⟨w.heap.size, 2, none⟩ = some (.slice la ln lc) ∧ Y.cell? ⟨w.heap.size, 3, none⟩ = some (.int .i64 st) ∧ Y.cell? ⟨w.heap.size, 4, none⟩ = some (.slice pa n pc))) (first | exact HKS.out _ HUP.out | exact HKS.out _ HG5.out | exact HKS.out _ HG4.out | go_keep)
    ((first
      | (go_at_call 27; refine Calls.mono (HCS.out _ (grown_trans HX0.out.grown HUP.out)) ?_; rintro e w4 ⟨l, hic, hll, a4, c4, rfl, ho4, hg4⟩; have HG4 : Hid ((w.alloc (.cells #[.slice ta tn tc, .slice na nn nc, .slice la ln lc, .int .i64 st, .slice pa n pc] 27)).grownBy w4 none) := grown_trans HUP.out hg4; have HQ : Hid (IsClo tn n L R I l ∧ l.length ≤ I.length + 13000 ∧ ItsAt w4 a4 l) := ⟨hic, by first | exact hll | (rw [← HM.out]; exact hll), ItsAt.of ho4⟩; clear hg4 ho4 hic hll)
      | (go_at_call 28; refine Calls.mono (HFR.out _ _ _ _ (grown_trans HX0.out.grown HG4.out) HQ.out.1 HQ.out.2.1 HQ.out.2.2) ?_; rintro e w5 ⟨a5, c5, rfl, ho5, hg5⟩; have HG5 : Hid ((w.alloc (.cells #[.slice ta tn tc, .slice na nn nc, .slice la ln lc, .int .i64 st, .slice pa n pc] 27)).grownBy w5 none) := grown_trans HG4.out hg5; have HO5 : Hid (w5.ownsRow w.heap.size 49 2 (.slice a5 (kerT R l s).length c5) (kerT R l s).length (itsV (kerT R l s))) := owns_lowJ ho5 (grown_trans HX0.out.grown HG4.out).size; clear hg5 ho5)
      | fail))
  go_wp2_with fail
  go_ret
  exact ⟨l, HQ.out.1, HQ.out.2.1, a5, c5, rfl, HO5.out, grown_trans HX0.out.grown HG5.out⟩

end Go.Proofs.Ytgpmmhkdpjlimaa.J

/-
  lr0: the document's Closure and Goto.
-/
namespace Go.Proofs.Ytgpmmhkdpjlimaa.J
open Go.RowKit Go.Maps Go.Shelf

attribute [local go_sem] Oper.semAt_some

section
variable (ta na la pa : Option Addr) (tc nc lc pc : Nat) (ts : List (ByteArray × Int)) (ns : List ByteArray) (lv : List Int) (n : Nat) (L : Nat → Int) (R : Nat → List Int) (ra : Nat → Option Addr) (rc : Nat → Nat) (V : Nat → Int) (st : Int) (w : World) (tn nn ln : Nat) (hlen : ts.length = tn ∧ ns.length = nn ∧ lv.length = ln) (hG : GAt w ta na la pa tc nc lc pc ts ns lv n L R ra rc V) (a : Option Addr) (cap : Nat) (I : List It) (hI : ItsAt w a I)
include hlen hG hI
set_option maxRecDepth 100000 in
theorem rclosureBad (hts : ∀ t ∈ ts, t.1.size ≤ 140737488355328) (hns : ∀ s ∈ ns, s.size ≤ 140737488355328) (hIb : I.length ≤ 8796093022208) (hb : ¬ closedOK ts ns lv st n L R V ∨ ¬ ∀ x ∈ I, itB n R x = true) : Calls Try.prog 18 #[.agg #[.slice ta tn tc, .slice na nn nc, .slice la ln lc, .int .i64 st, .slice pa n pc], .slice a I.length cap] w fun e y => ItsErr [] 1 w e y := by
  have HAS : Hid (∀ X, w.grownBy X none → Calls Try.prog 36 #[.agg #[.slice ta tn tc, .slice na nn nc, .slice la ln lc, .int .i64 st, .slice pa n pc], .slice a I.length cap] X fun e w' => e = .returned (.bool false) ∧ X.grownBy w' none) := fun X hX => rasked_any ta na la pa tc nc lc pc ts ns lv n L R ra rc V st X tn nn ln hlen (hG.kept hX) a cap I (hI.kept hX) hts hns hIb false ⟨fun h => (by cases h), fun h => hb.elim (fun h1 => absurd h.1 h1) (fun h1 => absurd h.2 h1)⟩
  obtain ⟨m, hm⟩ : ∃ m, m = I.length := ⟨_, rfl⟩
  rw [← hm] at HAS
  rw [← hm]
  have HX0 : Hid (PhAt w (w.alloc (.cells #[.slice ta tn tc, .slice na nn nc, .slice la ln lc, .int .i64 st, .slice pa n pc] 27)) w.heap.size #[.slice ta tn tc, .slice na nn nc, .slice la ln lc, .int .i64 st, .slice pa n pc]) := ⟨World.grownBy_alloc _ _ none, heap_alloc_last w _⟩
  clear hlen hG hI hIb hb hm hts hns
  go_enter Try.func18, Try.ntmps18
  go_wp2_with fail
  refine Calls.mono (HAS.out _ HX0.out.grown) ?_
  rintro e w1 ⟨rfl, hg1⟩
  have HG1 : Hid (w.grownBy w1 none) := grown_trans HX0.out.grown hg1
  clear hg1
  go_wp2_with fail
  go_ret2
  exact ⟨none, 0, rfl, World.ownsRow_nil _ _ _ _, HG1.out⟩

set_option maxRecDepth 100000 in
theorem rclosureOk (hts : ∀ t ∈ ts, t.1.size ≤ 140737488355328) (hns : ∀ s ∈ ns, s.size ≤ 140737488355328) (hIb : I.length ≤ 8796093022208) (hc : closedOK ts ns lv st n L R V) (hit : ∀ x ∈ I, itB n R x = true) : Calls Try.prog 18 #[.agg #[.slice ta tn tc, .slice na nn nc, .slice la ln lc, .int .i64 st, .slice pa n pc], .slice a I.length cap] w fun e y => ∃ l, IsClo tn n L R I l ∧ l.length ≤ I.length + 13000 ∧ ItsErr l 0 w e y := by
  have hM : MayOK tn nn n st L R true := by obtain ⟨rfl, rfl, rfl⟩ := hlen; exact mayOK_closed hc
  have HAS : Hid (∀ X, w.grownBy X none → Calls Try.prog 36 #[.agg #[.slice ta tn tc, .slice na nn nc, .slice la ln lc, .int .i64 st, .slice pa n pc], .slice a I.length cap] X fun e w' => e = .returned (.bool true) ∧ X.grownBy w' none) := fun X hX => rasked_any ta na la pa tc nc lc pc ts ns lv n L R ra rc V st X tn nn ln hlen (hG.kept hX) a cap I (hI.kept hX) hts hns hIb true ⟨fun _ => ⟨hc, hit⟩, fun _ => rfl⟩
  have HCS : Hid (∀ X, w.grownBy X none → Calls Try.prog 27 #[.agg #[.slice ta tn tc, .slice na nn nc, .slice la ln lc, .int .i64 st, .slice pa n pc], .slice a I.length cap] X fun e y => CloTold tn n L R I X e y) := fun X hX => rclos_any ta na la pa tc nc lc pc n L R ra rc V st X tn nn ln (prods_kept hG.prods hX) hM.pmax hM.p0 hM.tmax hM.nmax (fun k hk x hx => ⟨by have := hM.right k hk x hx; omega, (hM.right k hk x hx).2⟩) a cap I (hI.kept hX) hIb hit
  obtain ⟨m, hm⟩ : ∃ m, m = I.length := ⟨_, rfl⟩
  have HM : Hid (m = I.length) := hm
  rw [← hm] at HAS HCS
  rw [← hm]
  have HX0 : Hid (PhAt w (w.alloc (.cells #[.slice ta tn tc, .slice na nn nc, .slice la ln lc, .int .i64 st, .slice pa n pc] 27)) w.heap.size #[.slice ta tn tc, .slice na nn nc, .slice la ln lc, .int .i64 st, .slice pa n pc]) := ⟨World.grownBy_alloc _ _ none, heap_alloc_last w _⟩
  clear hlen hG hI hIb hc hit hm hM hts hns
  go_enter Try.func18, Try.ntmps18
  go_wp2_with fail
  refine Calls.mono (HAS.out _ HX0.out.grown) ?_
  rintro e w1 ⟨rfl, hg1⟩
  have HX1 : Hid (PhAt w w1 w.heap.size #[.slice ta tn tc, .slice na nn nc, .slice la ln lc, .int .i64 st, .slice pa n pc]) := HX0.out.kept hg1
  clear hg1 HX0
  obtain ⟨k0, k1, k2, k3, k4⟩ := HX1.out.cells
  go_wp2_with fail
  refine Calls.mono (HCS.out _ HX1.out.grown) ?_
  rintro e w3 ⟨l, hIC, hll, a3, c3, rfl, ho3, hg3⟩
  have HQ : Hid (IsClo tn n L R I l ∧ l.length ≤ I.length + 13000) := ⟨hIC, hll⟩
  have HO3 : Hid (w3.ownsRow w.heap.size 49 2 (.slice a3 l.length c3) l.length (itsV l)) := owns_lowJ ho3 HX1.out.grown.size
  have HG3 : Hid (w.grownBy w3 none) := grown_trans HX1.out.grown hg3
  obtain ⟨q, hq⟩ : ∃ q, q = l.length := ⟨_, rfl⟩
  have HQL : Hid (q = l.length) := hq
  rw [← hq]
  clear hIC hll ho3 hg3 hq k0 k1 k2 k3 k4
  go_wp2_with fail
  go_ret2
  exact ⟨l, HQ.out.1, by rw [HM.out]; exact HQ.out.2, a3, c3, by rw [← HQL.out]; rfl, HO3.out, HG3.out⟩

set_option maxRecDepth 100000 in
theorem rgotoBad (hts : ∀ t ∈ ts, t.1.size ≤ 140737488355328) (hns : ∀ s ∈ ns, s.size ≤ 140737488355328) (hIb : I.length ≤ 8796093022208) (s : Int) (hb : ¬ closedOK ts ns lv st n L R V ∨ (¬ ∀ x ∈ I, itB n R x = true) ∨ symB (tn + nn) s = false) : Calls Try.prog 20 #[.agg #[.slice ta tn tc, .slice na nn nc, .slice la ln lc, .int .i64 st, .slice pa n pc], .int .i64 s, .slice a I.length cap] w fun e y => ItsErr [] 1 w e y := by
  obtain ⟨rA, hA⟩ := boolOf (closedOK ts ns lv st n L R V ∧ ∀ x ∈ I, itB n R x = true)
  have HAS : Hid (∀ X, w.grownBy X none → Calls Try.prog 36 #[.agg #[.slice ta tn tc, .slice na nn nc, .slice la ln lc, .int .i64 st, .slice pa n pc], .slice a I.length cap] X fun e w' => e = .returned (.bool rA) ∧ X.grownBy w' none) := fun X hX => rasked_any ta na la pa tc nc lc pc ts ns lv n L R ra rc V st X tn nn ln hlen (hG.kept hX) a cap I (hI.kept hX) hts hns hIb rA hA
  obtain ⟨S, hS⟩ : ∃ S, S = tn + nn := ⟨_, rfl⟩
  have HSY : Hid (rA = true → ∀ X, Calls Try.prog 24 #[.agg #[.slice ta tn tc, .slice na nn nc, .slice la ln lc, .int .i64 st, .slice pa n pc]] X fun e y => e = .returned (.int .i64 (S : Int)) ∧ X.grownBy y none) := fun h X => by
    have hM : MayOK tn nn n st L R true := by obtain ⟨rfl, rfl, rfl⟩ := hlen; exact mayOK_closed (hA.1 h).1
    refine (Go.Proofs.Ytgpmmhkdpjlimaa.symbols_any ta na la pa tn nn ln n tc nc lc pc st X (by have := hM.tmax; omega) (by have := hM.nmax; omega)).mono ?_
    rintro e y ⟨rfl, hg⟩
    exact ⟨by rw [hS, Int.natCast_add], hg⟩
  have hcase : rA = false ∨ s < 0 ∨ (0 ≤ s ∧ (S : Int) ≤ s) := by
    cases rA with
    | false => exact .inl rfl
    | true =>
      right
      have h1 := hA.1 rfl
      rcases hb with h | h | h
      · exact absurd h1.1 h
      · exact absurd h1.2 h
      · unfold symB at h
        rw [← hS] at h
        simp only [Bool.and_eq_false_iff, decide_eq_false_iff_not] at h
        omega
  obtain ⟨m, hm⟩ : ∃ m, m = I.length := ⟨_, rfl⟩
  rw [← hm] at HAS
  rw [← hm]
  have HX0 : Hid (PhAt w (w.alloc (.cells #[.slice ta tn tc, .slice na nn nc, .slice la ln lc, .int .i64 st, .slice pa n pc] 27)) w.heap.size #[.slice ta tn tc, .slice na nn nc, .slice la ln lc, .int .i64 st, .slice pa n pc]) := ⟨World.grownBy_alloc _ _ none, heap_alloc_last w _⟩
  clear hlen hG hI hIb hb hm hts hns hA hS
  go_enter Try.func20, Try.ntmps20
  go_wp2_with fail
  refine Calls.mono (HAS.out _ HX0.out.grown) ?_
  rintro e w1 ⟨rfl, hg1⟩
  have HX1 : Hid (PhAt w w1 w.heap.size #[.slice ta tn tc, .slice na nn nc, .slice la ln lc, .int .i64 st, .slice pa n pc]) := HX0.out.kept hg1
  clear hg1 HX0
  obtain ⟨k0, k1, k2, k3, k4⟩ := HX1.out.cells
  cases rA with
  | false =>
    go_wp2_with fail
    go_ret2
    exact ⟨none, 0, rfl, World.ownsRow_nil _ _ _ _, HX1.out.grown⟩
  | true =>
    have hcase' : s < 0 ∨ (0 ≤ s ∧ (S : Int) ≤ s) := by
      rcases hcase with h | h
      · cases h
      · exact h
    clear hcase
    rcases hcase' with h | ⟨h, h2⟩
    · have hd : decide (s < 0) = true := decide_eq_true h
      go_wp2_with fail
      go_ret2
      exact ⟨none, 0, rfl, World.ownsRow_nil _ _ _ _, HX1.out.grown⟩
    · have hd : decide (s < 0) = false := decide_eq_false (by omega)
      have hd2 : decide ((S : Int) ≤ s) = true := decide_eq_true h2
      go_wp2_with fail
      refine Calls.mono (HSY.out (by first | rfl | trivial) _) ?_
      rintro e w3 ⟨rfl, hg3⟩
      have HG3 : Hid (w.grownBy w3 none) := grown_trans HX1.out.grown hg3
      clear hg3 k0 k1 k2 k3 k4
      go_wp2_with fail
      go_ret2
      exact ⟨none, 0, rfl, World.ownsRow_nil _ _ _ _, HG3.out⟩

set_option maxRecDepth 100000 in
theorem rgotoOk (hts : ∀ t ∈ ts, t.1.size ≤ 140737488355328) (hns : ∀ s ∈ ns, s.size ≤ 140737488355328) (hIb : I.length ≤ 8796093022208) (s : Nat) (hs : s < tn + nn) (hc : closedOK ts ns lv st n L R V) (hit : ∀ x ∈ I, itB n R x = true) : Calls Try.prog 20 #[.agg #[.slice ta tn tc, .slice na nn nc, .slice la ln lc, .int .i64 st, .slice pa n pc], .int .i64 (s : Int), .slice a I.length cap] w fun e y => ∃ l, IsClo tn n L R I l ∧ l.length ≤ I.length + 13000 ∧ ItsErr (kerT R l (s : Int)) 0 w e y := by
  have hM : MayOK tn nn n st L R true := by obtain ⟨rfl, rfl, rfl⟩ := hlen; exact mayOK_closed hc
  have HAS : Hid (∀ X, w.grownBy X none → Calls Try.prog 36 #[.agg #[.slice ta tn tc, .slice na nn nc, .slice la ln lc, .int .i64 st, .slice pa n pc], .slice a I.length cap] X fun e w' => e = .returned (.bool true) ∧ X.grownBy w' none) := fun X hX => rasked_any ta na la pa tc nc lc pc ts ns lv n L R ra rc V st X tn nn ln hlen (hG.kept hX) a cap I (hI.kept hX) hts hns hIb true ⟨fun _ => ⟨hc, hit⟩, fun _ => rfl⟩
  obtain ⟨S, hS⟩ : ∃ S, S = tn + nn := ⟨_, rfl⟩
  have HSY : Hid (∀ X, Calls Try.prog 24 #[.agg #[.slice ta tn tc, .slice na nn nc, .slice la ln lc, .int .i64 st, .slice pa n pc]] X fun e y => e = .returned (.int .i64 (S : Int)) ∧ X.grownBy y none) := fun X => by
    refine (Go.Proofs.Ytgpmmhkdpjlimaa.symbols_any ta na la pa tn nn ln n tc nc lc pc st X (by have := hM.tmax; omega) (by have := hM.nmax; omega)).mono ?_
    rintro e y ⟨rfl, hg⟩
    exact ⟨by rw [hS, Int.natCast_add], hg⟩
  have HBE : Hid (∀ X, w.grownBy X none → Calls Try.prog 39 #[.agg #[.slice ta tn tc, .slice na nn nc, .slice la ln lc, .int .i64 st, .slice pa n pc], .int .i64 (s : Int), .slice a I.length cap] X fun e y => BehTold tn n L R I (s : Int) X e y) := fun X hX => rbehind_any ta na la pa tc nc lc pc n L R ra rc V st (s : Int) X tn nn ln (prods_kept hG.prods hX) hM.pmax hM.p0 hM.tmax hM.nmax (fun k hk x hx => ⟨by have := hM.right k hk x hx; omega, (hM.right k hk x hx).2⟩) a cap I (hI.kept hX) hIb hit
  obtain ⟨m, hm⟩ : ∃ m, m = I.length := ⟨_, rfl⟩
  have HM : Hid (m = I.length) := hm
  rw [← hm] at HAS HBE
  rw [← hm]
  have hd : decide ((s : Int) < 0) = false := decide_eq_false (by omega)
  have hd2 : decide ((S : Int) ≤ (s : Int)) = false := decide_eq_false (by omega)
  have hd3 : decide (S ≤ s) = false := decide_eq_false (by omega)
  have HX0 : Hid (PhAt w (w.alloc (.cells #[.slice ta tn tc, .slice na nn nc, .slice la ln lc, .int .i64 st, .slice pa n pc] 27)) w.heap.size #[.slice ta tn tc, .slice na nn nc, .slice la ln lc, .int .i64 st, .slice pa n pc]) := ⟨World.grownBy_alloc _ _ none, heap_alloc_last w _⟩
  clear hlen hG hI hIb hc hit hm hM hts hns hS hs
  go_enter Try.func20, Try.ntmps20
  go_wp2_with fail
  refine Calls.mono (HAS.out _ HX0.out.grown) ?_
  rintro e w1 ⟨rfl, hg1⟩
  have HX1 : Hid (PhAt w w1 w.heap.size #[.slice ta tn tc, .slice na nn nc, .slice la ln lc, .int .i64 st, .slice pa n pc]) := HX0.out.kept hg1
  clear hg1 HX0
  obtain ⟨k0, k1, k2, k3, k4⟩ := HX1.out.cells
  go_wp2_with fail
  refine Calls.mono (HSY.out _) ?_
  rintro e w2 ⟨rfl, hg2⟩
  have HX2 : Hid (PhAt w w2 w.heap.size #[.slice ta tn tc, .slice na nn nc, .slice la ln lc, .int .i64 st, .slice pa n pc]) := HX1.out.kept hg2
  clear hg2 HX1 k0 k1 k2 k3 k4
  obtain ⟨k0, k1, k2, k3, k4⟩ := HX2.out.cells
  go_wp2_with fail
  refine Calls.mono (HBE.out _ HX2.out.grown) ?_
  rintro e w3 ⟨l, hIC, hll, a3, c3, rfl, ho3, hg3⟩
  have HQ : Hid (IsClo tn n L R I l ∧ l.length ≤ I.length + 13000) := ⟨hIC, hll⟩
  have HO3 : Hid (w3.ownsRow w.heap.size 49 2 (.slice a3 (kerT R l (s : Int)).length c3) (kerT R l (s : Int)).length (itsV (kerT R l (s : Int)))) := owns_lowJ ho3 HX2.out.grown.size
  have HG3 : Hid (w.grownBy w3 none) := grown_trans HX2.out.grown hg3
  obtain ⟨q, hq⟩ : ∃ q, q = (kerT R l (s : Int)).length := ⟨_, rfl⟩
  have HQL : Hid (q = (kerT R l (s : Int)).length) := hq
  rw [← hq]
  clear hIC hll ho3 hg3 hq k0 k1 k2 k3 k4
  go_wp2_with fail
  go_ret2
  exact ⟨l, HQ.out.1, by rw [HM.out]; exact HQ.out.2, a3, c3, by rw [← HQL.out]; rfl, HO3.out, HG3.out⟩
end

end Go.Proofs.Ytgpmmhkdpjlimaa.J

/-
  lr0: the law Lr0Closures, for every input.
-/
namespace Go.Proofs.Ytgpmmhkdpjlimaa.J
open Go.RowKit Go.Maps Go.Shelf

theorem calls_exC {P : Program} {f : FuncId} {args : Array Value} {w : World} {R : Ending → World → Prop} (h : Calls P f args w R) : ∃ e y, R e y := by
  obtain ⟨e, y, _, h1, _⟩ := h []
  exact ⟨e, y, h1⟩

theorem closu_core (ta na la pa : Option Addr) (tc nc lc pc : Nat) (ts : List (ByteArray × Int)) (ns : List ByteArray) (lv : List Int) (n : Nat) (L : Nat → Int) (R : Nat → List Int) (ra : Nat → Option Addr) (rc : Nat → Nat) (V : Nat → Int) (st : Int) (w : World) (tn nn ln : Nat) (hlen : ts.length = tn ∧ ns.length = nn ∧ lv.length = ln) (hG : GAt w ta na la pa tc nc lc pc ts ns lv n L R ra rc V) (hts : ∀ t ∈ ts, t.1.size ≤ 140737488355328) (hns : ∀ s ∈ ns, s.size ≤ 140737488355328) (a : Option Addr) (cap : Nat) (I : List It) (hI : ItsAt w a I) (s : Int) (hIb : I.length ≤ 8796093022208) (hnil : a = none → I.length = 0 ∧ cap = 0) : Calls Try.prog 4 #[.agg #[.slice ta tn tc, .slice na nn nc, .slice la ln lc, .int .i64 st, .slice pa n pc], .int .i64 s, .slice a I.length cap] w fun e w' => e = .returned (.bool true) ∧ w.grownBy w' none := by
  by_cases hc : closedOK ts ns lv st n L R V ∧ ∀ x ∈ I, itB n R x = true
  · obtain ⟨hc, hit⟩ := hc
    have h1 := fun X (hX : w.grownBy X none) a' c' (hI' : ItsAt X a' I) (hn' : a' = none → I.length = 0 ∧ c' = 0) => closureOk ta na la pa tc nc lc pc ts ns lv n L R ra rc V st X tn nn ln hlen (hG.kept hX) a' c' I hI' (by omega) hn' hc hit
    have h2 := fun X (hX : w.grownBy X none) => rclosureOk ta na la pa tc nc lc pc ts ns lv n L R ra rc V st X tn nn ln hlen (hG.kept hX) a cap I (hI.kept hX) hts hns hIb hc hit
    obtain ⟨_, _, l, hl, hll, _⟩ := calls_exC (h1 w (grown_refl _ _) a cap hI hnil)
    have c1 : ∀ X a' c', w.grownBy X none → ItsAt X a' I → (a' = none → I.length = 0 ∧ c' = 0) → Calls Try.prog 17 #[.agg #[.slice ta tn tc, .slice na nn nc, .slice la ln lc, .int .i64 st, .slice pa n pc], .slice a' I.length c'] X fun e y => ItsErr l 0 X e y := fun X a' c' hX hI' hn' => by
      refine (h1 X hX a' c' hI' hn').mono ?_
      rintro e y ⟨l', h3, _, he⟩
      exact he.same (h3.unique hl)
    have c2 : ∀ X, w.grownBy X none → Calls Try.prog 18 #[.agg #[.slice ta tn tc, .slice na nn nc, .slice la ln lc, .int .i64 st, .slice pa n pc], .slice a I.length cap] X fun e y => ItsErr l 0 X e y := fun X hX => by
      refine (h2 X hX).mono ?_
      rintro e y ⟨l', h3, _, he⟩
      exact he.same (h3.unique hl)
    by_cases hs : 0 ≤ s ∧ s < ((tn + nn : Nat) : Int)
    · obtain ⟨q, rfl⟩ : ∃ q : Nat, s = (q : Int) := ⟨s.toNat, by omega⟩
      have e1 := kerT_len R l (q : Int)
      refine closu_any ta na la pa tc nc lc pc n st w tn nn ln a cap I (q : Int) hI hIb hnil l (kerT R l (q : Int)) 0 0 (by omega) (by omega) c1 c2 (fun X a' c' hX hI' hn' => ?_) (fun X hX => ?_)
      · refine (gotoOk ta na la pa tc nc lc pc ts ns lv n L R ra rc V st X tn nn ln hlen (hG.kept hX) a' c' I hI' (by omega) hn' q (by omega) hc hit).mono ?_
        rintro e y ⟨l', h3, _, he⟩
        exact he.same (by rw [h3.unique hl])
      · refine (rgotoOk ta na la pa tc nc lc pc ts ns lv n L R ra rc V st X tn nn ln hlen (hG.kept hX) a cap I (hI.kept hX) hts hns hIb q (by omega) hc hit).mono ?_
        rintro e y ⟨l', h3, _, he⟩
        exact he.same (by rw [h3.unique hl])
    · have hns' := not_symB hs
      exact closu_any ta na la pa tc nc lc pc n st w tn nn ln a cap I s hI hIb hnil l [] 0 1 (by omega) (by simp) c1 c2 (fun X a' c' hX hI' _ => gotoBad ta na la pa tc nc lc pc ts ns lv n L R ra rc V st X tn nn ln hlen (hG.kept hX) a' c' I hI' (by omega) s (.inr (.inr hns'))) (fun X hX => rgotoBad ta na la pa tc nc lc pc ts ns lv n L R ra rc V st X tn nn ln hlen (hG.kept hX) a cap I (hI.kept hX) hts hns hIb s (.inr (.inr hns')))
  · have hb : ¬ closedOK ts ns lv st n L R V ∨ ¬ ∀ x ∈ I, itB n R x = true := by
      by_cases h : closedOK ts ns lv st n L R V
      · exact .inr fun h2 => hc ⟨h, h2⟩
      · exact .inl h
    exact closu_any ta na la pa tc nc lc pc n st w tn nn ln a cap I s hI hIb hnil [] [] 1 1 (by simp) (by simp) (fun X a' c' hX hI' _ => closureBad ta na la pa tc nc lc pc ts ns lv n L R ra rc V st X tn nn ln hlen (hG.kept hX) a' c' I hI' (by omega) hb) (fun X hX => rclosureBad ta na la pa tc nc lc pc ts ns lv n L R ra rc V st X tn nn ln hlen (hG.kept hX) a cap I (hI.kept hX) hts hns hIb hb) (fun X a' c' hX hI' _ => gotoBad ta na la pa tc nc lc pc ts ns lv n L R ra rc V st X tn nn ln hlen (hG.kept hX) a' c' I hI' (by omega) s (hb.imp id .inl)) (fun X hX => rgotoBad ta na la pa tc nc lc pc ts ns lv n L R ra rc V st X tn nn ln hlen (hG.kept hX) a cap I (hI.kept hX) hts hns hIb s (hb.imp id .inl))

end Go.Proofs.Ytgpmmhkdpjlimaa.J
