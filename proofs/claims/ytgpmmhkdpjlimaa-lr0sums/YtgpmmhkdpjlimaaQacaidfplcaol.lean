import Derived.Test.YtgpmmhkdpjlimaaQppakiaghelan
import Derived.Deep.RegionLaw
import Derived.Test.YtgpmmhkdpjlimaaQeehjajbkbkbk
import Derived.Test.YtgpmmhkdpjlimaaQofcghgnapdeh
import Derived.Test.YtgpmmhkdpjlimaaQfacefdkhpjgg

/-
  lr0: the document's from.
-/
namespace Go.Proofs.Ytgpmmhkdpjlimaa.J
open Go.RowKit Go.Maps Go.Shelf

attribute [local go_sem] Oper.semAt_some

theorem kerT_asc {R : Nat → List Int} {l : List It} (h : Asc l) (s : Int) : Asc (kerT R l s) := by
  unfold kerT Asc
  rw [List.pairwise_map]
  refine List.Pairwise.imp ?_ (List.Pairwise.filter _ h)
  intro x y hxy
  unfold ltI at *
  simp only
  omega

set_option maxRecDepth 100000 in
set_option maxHeartbeats 4000000 in
theorem rfrom_any (ta na la pa : Option Addr) (tc nc lc pc : Nat) (n : Nat) (L : Nat → Int) (R : Nat → List Int) (ra : Nat → Option Addr) (rc : Nat → Nat) (V : Nat → Int) (st s : Int) (w : World) (tn nn ln : Nat) (hP : ProdsAt w pa n L R ra rc V) (hRb : ∀ k, k < n → (R k).length ≤ 17592186044416) (a : Option Addr) (cap : Nat) (l : List It) (hl : ItsAt w a l) (hlb : l.length ≤ 8796093035208) (hit : ∀ x ∈ l, itB n R x = true) (hasc : Asc l) :
    Calls Try.prog 28 #[.agg #[.slice ta tn tc, .slice na nn nc, .slice la ln lc, .int .i64 st, .slice pa n pc], .int .i64 s, .slice a l.length cap] w fun e y => ItsTold (kerT R l s) w e y := by
  have HAH : Hid (∀ X x, w.grownBy X none → itB n R x = true → Calls Try.prog 41 #[.agg #[.slice ta tn tc, .slice na nn nc, .slice la ln lc, .int .i64 st, .slice pa n pc], .agg #[.int .i64 x.1, .int .i64 x.2]] X fun e y => e = .returned (.int .i64 (aheadV R x)) ∧ X.grownBy y none) := fun X x hX hx => rafter_any ta na la pa tc nc lc pc n L R ra rc V st X tn nn ln (prods_kept hP hX) x hx
  have HRB : Hid (∀ x, itB n R x = true → (0 : Int) ≤ x.2 ∧ x.2 ≤ 17592186044416) := fun x hx => by
    unfold itB at hx
    simp only [Bool.and_eq_true, decide_eq_true_eq] at hx
    have := hRb x.1.toNat (by omega)
    omega
  have HIT : Hid (∀ x ∈ l, itB n R x = true) := hit
  have HL : Hid (∀ X, w.grownBy X none → ItsAt X a l) := fun X hX => hl.kept hX
  have HAS : Hid (Asc l) := hasc
  obtain ⟨N, hN⟩ : ∃ m, m = l.length := ⟨_, rfl⟩
  have HN : Hid (N = l.length) := hN
  rw [← hN] at hlb
  rw [← hN]
  have HX0 : Hid (PhAt w (w.alloc (.cells #[.slice ta tn tc, .slice na nn nc, .slice la ln lc, .int .i64 st, .slice pa n pc] 27)) w.heap.size #[.slice ta tn tc, .slice na nn nc, .slice la ln lc, .int .i64 st, .slice pa n pc]) := ⟨World.grownBy_alloc _ _ none, heap_alloc_last w _⟩
  obtain ⟨i0, hi0, hz0, hz1, hz2⟩ := info_parts infoItem
  clear hP hRb hl hit hasc hN
  go_enter Try.func28, Try.ntmps28
  go_wp2_with fail
  go_loopg [7, 8] N (fun gk v7 v8 wr => ∃ (i q c : Nat) (a' : Option Addr), i ≤ N ∧ gk = N - i ∧ v7 = .slice a' q c ∧ v8 = .int .i64 i ∧ q = (kerT R (l.take i) s).length ∧ q ≤ i ∧ wr.ownsRow w.heap.size 49 2 (.slice a' q c) q (itsV (kerT R (l.take i) s)) ∧ PhAt w wr w.heap.size #[.slice ta tn tc, .slice na nn nc, .slice la ln lc, .int .i64 st, .slice pa n pc])
  case atStart => exact ⟨0, 0, 0, none, Nat.zero_le _, rfl, rfl, rfl, rfl, Nat.le_refl _, World.ownsRow_nil _ _ _ _, HX0.out⟩
  case round =>
    obtain ⟨i, q, c, a', hi, hgi, rfl, rfl, hq, hqi, hO, hPh⟩ := hrel
    have HGI : Hid (gk = N - i) := hgi
    have HQ : Hid (q = (kerT R (l.take i) s).length) := hq
    have HO : Hid (wr.ownsRow w.heap.size 49 2 (.slice a' q c) q (itsV (kerT R (l.take i) s))) := hO
    have HPh : Hid (PhAt w wr w.heap.size #[.slice ta tn tc, .slice na nn nc, .slice la ln lc, .int .i64 st, .slice pa n pc]) := hPh
    clear hgi hq hO hPh HX0
    by_cases hlt : i < N
    · have hi0' : (0 : Int) ≤ (i : Int) := by omega
      have hi1' : (i : Int) < (N : Int) := by omega
      have hid : decide (i < N) = true := decide_eq_true hlt
      have hil : i < l.length := by rw [← HN.out]; exact hlt
      obtain ⟨lb, lo, rfl, HLC⟩ : ∃ lb lo, a = some ⟨lb, lo, none⟩ ∧ Hid (∀ X, w.grownBy X none → X.cell? ⟨lb, lo + i * 2, none⟩ = some (.int .i64 (l.getD i (0, 0)).1) ∧ X.cell? ⟨lb, lo + i * 2 + 1, none⟩ = some (.int .i64 (l.getD i (0, 0)).2)) := by
        obtain ⟨lb, lo, e, _⟩ := (HL.out w (grown_refl _ _)).at hil
        refine ⟨lb, lo, e, fun X hX => ?_⟩
        obtain ⟨lb', lo', e', q1, q2⟩ := (HL.out X hX).at hil
        rw [e] at e'
        cases e'
        exact ⟨q1, q2⟩
      have hmem : l.getD i (0, 0) ∈ l := by rw [List.getD_eq_getElem?_getD, List.getElem?_eq_getElem hil]; exact List.getElem_mem hil
      have hxi := HIT.out _ hmem
      have hdb := HRB.out _ hxi
      have HTK : Hid (kerT R (l.take (i + 1)) s = kerT R (l.take i) s ++ (if aheadV R (l.getD i (0, 0)) = s then [((l.getD i (0, 0)).1, (l.getD i (0, 0)).2 + 1)] else [])) := by show _ = _; rw [take_at hil, kerT_append, kerT_one]
      have HAC : Hid (∀ X, wr.grownBy X none → Calls Try.prog 41 #[.agg #[.slice ta tn tc, .slice na nn nc, .slice la ln lc, .int .i64 st, .slice pa n pc], .agg #[.int .i64 (l.getD i (0, 0)).1, .int .i64 (l.getD i (0, 0)).2]] X fun e y => e = .returned (.int .i64 (aheadV R (l.getD i (0, 0)))) ∧ X.grownBy y none) := fun X hX => HAH.out X _ (grown_trans HPh.out.grown hX) hxi
      obtain ⟨sv, hsv⟩ : ∃ s, s = aheadV R (l.getD i (0, 0)) := ⟨_, rfl⟩
      rw [← hsv] at HAC HTK
      obtain ⟨x, hx⟩ : ∃ x, x = l.getD i (0, 0) := ⟨_, rfl⟩
      rw [← hx] at HAC HLC HTK hdb
      clear hsv hx hxi hmem hil
      obtain ⟨p, d⟩ := x
      simp only at HAC HLC HTK hdb
      obtain ⟨d2, hd2⟩ : ∃ d2 : Nat, d = (d2 : Int) := ⟨d.toNat, by omega⟩
      subst hd2
      have hd3 : d2 ≤ 17592186044416 := by omega
      have HUP : Hid (wr.grownBy wr.drew none) := grown_drewN wr 1
      have HKS : Hid (∀ Y, wr.grownBy Y none → (Y.cell? ⟨w.heap.size, 0, none⟩ = some (.slice ta tn tc) ∧ Y.cell? ⟨w.heap.size, 1, none⟩ = some (.slice na nn nc) ∧ Y.cell? ⟨w.heap.size, 2, none⟩ = some (.slice la ln lc) ∧ Y.cell? ⟨w.heap.size, 3, none⟩ = some (.int .i64 st) ∧ Y.cell? ⟨w.heap.size, 4, none⟩ = some (.slice pa n pc)) ∧ Y.cell? ⟨lb, lo + i * 2, none⟩ = some (.int .i64 p) ∧ Y.cell? ⟨lb, lo + i * 2 + 1, none⟩ = some (.int .i64 (d2 : Int))) := fun Y hY => ⟨(HPh.out.kept hY).cells, (HLC.out Y (grown_trans HPh.out.grown hY)).1, (HLC.out Y (grown_trans HPh.out.grown hY)).2⟩
      clear hdb
      go_wp2_with fail
      go_region_held3 (fun Y => (Y.cell? ⟨w.heap.size, 0, none⟩ = some (.slice ta tn tc) ∧ Y.cell? ⟨w.heap.size, 1, none⟩ = some (.slice na nn nc) ∧ Y.cell? ⟨w.heap.size, 2, none⟩ = some (.slice la ln lc) ∧ Y.cell? ⟨w.heap.size, 3, none⟩ = some (.int .i64 st) ∧ Y.cell? ⟨w.heap.size, 4, none⟩ = some (.slice pa n pc)) ∧ Y.cell? ⟨lb, lo + i * 2, none⟩ = some (.int .i64 p) ∧ Y.cell? ⟨lb, lo + i * 2 + 1, none⟩ = some (.int .i64 (d2 : Int))) (first | exact HKS.out _ HUP.out | exact HKS.out _ HG4.out | go_keep)
        ((first
          | (go_at_call 41; refine Calls.mono (HAC.out _ HUP.out) ?_; rintro e w4 ⟨rfl, hg4⟩; have HG4 : Hid (wr.grownBy w4 none) := grown_trans HUP.out hg4; clear hg4)
          | fail))
      have HP4 : Hid (PhAt w w4 w.heap.size #[.slice ta tn tc, .slice na nn nc, .slice la ln lc, .int .i64 st, .slice pa n pc]) := HPh.out.kept HG4.out
      have HO4 : Hid (∀ X, w4.grownBy X none → X.ownsRow w.heap.size 49 2 (.slice a' q c) q (itsV (kerT R (l.take i) s))) := fun X hX => keep0 HO.out (grown_trans HG4.out hX)
      clear HKS HUP HAC HPh HO
      by_cases hse : sv = s
      · have he : (sv == s) = true := beq_iff_eq.2 hse
        have HT2 : Hid (kerT R (l.take (i + 1)) s = kerT R (l.take i) s ++ [(p, (d2 : Int) + 1)]) := by show _ = _; rw [HTK.out, if_pos hse]
        have hwr : IntKind.i64.wrap ((d2 : Int) + 1) = (d2 : Int) + 1 := by rw [IntKind.wrap_i64]; omega
        have y0 := (HLC.out w4 HP4.out.grown).1
        have y1 := (HLC.out w4 HP4.out.grown).2
        have HSZ : Hid (∀ X, w4.grownBy X none → w.heap.size ≤ X.heap.size) := fun X hX => (grown_trans HP4.out.grown hX).size
        have HFI : Hid (∀ (Y Z : World) (v : Value), w4.grownBy Y none → Y.grownBy Z (Value.slice a' q c).ownBlock → Z.ownsRow w.heap.size 49 2 v (q + 1) (itsV (kerT R (l.take i) s) ++ [.int .i64 p, .int .i64 ((d2 : Int) + 1)]) → Z.ownsRow w.heap.size 49 2 v (q + 1) (itsV (kerT R (l.take (i + 1)) s)) ∧ PhAt w Z w.heap.size #[.slice ta tn tc, .slice na nn nc, .slice la ln lc, .int .i64 st, .slice pa n pc]) := fun Y Z v hY hg ho => by
          refine ⟨by rw [HT2.out, itsV_append]; exact ho, grown_row (HP4.out.kept hY).grown (HO4.out Y hY) (Nat.le_refl _) hg, ?_⟩
          have hb := (HP4.out.kept hY).box
          refine (hg.block _ (Array.getElem?_eq_some_iff.1 hb).1 ?_).trans hb
          rcases owns_nebox (HO4.out Y hY) hb (by decide) with h1 | h1
          · rw [h1]; simp
          · exact fun h2 => h1 h2.symm
        obtain ⟨xs, hxs⟩ : ∃ xs, xs = itsV (kerT R (l.take i) s) := ⟨_, rfl⟩
        rw [← hxs] at HO4 HFI
        clear hse hxs
        go_wp2_with fail
        go_region_law (first
          | (refine step_append_liesW _ rfl (.tmp 23) (.tmp 36) 40 rfl w.heap.size 49 i0 (.agg #[.int .i64 0, .int .i64 0]) 2 16 Try.underlying40 hi0 hz0 hz1 hz2 rfl (by decide) (.slice a' q c) q xs (by simp [Act.eval]) (HO4.out _ (grown_trans (World.grownBy_alloc _ _ none) (grown_drewN _ 1))) ⟨w4.heap.size, 0, none⟩ 1 1 [.int .i64 p, .int .i64 ((d2 : Int) + 1)] (by simp [Act.eval]) rfl (World.news_of_block (heap_alloc_last w4 _)) (by simp [Value.oneCell']) (by decide) (by unfold maxLen; omega) (by omega) (HSZ.out _ (grown_trans (World.grownBy_alloc _ _ none) (grown_drewN _ 1))) ?_; intro g7 c7 wB hoB hgB _; have HQ1 := show Hid _ from HFI.out _ wB _ (grown_trans (World.grownBy_alloc _ _ none) (grown_drewN _ 1)) hgB hoB; clear hoB hgB)
          | fail)
        all_goals go_wp2_with fail
        all_goals go_roundg (N - (i + 1))
        all_goals first
          | exact ⟨i + 1, q + 1, c7, _, by omega, rfl, rfl, by go_num, by rw [HT2.out, List.length_append, ← HQ.out]; rfl, by omega, HQ1.out.1, HQ1.out.2⟩
          | (have := HGI.out; omega)
      · have he : (sv == s) = false := beq_eq_false_iff_ne.2 hse
        have HT2 : Hid (kerT R (l.take (i + 1)) s = kerT R (l.take i) s) := by show _ = _; rw [HTK.out, if_neg hse, List.append_nil]
        clear hse
        go_wp2_with fail
        go_roundg (N - (i + 1))
        case measure => have := HGI.out; omega
        case rel => exact ⟨i + 1, q, c, a', by omega, rfl, rfl, by go_num, by rw [HT2.out]; exact HQ.out, by omega, by rw [HT2.out]; exact HO4.out _ (grown_refl _ _), HP4.out⟩
    · have hin : N = i := by omega
      subst hin
      have hid : decide (N < N) = false := decide_eq_false (by omega)
      have HTL : Hid (l.take N = l) := by show _ = _; rw [HN.out]; exact List.take_length
      rw [HTL.out] at HO HQ
      have HLA : Hid (Calls Try.prog 25 #[.slice a' q c] wr fun e y => LaidTold (kerT R l s) wr e y) := by
        have ho := HO.out
        rw [HQ.out] at ho ⊢
        exact laid_any a' c (kerT R l s) wr (ItsAt.of ho) (by rw [← HQ.out]; omega)
      go_wp2_with fail
      refine Calls.mono HLA.out ?_
      rintro e w5 ⟨l', h1, h2, h3, a5, c5, rfl, ho5, hg5⟩
      have HE : Hid (l' = kerT R l s) := h1.unique (kerT_asc HAS.out s) h2
      have HO5 : Hid (w5.ownsRow w.heap.size 49 2 (.slice a5 l'.length c5) l'.length (itsV l')) := owns_lowJ ho5 HPh.out.grown.size
      have HG5 : Hid (w.grownBy w5 none) := grown_trans HPh.out.grown hg5
      obtain ⟨m, hm⟩ : ∃ m, m = l'.length := ⟨_, rfl⟩
      have HM : Hid (m = l'.length) := hm
      rw [← hm]
      clear h1 h2 h3 ho5 hg5 hm HLA
      go_wp2_with fail
      go_ret
      exact ⟨a5, c5, by rw [← HE.out, ← HM.out]; rfl, by rw [← HE.out]; exact HO5.out, HG5.out⟩

end Go.Proofs.Ytgpmmhkdpjlimaa.J

/-
  lr0: the law Lr0Sums, for every input.
-/
namespace Go.Proofs.Ytgpmmhkdpjlimaa.J
open Go.RowKit Go.Maps Go.Shelf

theorem calls_ex {P : Program} {f : FuncId} {args : Array Value} {w : World} {R : Ending → World → Prop} (h : Calls P f args w R) : ∃ e y, R e y := by
  obtain ⟨e, y, _, h1, _⟩ := h []
  exact ⟨e, y, h1⟩

theorem clo_mono {tn n : Nat} {L : Nat → Int} {R : Nat → List Int} {I J : List It} (h : ∀ x ∈ I, x ∈ J) {x : It} (hx : Clo tn n L R I x) : Clo tn n L R J x := fun P h1 h2 => hx P (fun y hy => h1 y (h y hy)) h2
/-- What two closures have together is the closure of both. -/
theorem isClo_sum {tn n : Nat} {L : Nat → Int} {R : Nat → List Int} {I J A B C : List It} (hA : IsClo tn n L R I A) (hB : IsClo tn n L R J B) (hC : IsClo tn n L R (I ++ J) C) (x : It) : x ∈ C ↔ x ∈ A ++ B := by
  rw [List.mem_append]
  constructor
  · intro hx
    refine (hC.mem x).1 hx (fun y => y ∈ A ∨ y ∈ B) (fun y hy => ?_) (fun y k hy ht hk hl => ?_)
    · rcases List.mem_append.1 hy with h | h
      · exact .inl ((hA.mem y).2 (Clo.base h))
      · exact .inr ((hB.mem y).2 (Clo.base h))
    · rcases hy with h | h
      · exact .inl ((hA.mem _).2 (((hA.mem y).1 h).step ht hk hl))
      · exact .inr ((hB.mem _).2 (((hB.mem y).1 h).step ht hk hl))
  · rintro (h | h)
    · exact (hC.mem x).2 (clo_mono (fun y hy => List.mem_append.2 (.inl hy)) ((hA.mem x).1 h))
    · exact (hC.mem x).2 (clo_mono (fun y hy => List.mem_append.2 (.inr hy)) ((hB.mem x).1 h))
theorem mem_kerT {R : Nat → List Int} {l : List It} {s : Int} {x : It} : x ∈ kerT R l s ↔ ∃ y ∈ l, aheadV R y = s ∧ (y.1, y.2 + 1) = x := by
  unfold kerT
  rw [List.mem_map]
  constructor
  · rintro ⟨y, hy, rfl⟩
    obtain ⟨h1, h2⟩ := List.mem_filter.1 hy
    exact ⟨y, h1, by simpa using h2, rfl⟩
  · rintro ⟨y, hy, h, rfl⟩
    exact ⟨y, List.mem_filter.2 ⟨hy, by simpa using h⟩, rfl⟩
theorem ker_sum {R : Nat → List Int} {A B C : List It} (h : ∀ x, x ∈ C ↔ x ∈ A ++ B) (s : Int) (x : It) : x ∈ kerT R C s ↔ x ∈ kerT R A s ++ kerT R B s := by
  rw [List.mem_append, mem_kerT, mem_kerT, mem_kerT]
  constructor
  · rintro ⟨y, hy, h1, h2⟩
    rcases List.mem_append.1 ((h y).1 hy) with h3 | h3
    · exact .inl ⟨y, h3, h1, h2⟩
    · exact .inr ⟨y, h3, h1, h2⟩
  · rintro (⟨y, hy, h1, h2⟩ | ⟨y, hy, h1, h2⟩)
    · exact ⟨y, (h y).2 (List.mem_append.2 (.inl hy)), h1, h2⟩
    · exact ⟨y, (h y).2 (List.mem_append.2 (.inr hy)), h1, h2⟩
theorem its_takeS {X : World} {a : Option Addr} {l : List It} (h : ItsAt X a l) (k : Nat) : ItsAt X a (l.take k) := by
  rcases h with h | ⟨b, off, e, h⟩
  · rw [h]; exact .inl (by simp)
  · refine .inr ⟨b, off, e, fun i hi => ?_⟩
    rw [List.length_take] at hi
    have e2 : (l.take k).getD i (0, 0) = l.getD i (0, 0) := by
      rw [List.getD_eq_getElem?_getD, List.getD_eq_getElem?_getD, List.getElem?_take, if_pos (by omega)]
    rw [e2]; exact h i (by omega)
theorem its_drop {X : World} {x : Addr} {l : List It} (h : ItsAt X (some x) l) (k : Nat) : ItsAt X (some (x.add (k * 2))) (l.drop k) := by
  rcases h with h | ⟨b, off, e, h⟩
  · rw [h]; exact .inl (by simp)
  · have e1 : x = ⟨b, off, none⟩ := by simpa using e
    subst e1
    refine .inr ⟨b, off + k * 2, by rw [Addr.add_mid], fun i hi => ?_⟩
    rw [List.length_drop] at hi
    have e2 : (l.drop k).getD i (0, 0) = l.getD (k + i) (0, 0) := by
      rw [List.getD_eq_getElem?_getD, List.getD_eq_getElem?_getD, List.getElem?_drop]
    rw [e2]
    have h2 := h (k + i) (by omega)
    rw [show off + k * 2 + i * 2 = off + (k + i) * 2 by omega]
    exact h2

section
variable (ta na la pa : Option Addr) (tc nc lc pc : Nat) (ts : List (ByteArray × Int)) (ns : List ByteArray) (lv : List Int) (n : Nat) (L : Nat → Int) (R : Nat → List Int) (ra : Nat → Option Addr) (rc : Nat → Nat) (V : Nat → Int) (st : Int) (w : World) (tn nn ln : Nat) (hlen : ts.length = tn ∧ ns.length = nn ∧ lv.length = ln) (hG : GAt w ta na la pa tc nc lc pc ts ns lv n L R ra rc V)
include hlen hG

/-- What the six calls tell of two lists, and of both together. -/
theorem sums_told (s : Int) (a1 a2 a3 : Option Addr) (k1 k2 k3 : Nat) (I J : List It) (hI : ItsAt w a1 I) (hJ : ItsAt w a2 J) (hK : ItsAt w a3 (I ++ J)) (n1 : a1 = none → I.length = 0 ∧ k1 = 0) (n2 : a2 = none → J.length = 0 ∧ k2 = 0) (n3 : a3 = none → (I ++ J).length = 0 ∧ k3 = 0) (hb : (I ++ J).length ≤ 8796093022208) {Q : Prop}
    (q1 : ∀ (A B C xA xB xC : List It) (f1 i1 l1 : Int), (∀ X, w.grownBy X none → Calls Try.prog 17 #[.agg #[.slice ta tn tc, .slice na nn nc, .slice la ln lc, .int .i64 st, .slice pa n pc], .slice a1 I.length k1] X fun e y => ItsErr A 1 X e y) → (∀ X, w.grownBy X none → Calls Try.prog 17 #[.agg #[.slice ta tn tc, .slice na nn nc, .slice la ln lc, .int .i64 st, .slice pa n pc], .slice a2 J.length k2] X fun e y => ItsErr B f1 X e y) → (∀ X, w.grownBy X none → Calls Try.prog 17 #[.agg #[.slice ta tn tc, .slice na nn nc, .slice la ln lc, .int .i64 st, .slice pa n pc], .slice a3 (I ++ J).length k3] X fun e y => ItsErr C 1 X e y) → (∀ X, w.grownBy X none → Calls Try.prog 19 #[.agg #[.slice ta tn tc, .slice na nn nc, .slice la ln lc, .int .i64 st, .slice pa n pc], .int .i64 s, .slice a1 I.length k1] X fun e y => ItsErr xA i1 X e y) → (∀ X, w.grownBy X none → Calls Try.prog 19 #[.agg #[.slice ta tn tc, .slice na nn nc, .slice la ln lc, .int .i64 st, .slice pa n pc], .int .i64 s, .slice a2 J.length k2] X fun e y => ItsErr xB l1 X e y) → (∀ X, w.grownBy X none → Calls Try.prog 19 #[.agg #[.slice ta tn tc, .slice na nn nc, .slice la ln lc, .int .i64 st, .slice pa n pc], .int .i64 s, .slice a3 (I ++ J).length k3] X fun e y => ItsErr xC 1 X e y) → Q)
    (q2 : ∀ (A B C xA xB xC : List It) (i1 l1 : Int), (∀ X, w.grownBy X none → Calls Try.prog 17 #[.agg #[.slice ta tn tc, .slice na nn nc, .slice la ln lc, .int .i64 st, .slice pa n pc], .slice a1 I.length k1] X fun e y => ItsErr A 0 X e y) → (∀ X, w.grownBy X none → Calls Try.prog 17 #[.agg #[.slice ta tn tc, .slice na nn nc, .slice la ln lc, .int .i64 st, .slice pa n pc], .slice a2 J.length k2] X fun e y => ItsErr B 1 X e y) → (∀ X, w.grownBy X none → Calls Try.prog 17 #[.agg #[.slice ta tn tc, .slice na nn nc, .slice la ln lc, .int .i64 st, .slice pa n pc], .slice a3 (I ++ J).length k3] X fun e y => ItsErr C 1 X e y) → (∀ X, w.grownBy X none → Calls Try.prog 19 #[.agg #[.slice ta tn tc, .slice na nn nc, .slice la ln lc, .int .i64 st, .slice pa n pc], .int .i64 s, .slice a1 I.length k1] X fun e y => ItsErr xA i1 X e y) → (∀ X, w.grownBy X none → Calls Try.prog 19 #[.agg #[.slice ta tn tc, .slice na nn nc, .slice la ln lc, .int .i64 st, .slice pa n pc], .int .i64 s, .slice a2 J.length k2] X fun e y => ItsErr xB l1 X e y) → (∀ X, w.grownBy X none → Calls Try.prog 19 #[.agg #[.slice ta tn tc, .slice na nn nc, .slice la ln lc, .int .i64 st, .slice pa n pc], .int .i64 s, .slice a3 (I ++ J).length k3] X fun e y => ItsErr xC 1 X e y) → Q)
    (q3 : ∀ (A B C xA xB xC : List It), A.length + B.length ≤ 8796093062208 → C.length ≤ 8796093062208 → (∀ l', Asc l' → (∀ x, x ∈ l' ↔ x ∈ A ++ B) → l' = C) → (∀ X, w.grownBy X none → Calls Try.prog 17 #[.agg #[.slice ta tn tc, .slice na nn nc, .slice la ln lc, .int .i64 st, .slice pa n pc], .slice a1 I.length k1] X fun e y => ItsErr A 0 X e y) → (∀ X, w.grownBy X none → Calls Try.prog 17 #[.agg #[.slice ta tn tc, .slice na nn nc, .slice la ln lc, .int .i64 st, .slice pa n pc], .slice a2 J.length k2] X fun e y => ItsErr B 0 X e y) → (∀ X, w.grownBy X none → Calls Try.prog 17 #[.agg #[.slice ta tn tc, .slice na nn nc, .slice la ln lc, .int .i64 st, .slice pa n pc], .slice a3 (I ++ J).length k3] X fun e y => ItsErr C 0 X e y) → (∀ X, w.grownBy X none → Calls Try.prog 19 #[.agg #[.slice ta tn tc, .slice na nn nc, .slice la ln lc, .int .i64 st, .slice pa n pc], .int .i64 s, .slice a1 I.length k1] X fun e y => ItsErr xA 1 X e y) → (∀ X, w.grownBy X none → Calls Try.prog 19 #[.agg #[.slice ta tn tc, .slice na nn nc, .slice la ln lc, .int .i64 st, .slice pa n pc], .int .i64 s, .slice a2 J.length k2] X fun e y => ItsErr xB 1 X e y) → (∀ X, w.grownBy X none → Calls Try.prog 19 #[.agg #[.slice ta tn tc, .slice na nn nc, .slice la ln lc, .int .i64 st, .slice pa n pc], .int .i64 s, .slice a3 (I ++ J).length k3] X fun e y => ItsErr xC 1 X e y) → Q)
    (q4 : ∀ (A B C xA xB xC : List It), A.length + B.length ≤ 8796093062208 → C.length ≤ 8796093062208 → (∀ l', Asc l' → (∀ x, x ∈ l' ↔ x ∈ A ++ B) → l' = C) → xA.length + xB.length ≤ 8796093062208 → xC.length ≤ 8796093062208 → (∀ l', Asc l' → (∀ x, x ∈ l' ↔ x ∈ xA ++ xB) → l' = xC) → (∀ X, w.grownBy X none → Calls Try.prog 17 #[.agg #[.slice ta tn tc, .slice na nn nc, .slice la ln lc, .int .i64 st, .slice pa n pc], .slice a1 I.length k1] X fun e y => ItsErr A 0 X e y) → (∀ X, w.grownBy X none → Calls Try.prog 17 #[.agg #[.slice ta tn tc, .slice na nn nc, .slice la ln lc, .int .i64 st, .slice pa n pc], .slice a2 J.length k2] X fun e y => ItsErr B 0 X e y) → (∀ X, w.grownBy X none → Calls Try.prog 17 #[.agg #[.slice ta tn tc, .slice na nn nc, .slice la ln lc, .int .i64 st, .slice pa n pc], .slice a3 (I ++ J).length k3] X fun e y => ItsErr C 0 X e y) → (∀ X, w.grownBy X none → Calls Try.prog 19 #[.agg #[.slice ta tn tc, .slice na nn nc, .slice la ln lc, .int .i64 st, .slice pa n pc], .int .i64 s, .slice a1 I.length k1] X fun e y => ItsErr xA 0 X e y) → (∀ X, w.grownBy X none → Calls Try.prog 19 #[.agg #[.slice ta tn tc, .slice na nn nc, .slice la ln lc, .int .i64 st, .slice pa n pc], .int .i64 s, .slice a2 J.length k2] X fun e y => ItsErr xB 0 X e y) → (∀ X, w.grownBy X none → Calls Try.prog 19 #[.agg #[.slice ta tn tc, .slice na nn nc, .slice la ln lc, .int .i64 st, .slice pa n pc], .int .i64 s, .slice a3 (I ++ J).length k3] X fun e y => ItsErr xC 0 X e y) → Q) : Q := by
  rw [List.length_append] at hb
  have cB := fun (a : Option Addr) (c : Nat) (I : List It) (hI : ItsAt w a I) (hIb : I.length ≤ 8796093022208) (hbad : ¬ closedOK ts ns lv st n L R V ∨ ¬ ∀ x ∈ I, itB n R x = true) (X : World) (hX : w.grownBy X none) => closureBad ta na la pa tc nc lc pc ts ns lv n L R ra rc V st X tn nn ln hlen (hG.kept hX) a c I (hI.kept hX) (by omega) hbad
  have gB := fun (a : Option Addr) (c : Nat) (I : List It) (hI : ItsAt w a I) (hIb : I.length ≤ 8796093022208) (hbad : ¬ closedOK ts ns lv st n L R V ∨ (¬ ∀ x ∈ I, itB n R x = true) ∨ symB (tn + nn) s = false) (X : World) (hX : w.grownBy X none) => gotoBad ta na la pa tc nc lc pc ts ns lv n L R ra rc V st X tn nn ln hlen (hG.kept hX) a c I (hI.kept hX) (by omega) s hbad
  have cK : ∀ (a : Option Addr) (c : Nat) (I : List It), ItsAt w a I → (a = none → I.length = 0 ∧ c = 0) → I.length ≤ 8796093022208 → closedOK ts ns lv st n L R V → (∀ x ∈ I, itB n R x = true) → ∃ l, IsClo tn n L R I l ∧ l.length ≤ I.length + 13000 ∧ ∀ X, w.grownBy X none → Calls Try.prog 17 #[.agg #[.slice ta tn tc, .slice na nn nc, .slice la ln lc, .int .i64 st, .slice pa n pc], .slice a I.length c] X fun e y => ItsErr l 0 X e y := fun a c I hI hn hIb hc hit => by
    have h := fun X (hX : w.grownBy X none) => closureOk ta na la pa tc nc lc pc ts ns lv n L R ra rc V st X tn nn ln hlen (hG.kept hX) a c I (hI.kept hX) (by omega) hn hc hit
    obtain ⟨_, _, l, h1, h2, _⟩ := calls_ex (h w (grown_refl _ _))
    refine ⟨l, h1, h2, fun X hX => (h X hX).mono ?_⟩
    rintro e y ⟨l', h3, _, he⟩
    exact he.same (h3.unique h1)
  have gK : ∀ (q : Nat) (a : Option Addr) (c : Nat) (I l : List It), q < tn + nn → ItsAt w a I → (a = none → I.length = 0 ∧ c = 0) → I.length ≤ 8796093022208 → closedOK ts ns lv st n L R V → (∀ x ∈ I, itB n R x = true) → IsClo tn n L R I l → ∀ X, w.grownBy X none → Calls Try.prog 19 #[.agg #[.slice ta tn tc, .slice na nn nc, .slice la ln lc, .int .i64 st, .slice pa n pc], .int .i64 (q : Int), .slice a I.length c] X fun e y => ItsErr (kerT R l (q : Int)) 0 X e y := fun q a c I l hq hI hn hIb hc hit h1 X hX => by
    refine (gotoOk ta na la pa tc nc lc pc ts ns lv n L R ra rc V st X tn nn ln hlen (hG.kept hX) a c I (hI.kept hX) (by omega) hn q hq hc hit).mono ?_
    rintro e y ⟨l', h3, _, he⟩
    exact he.same (by rw [h3.unique h1])
  have hb3 : (I ++ J).length ≤ 8796093022208 := by rw [List.length_append]; omega
  by_cases hc : closedOK ts ns lv st n L R V
  · by_cases hi1 : ∀ x ∈ I, itB n R x = true
    · obtain ⟨A, hA, hAl, cA⟩ := cK a1 k1 I hI n1 (by omega) hc hi1
      by_cases hi2 : ∀ x ∈ J, itB n R x = true
      · have hi3 : ∀ x ∈ I ++ J, itB n R x = true := fun x hx => (List.mem_append.1 hx).elim (hi1 x) (hi2 x)
        obtain ⟨B, hB, hBl, cBB⟩ := cK a2 k2 J hJ n2 (by omega) hc hi2
        obtain ⟨C, hC, hCl, cC⟩ := cK a3 k3 (I ++ J) hK n3 hb3 hc hi3
        rw [List.length_append] at hCl
        have hsum : ∀ l', Asc l' → (∀ x, x ∈ l' ↔ x ∈ A ++ B) → l' = C := fun l' h1 h2 => h1.unique hC.asc fun x => (h2 x).trans (isClo_sum hA hB hC x).symm
        by_cases hs : 0 ≤ s ∧ s < ((tn + nn : Nat) : Int)
        · obtain ⟨q, rfl⟩ : ∃ q : Nat, s = (q : Int) := ⟨s.toNat, by omega⟩
          have hq : q < tn + nn := by omega
          have e1 := kerT_len R A (q : Int)
          have e2 := kerT_len R B (q : Int)
          have e3 := kerT_len R C (q : Int)
          exact q4 A B C _ _ _ (by omega) (by omega) hsum (by omega) (by omega) (fun l' h1 h2 => h1.unique (kerT_asc hC.asc _) fun x => (h2 x).trans (ker_sum (isClo_sum hA hB hC) (q : Int) x).symm) cA cBB cC (gK q a1 k1 I A hq hI n1 (by omega) hc hi1 hA) (gK q a2 k2 J B hq hJ n2 (by omega) hc hi2 hB) (gK q a3 k3 (I ++ J) C hq hK n3 hb3 hc hi3 hC)
        · have hns := not_symB hs
          exact q3 A B C [] [] [] (by omega) (by omega) hsum cA cBB cC (gB a1 k1 I hI (by omega) (.inr (.inr hns))) (gB a2 k2 J hJ (by omega) (.inr (.inr hns))) (gB a3 k3 (I ++ J) hK hb3 (.inr (.inr hns)))
      · have hi3 : ¬ ∀ x ∈ I ++ J, itB n R x = true := fun h => hi2 fun x hx => h x (List.mem_append.2 (.inr hx))
        by_cases hs : 0 ≤ s ∧ s < ((tn + nn : Nat) : Int)
        · obtain ⟨q, rfl⟩ : ∃ q : Nat, s = (q : Int) := ⟨s.toNat, by omega⟩
          exact q2 A [] [] _ [] [] 0 1 cA (cB a2 k2 J hJ (by omega) (.inr hi2)) (cB a3 k3 (I ++ J) hK hb3 (.inr hi3)) (gK q a1 k1 I A (by omega) hI n1 (by omega) hc hi1 hA) (gB a2 k2 J hJ (by omega) (.inr (.inl hi2))) (gB a3 k3 (I ++ J) hK hb3 (.inr (.inl hi3)))
        · have hns := not_symB hs
          exact q2 A [] [] [] [] [] 1 1 cA (cB a2 k2 J hJ (by omega) (.inr hi2)) (cB a3 k3 (I ++ J) hK hb3 (.inr hi3)) (gB a1 k1 I hI (by omega) (.inr (.inr hns))) (gB a2 k2 J hJ (by omega) (.inr (.inl hi2))) (gB a3 k3 (I ++ J) hK hb3 (.inr (.inl hi3)))
    · have hi3 : ¬ ∀ x ∈ I ++ J, itB n R x = true := fun h => hi1 fun x hx => h x (List.mem_append.2 (.inl hx))
      by_cases hi2 : ∀ x ∈ J, itB n R x = true
      · obtain ⟨B, hB, hBl, cBB⟩ := cK a2 k2 J hJ n2 (by omega) hc hi2
        by_cases hs : 0 ≤ s ∧ s < ((tn + nn : Nat) : Int)
        · obtain ⟨q, rfl⟩ : ∃ q : Nat, s = (q : Int) := ⟨s.toNat, by omega⟩
          exact q1 [] B [] [] _ [] 0 1 0 (cB a1 k1 I hI (by omega) (.inr hi1)) cBB (cB a3 k3 (I ++ J) hK hb3 (.inr hi3)) (gB a1 k1 I hI (by omega) (.inr (.inl hi1))) (gK q a2 k2 J B (by omega) hJ n2 (by omega) hc hi2 hB) (gB a3 k3 (I ++ J) hK hb3 (.inr (.inl hi3)))
        · have hns := not_symB hs
          exact q1 [] B [] [] [] [] 0 1 1 (cB a1 k1 I hI (by omega) (.inr hi1)) cBB (cB a3 k3 (I ++ J) hK hb3 (.inr hi3)) (gB a1 k1 I hI (by omega) (.inr (.inl hi1))) (gB a2 k2 J hJ (by omega) (.inr (.inr hns))) (gB a3 k3 (I ++ J) hK hb3 (.inr (.inl hi3)))
      · exact q1 [] [] [] [] [] [] 1 1 1 (cB a1 k1 I hI (by omega) (.inr hi1)) (cB a2 k2 J hJ (by omega) (.inr hi2)) (cB a3 k3 (I ++ J) hK hb3 (.inr hi3)) (gB a1 k1 I hI (by omega) (.inr (.inl hi1))) (gB a2 k2 J hJ (by omega) (.inr (.inl hi2))) (gB a3 k3 (I ++ J) hK hb3 (.inr (.inl hi3)))
  · exact q1 [] [] [] [] [] [] 1 1 1 (cB a1 k1 I hI (by omega) (.inl hc)) (cB a2 k2 J hJ (by omega) (.inl hc)) (cB a3 k3 (I ++ J) hK hb3 (.inl hc)) (gB a1 k1 I hI (by omega) (.inl hc)) (gB a2 k2 J hJ (by omega) (.inl hc)) (gB a3 k3 (I ++ J) hK hb3 (.inl hc))

theorem sums_core (a : Option Addr) (cap : Nat) (I : List It) (hI : ItsAt w a I) (s : Int) (hIb : I.length ≤ 8796093022208) (hnil : a = none → I.length = 0 ∧ cap = 0) (hcap : I.length ≤ cap) : Calls Try.prog 8 #[.agg #[.slice ta tn tc, .slice na nn nc, .slice la ln lc, .int .i64 st, .slice pa n pc], .int .i64 s, .slice a I.length cap] w fun e w' => e = .returned (.bool true) ∧ w.grownBy w' none := by
  by_cases h0 : cap = 0
  · subst h0
    have hI0 : I = [] := List.eq_nil_of_length_eq_zero (by omega)
    subst hI0
    refine sums_told ta na la pa tc nc lc pc ts ns lv n L R ra rc V st w tn nn ln hlen hG s a a a 0 0 0 [] [] (.inl rfl) (.inl rfl) (.inl rfl) (fun _ => ⟨rfl, rfl⟩) (fun _ => ⟨rfl, rfl⟩) (fun _ => ⟨rfl, rfl⟩) (by decide)
      (fun A B C xA xB xC f1 i1 l1 c1 c2 c3 g1 g2 g3 => sums_bad1Z ta na la pa tc nc lc pc n st w tn nn ln s a A B C xA xB xC f1 i1 l1 c1 c2 c3 g1 g2 g3)
      (fun A B C xA xB xC i1 l1 c1 c2 c3 g1 g2 g3 => sums_bad2Z ta na la pa tc nc lc pc n st w tn nn ln s a A B C xA xB xC i1 l1 c1 c2 c3 g1 g2 g3)
      (fun A B C xA xB xC b1 b2 b3 c1 c2 c3 g1 g2 g3 => sums_okbadZ ta na la pa tc nc lc pc n st w tn nn ln s a A B C xA xB xC b1 b2 b3 c1 c2 c3 g1 g2 g3)
      (fun A B C xA xB xC b1 b2 b3 b4 b5 b6 c1 c2 c3 g1 g2 g3 => sums_okokZ ta na la pa tc nc lc pc n st w tn nn ln s a A B C xA xB xC b1 b2 b3 b4 b5 b6 c1 c2 c3 g1 g2 g3)
  · cases a with
    | none => exact absurd (hnil rfl).2 h0
    | some x =>
      obtain ⟨k, hk⟩ : ∃ k, k = I.length / 2 := ⟨_, rfl⟩
      have e1 : (I.take k).length = k := by rw [List.length_take]; omega
      have e2 : (I.drop k).length = I.length - k := List.length_drop
      have e3 : I.take k ++ I.drop k = I := List.take_append_drop k I
      have h := fun (Q : Prop) => sums_told ta na la pa tc nc lc pc ts ns lv n L R ra rc V st w tn nn ln hlen hG s (some x) (some (x.add (k * 2))) (some x) cap (cap - k) cap (I.take k) (I.drop k) (its_takeS hI k) (its_drop hI k) (by rw [e3]; exact hI) (fun h => by cases h) (fun h => by cases h) (fun h => by cases h) (by rw [e3]; exact hIb) (Q := Q)
      simp only [e1, e2, e3] at h
      exact h _
        (fun A B C xA xB xC f1 i1 l1 c1 c2 c3 g1 g2 g3 => sums_bad1P ta na la pa tc nc lc pc n st w tn nn ln s x cap k I.length hk hcap (by omega) hIb A B C xA xB xC f1 i1 l1 c1 c2 c3 g1 g2 g3)
        (fun A B C xA xB xC i1 l1 c1 c2 c3 g1 g2 g3 => sums_bad2P ta na la pa tc nc lc pc n st w tn nn ln s x cap k I.length hk hcap (by omega) hIb A B C xA xB xC i1 l1 c1 c2 c3 g1 g2 g3)
        (fun A B C xA xB xC b1 b2 b3 c1 c2 c3 g1 g2 g3 => sums_okbadP ta na la pa tc nc lc pc n st w tn nn ln s x cap k I.length hk hcap (by omega) hIb A B C xA xB xC b1 b2 b3 c1 c2 c3 g1 g2 g3)
        (fun A B C xA xB xC b1 b2 b3 b4 b5 b6 c1 c2 c3 g1 g2 g3 => sums_okokP ta na la pa tc nc lc pc n st w tn nn ln s x cap k I.length hk hcap (by omega) hIb A B C xA xB xC b1 b2 b3 b4 b5 b6 c1 c2 c3 g1 g2 g3)
end

end Go.Proofs.Ytgpmmhkdpjlimaa.J
