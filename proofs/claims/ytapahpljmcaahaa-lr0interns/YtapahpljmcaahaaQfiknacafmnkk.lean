import Derived.Test.YtapahpljmcaahaaQeapmpnlfgojj
import Derived.Test.YtapahpljmcaahaaQkhiamfjfaknb

/-
  lr0: the document's Laid.
-/
namespace Go.Proofs.Ytapahpljmcaahaa.J
open Go.RowKit Go.Maps Go.Shelf

attribute [local go_sem] Oper.semAt_some

theorem owns_lowJ {w : World} {base base' e size n : Nat} {v : Value} {xs : List Value} (h : w.ownsRow base e size v n xs) (hb : base' ≤ base) : w.ownsRow base' e size v n xs := by
  refine ⟨h.1, ?_⟩
  rcases h.2 with h | ⟨g, cap, cur, hv, hB, hr⟩
  · exact .inl h
  · exact .inr ⟨g, cap, cur, hv, Nat.le_trans hb hB, hr⟩

/-- What Laid tells. -/
def LaidTold (l : List It) (w : World) (e : Ending) (y : World) : Prop := ∃ l', Asc l' ∧ (∀ x, x ∈ l' ↔ x ∈ l) ∧ l'.length ≤ l.length ∧ ItsTold l' w e y

set_option maxRecDepth 100000 in
set_option maxHeartbeats 4000000 in
theorem laid_any (a0 : Option Addr) (c0 : Nat) (l : List It) (w : World) (hl : ItsAt w a0 l) (hb : l.length ≤ 8796093062208) :
    Calls Try.prog 31 #[.slice a0 l.length c0] w fun e y => LaidTold l w e y := by
  obtain ⟨N, hN⟩ : ∃ n, n = l.length := ⟨_, rfl⟩
  have HN : Hid (N = l.length) := hN
  have HL : Hid (∀ X, w.grownBy X none → ItsAt X a0 l) := fun X hX => hl.kept hX
  rw [← hN] at hb
  rw [← hN]
  have hgu := guard_item
  obtain ⟨i0, hi0, hz0, hz1, hz2⟩ := info_parts infoItem
  clear hN hl
  go_enter Try.func31, Try.ntmps31
  go_wp2_with fail
  go_loopg [3, 4] N (fun gk v3 v4 wr => ∃ (i q : Nat) (a : Option Addr) (c : Nat) (O : List It), i ≤ N ∧ gk = N - i ∧ v3 = .slice a q c ∧ v4 = .int .i64 i ∧ q = O.length ∧ q ≤ i ∧ (Asc O ∧ ∀ x, x ∈ O ↔ ∃ j, j < i ∧ l.getD j (0, 0) = x) ∧ wr.ownsRow w.heap.size 49 2 (.slice a q c) q (itsV O) ∧ w.grownBy wr none)
  case atStart => exact ⟨0, 0, none, 0, [], Nat.zero_le _, rfl, rfl, rfl, rfl, Nat.le_refl _, ⟨List.Pairwise.nil, fun x => by simp⟩, World.ownsRow_nil _ _ _ _, grown_refl _ _⟩
  case round =>
    obtain ⟨i, q, a, c, O, hi, hgi, rfl, rfl, hq, hqi, hO, hOW, hg⟩ := hrel
    have HGI : Hid (gk = N - i) := hgi
    have HQ : Hid (q = O.length) := hq
    have HO : Hid (Asc O ∧ ∀ x, x ∈ O ↔ ∃ j, j < i ∧ l.getD j (0, 0) = x) := hO
    have HOW0 : Hid (wr.ownsRow w.heap.size 49 2 (.slice a q c) q (itsV O)) := hOW
    have HG0 : Hid (w.grownBy wr none) := hg
    clear hgi hq hO hOW hg
    by_cases hlt : i < N
    · have hi0' : (0 : Int) ≤ (i : Int) := by omega
      have hi1' : (i : Int) < (N : Int) := by omega
      have hid : decide (i < N) = true := decide_eq_true hlt
      obtain ⟨lb, lo, rfl, HLC0⟩ : ∃ lb lo, a0 = some ⟨lb, lo, none⟩ ∧ Hid (∀ X, w.grownBy X none → X.cell? ⟨lb, lo + i * 2, none⟩ = some (.int .i64 (l.getD i (0, 0)).1) ∧ X.cell? ⟨lb, lo + i * 2 + 1, none⟩ = some (.int .i64 (l.getD i (0, 0)).2)) := by
        obtain ⟨lb, lo, e, _⟩ := (HL.out w (grown_refl _ _)).at (i := i) (by rw [← HN.out]; exact hlt)
        refine ⟨lb, lo, e, fun X hX => ?_⟩
        obtain ⟨lb', lo', e', q1, q2⟩ := (HL.out X hX).at (i := i) (by rw [← HN.out]; exact hlt)
        rw [e] at e'
        cases e'
        exact ⟨q1, q2⟩
      obtain ⟨x, hx⟩ : ∃ x, x = l.getD i (0, 0) := ⟨_, rfl⟩
      have HX : Hid (x = l.getD i (0, 0)) := hx
      rw [← hx] at HLC0
      clear hx
      obtain ⟨xp, xd⟩ := x
      simp only at HLC0
      generalize wr = W1 at *
      go_wp2_with fail
      go_loopg [5] q (fun gk v5 wr => ∃ k : Nat, k ≤ q ∧ gk = q - k ∧ v5 = .int .i64 k ∧ (∀ j, j < k → ltI (O.getD j (0, 0)) (xp, xd)) ∧ W1.grownBy wr none)
      case atStart => exact ⟨0, Nat.zero_le _, rfl, rfl, fun j hj => absurd hj (Nat.not_lt_zero _), grown_refl _ _⟩
      case round =>
        obtain ⟨k, hkq0, hgk, rfl, hlts, hgw⟩ := hrel
        have HGK : Hid (gk = q - k) := hgk
        have HLT : Hid (∀ j, j < k → ltI (O.getD j (0, 0)) (xp, xd)) := hlts
        have HGW : Hid (W1.grownBy wr none) := hgw
        have HG : Hid (w.grownBy wr none) := grown_trans HG0.out hgw
        have HOW : Hid (wr.ownsRow w.heap.size 49 2 (.slice a q c) q (itsV O)) := keep0 HOW0.out hgw
        have HIO : Hid (ItsAt wr a O) := ItsAt.of (c := c) (B := w.heap.size) (by rw [← HQ.out]; exact keep0 HOW0.out hgw)
        clear hgk hlts hgw
        obtain ⟨l0, l1⟩ := HLC0.out wr HG.out
        by_cases hkl : k < q
        · have hk0 : (0 : Int) ≤ (k : Int) := by omega
          have hk1 : (k : Int) < (q : Int) := by omega
          have hkd : decide (k < q) = true := decide_eq_true hkl
          obtain ⟨ob, rfl⟩ : ∃ ob, a = some ⟨ob, 0, none⟩ := by
            rcases HOW.out.2 with ⟨h, h0⟩ | ⟨g, cap, cur, hv, _⟩
            · omega
            · simp only [Value.slice.injEq] at hv; exact ⟨g, hv.1⟩
          obtain ⟨ob', oo, hob, o0, o1⟩ := HIO.out.at (i := k) (by rw [← HQ.out]; exact hkl)
          simp only [Option.some.injEq, Addr.mk.injEq, and_true] at hob
          obtain ⟨rfl, rfl⟩ := hob
          rw [Nat.zero_add] at o0 o1
          obtain ⟨y, hy⟩ : ∃ y, y = O.getD k (0, 0) := ⟨_, rfl⟩
          have HY : Hid (y = O.getD k (0, 0)) := hy
          rw [← hy] at o0 o1
          clear hy
          obtain ⟨yp, yd⟩ := y
          simp only at o0 o1
          by_cases hlt1 : yp < xp
          · have e1 : decide (yp < xp) = true := decide_eq_true hlt1
            have HNL : Hid (∀ j, j < k + 1 → ltI (O.getD j (0, 0)) (xp, xd)) := fun j hj => by
              by_cases e : j = k
              · rw [e, ← HY.out]; exact .inl hlt1
              · exact HLT.out j (by omega)
            clear hlt1
            go_wp2_with fail
            go_quiet (fail)
            go_wp2_with fail
            go_roundg (q - (k + 1))
            case measure => have := HGK.out; omega
            case rel => exact ⟨k + 1, by omega, rfl, by go_num, HNL.out, grown_trans HGW.out (grown_drewN _ _)⟩
          · have e1 : decide (yp < xp) = false := decide_eq_false hlt1
            by_cases hlt2 : yp = xp ∧ yd < xd
            · have e2 : (yp == xp) = true := beq_iff_eq.2 hlt2.1
              have e3 : decide (yd < xd) = true := decide_eq_true hlt2.2
              have HNL : Hid (∀ j, j < k + 1 → ltI (O.getD j (0, 0)) (xp, xd)) := fun j hj => by
                by_cases e : j = k
                · rw [e, ← HY.out]; exact .inr hlt2
                · exact HLT.out j (by omega)
              clear hlt1 hlt2
              go_wp2_with fail
              go_quiet (fail)
              go_wp2_with fail
              go_roundg (q - (k + 1))
              case measure => have := HGK.out; omega
              case rel => exact ⟨k + 1, by omega, rfl, by go_num, HNL.out, grown_trans HGW.out (grown_drewN _ _)⟩
            · have HSP : Hid (Spot (xp, xd) O k) := ⟨by rw [← HQ.out]; omega, HLT.out, fun _ h => by
                rw [← HY.out] at h
                rcases h with h | h
                · exact hlt1 h
                · exact hlt2 h⟩
              obtain ⟨bb, hbb⟩ : ∃ b, b = (yp == xp && yd == xd) := ⟨_, rfl⟩
              have HBB : Hid (bb = true ↔ O.getD k (0, 0) = (xp, xd)) := by
                rw [← HY.out, hbb, Bool.and_eq_true, beq_iff_eq, beq_iff_eq]
                exact ⟨fun h => Prod.ext h.1 h.2, fun h => ⟨congrArg Prod.fst h, congrArg Prod.snd h⟩⟩
              have hE : ∀ X : World, (binOp .eql 49 (.agg #[.int .i64 yp, .int .i64 yd]) (.agg #[.int .i64 xp, .int .i64 xd])).run Try.prog X = .ok (.bool bb) X := fun X => by rw [hbb]; exact eq_item yp yd xp xd X
              clear hbb
              by_cases heq : yp = xp
              case' pos =>
                have e2 : (yp == xp) = true := beq_iff_eq.2 heq
                have e3 : decide (yd < xd) = false := decide_eq_false fun h => hlt2 ⟨heq, h⟩
              case' neg =>
                have e2 : (yp == xp) = false := beq_eq_false_iff_ne.2 heq
              all_goals
                clear heq hlt1 hlt2
                cases bb with
                | true =>
                  have HEM : Hid (∀ y, y ∈ O ↔ ∃ j, j < i + 1 ∧ l.getD j (0, 0) = y) := fun y => by
                    rw [HO.out.2]
                    constructor
                    · rintro ⟨j, h1, h2⟩; exact ⟨j, by omega, h2⟩
                    · rintro ⟨j, h1, h2⟩
                      by_cases e : j = i
                      · have h3 : (xp, xd) ∈ O := spot_in (by rw [← HQ.out]; exact hkl) (HBB.out.1 rfl)
                        have h4 := (HO.out.2 _).1 h3
                        rw [← h2, e, ← HX.out]; exact h4
                      · exact ⟨j, by omega, h2⟩
                  clear HBB
                  have HALL : Hid (∀ X, wr.grownBy X none → w.grownBy X none ∧ X.ownsRow w.heap.size 49 2 (.slice (some ⟨ob, 0, none⟩) q c) q (itsV O) ∧ ItsAt X (some ⟨ob, 0, none⟩) O) := fun X hX => ⟨grown_trans HG.out hX, keep0 HOW.out hX, HIO.out.kept hX⟩
                  go_wp2_with fail
                  go_quiet (fail)
                  have HZ1 : Hid (wr.grownBy (wr.drewN nq) none) := grown_drewN _ _
                  generalize wr.drewN nq = Z1 at *
                  have hgz := HZ1.out
                  have o0' := hgz.cell o0 (by simp)
                  have o1' := hgz.cell o1 (by simp)
                  have l0' := hgz.cell l0 (by simp)
                  have l1' := hgz.cell l1 (by simp)
                  clear hgz o0 o1 l0 l1
                  go_wp2_with fail
                  go_quiet (fail)
                  go_wp2_with fail
                  go_roundg (N - (i + 1))
                  case measure => have := HGI.out; omega
                  case rel => exact ⟨i + 1, q, _, c, O, by omega, rfl, rfl, by go_num, HQ.out, by omega, ⟨HO.out.1, HEM.out⟩, (HALL.out _ (grown_trans HZ1.out (grown_drewN _ _))).2.1, (HALL.out _ (grown_trans HZ1.out (grown_drewN _ _))).1⟩
                | false =>
                  have HNE : Hid (¬ (k < O.length ∧ O.getD k (0, 0) = (xp, xd))) := fun h => absurd (HBB.out.2 h.2) (by decide)
                  clear HBB
                  have HALL : Hid (∀ X, wr.grownBy X none → w.grownBy X none ∧ X.ownsRow w.heap.size 49 2 (.slice (some ⟨ob, 0, none⟩) q c) q (itsV O) ∧ ItsAt X (some ⟨ob, 0, none⟩) O) := fun X hX => ⟨grown_trans HG.out hX, keep0 HOW.out hX, HIO.out.kept hX⟩
                  go_wp2_with fail
                  go_quiet (fail)
                  have HZ1 : Hid (wr.grownBy (wr.drewN nq) none) := grown_drewN _ _
                  generalize wr.drewN nq = Z1 at *
                  have hgz := HZ1.out
                  have o0' := hgz.cell o0 (by simp)
                  have o1' := hgz.cell o1 (by simp)
                  have l0' := hgz.cell l0 (by simp)
                  have l1' := hgz.cell l1 (by simp)
                  clear hgz o0 o1 l0 l1
                  go_wp2_with fail
                  go_quiet (fail)
                  have HZ2 : Hid (Z1.grownBy (Z1.drewN nq) none) := grown_drewN _ _
                  generalize Z1.drewN nq = W6 at *
                  have HZW : Hid (wr.grownBy W6 none) := grown_trans HZ1.out HZ2.out
                  have HLC : Hid (∀ X, W6.grownBy X none → X.cell? ⟨lb, lo + i * 2, none⟩ = some (.int .i64 xp) ∧ X.cell? ⟨lb, lo + i * 2 + 1, none⟩ = some (.int .i64 xd)) := fun X hX => HLC0.out X (grown_trans HG.out (grown_trans HZW.out hX))
                  have HG6 : Hid (w.grownBy W6 none) := (HALL.out _ HZW.out).1
                  have HOW6 : Hid (W6.ownsRow w.heap.size 49 2 (.slice (some ⟨ob, 0, none⟩) q c) q (itsV O)) := (HALL.out _ HZW.out).2.1
                  have HIO6 : Hid (ItsAt W6 (some ⟨ob, 0, none⟩) O) := (HALL.out _ HZW.out).2.2
                  clear HG HOW HIO
                  have HNX : Hid (Asc (O.take k ++ [(xp, xd)] ++ O.drop k) ∧ (∀ y, y ∈ O.take k ++ [(xp, xd)] ++ O.drop k ↔ ∃ j, j < i + 1 ∧ l.getD j (0, 0) = y) ∧ (O.take k ++ [(xp, xd)] ++ O.drop k).length = q + 1) := by
                    obtain ⟨n1, n2⟩ := spot_new HSP.out HO.out.1 HNE.out
                    refine ⟨n1, fun y => ?_, ?_⟩
                    · rw [n2, HO.out.2]
                      constructor
                      · rintro (e | ⟨j, h1, h2⟩)
                        · exact ⟨i, by omega, by rw [e]; exact HX.out.symm⟩
                        · exact ⟨j, by omega, h2⟩
                      · rintro ⟨j, h1, h2⟩
                        by_cases e : j = i
                        · left; rw [← h2, e]; exact HX.out.symm
                        · right; exact ⟨j, by omega, h2⟩
                    · rw [List.length_append, List.length_append, List.length_take, List.length_drop, HQ.out]
                      have := HSP.out.le
                      simp only [List.length_cons, List.length_nil]
                      omega
                  have HKQ : Hid (k ≤ q) := by rw [HQ.out]; exact HSP.out.le
                  have HNIL : Hid ((some (⟨ob, 0, none⟩ : Addr)) = none → k = 0 ∧ c = 0) := fun h => by have h1 := (owns_bounds HOW6.out).2 h; have h2 := HKQ.out; omega
                  have HTL : Hid ((itsV (O.take k)).length = k * 2) := by show _ = _; rw [itsV_length, List.length_take]; have := HKQ.out; have := HQ.out; omega
                  have HSR1 : Hid (∀ ad, (some (⟨ob, 0, none⟩ : Addr)) = some ad → ∀ j u, (itsV (O.take k))[j]? = some u → W6.cell? (ad.add j) = some u) := fun ad e j u hu => its_cells HIO6.out ad e j u (by
                    have h1 : j < k * 2 := by have := (List.getElem?_eq_some_iff.1 hu).1; rwa [HTL.out] at this
                    have h2 : itsV O = itsV (O.take k) ++ itsV (O.drop k) := by rw [← itsV_append, List.take_append_drop]
                    rw [h2, List.getElem?_append_left (by rw [HTL.out]; exact h1)]
                    exact hu)
                  have HW6 : Hid (w.heap.size ≤ W6.heap.size) := HG6.out.size
                  have hkq := HKQ.out
                  have hqc : q ≤ c := (owns_bounds HOW6.out).1
                  have hkq2 : (k : Int) ≤ (q : Int) := by omega
                  have hkc2 : (k : Int) ≤ (c : Int) := by omega
                  have hkc0 : (0 : Int) ≤ (k : Int) := by omega
                  have HTD : Hid ((itsV (O.take k) ++ [.int .i64 xp, .int .i64 xd]) ++ itsV (O.drop k) = itsV (O.take k ++ [(xp, xd)] ++ O.drop k)) := by show _ = _; rw [itsV_append, itsV_append]; rfl
                  have HLN : Hid (k + 1 + (q - k) = q + 1) := by show _ = _; omega
                  have HDL : Hid ((itsV (O.drop k)).length = (q - k) * 2) := by show _ = _; rw [itsV_length, List.length_drop, HQ.out]
                  have HDR : Hid (∀ X, W6.grownBy X none → ∀ j u, (itsV (O.drop k))[j]? = some u → X.cell? ((⟨ob, k * 2, none⟩ : Addr).add j) = some u) := fun X hX j u hu => by
                    have h1 := its_cells (HIO6.out.kept hX) ⟨ob, 0, none⟩ rfl (k * 2 + j) u (by
                      have h2 : itsV O = itsV (O.take k) ++ itsV (O.drop k) := by rw [← itsV_append, List.take_append_drop]
                      rw [h2, List.getElem?_append_right (by rw [HTL.out]; omega), HTL.out, Nat.add_sub_cancel_left]
                      exact hu)
                    rw [Addr.add_mid] at h1 ⊢
                    rw [Nat.zero_add] at h1
                    exact h1
                  have hkc : k < c := by omega
                  have hkc3 : decide (k < c) = true := decide_eq_true hkc
                  have hkc4 : ¬ c = k := by omega
                  go_wp2_with (at_builtin; first | (refine wpList_append_srcW rfl (.tmp 73) (.tmp 76) 40 rfl W6.heap.size 49 i0 (.agg #[.int .i64 0, .int .i64 0]) 2 16 Try.underlying40 hi0 hz0 hz1 hz2 rfl (by decide) (.slice none 0 0) 0 [] rfl (World.ownsRow_nil _ _ _ _) (some ⟨ob, 0, none⟩) k c (itsV (O.take k)) rfl HNIL.out HTL.out HSR1.out (itsV_one _) (by unfold maxLen; omega) (by omega) (Nat.le_refl _) ?_; intro v6 wA hoA hgA; rw [Nat.zero_add, List.nil_append] at hoA; obtain ⟨a6, c6, rfl⟩ := owns_slice hoA; have HOB0 : Hid ((wA.alloc (.cells #[.int .i64 xp, .int .i64 xd] 49)).ownsRow W6.heap.size 49 2 (.slice a6 k c6) k (itsV (O.take k))) := hoA.alloc _; have HNW : Hid (∀ j z, [Value.int .i64 xp, Value.int .i64 xd][j]? = some z → (wA.alloc (.cells #[.int .i64 xp, .int .i64 xd] 49)).cell? ((⟨wA.heap.size, 0, none⟩ : Addr).add j) = some z) := news_new wA _ _; have HG6A : Hid (W6.grownBy (wA.alloc (.cells #[.int .i64 xp, .int .i64 xd] 49)) none) := grown_trans hgA (World.grownBy_alloc _ _ none); have l0 := (HLC.out wA hgA).1; have l1 := (HLC.out wA hgA).2; clear hoA hgA) | (refine wpList_append_srcW rfl (.tmp 78) (.tmp 83) 40 rfl W6.heap.size 49 i0 (.agg #[.int .i64 0, .int .i64 0]) 2 16 Try.underlying40 hi0 hz0 hz1 hz2 rfl (by decide) (.slice a6 k c6) k (itsV (O.take k)) rfl HOB0.out (some ⟨wA.heap.size, 0, none⟩) 1 1 [.int .i64 xp, .int .i64 xd] rfl (fun h => by cases h) rfl (fun ad e => by cases e; exact HNW.out) (by simp [Value.oneCell']) (by unfold maxLen; omega) (by omega) HG6A.out.size ?_; intro v7 wB hoB hgB; have HOB : Hid (wB.ownsRow W6.heap.size 49 2 v7 (k + 1) (itsV (O.take k) ++ [.int .i64 xp, .int .i64 xd])) := hoB; have HGB : Hid (W6.grownBy wB none) := grown_row HG6A.out HOB0.out (Nat.le_refl _) hgB; obtain ⟨a7, c7, rfl⟩ := owns_slice hoB; clear hoB hgB) | (refine wpList_append_srcW rfl (.tmp 85) (.tmp 88) 40 rfl W6.heap.size 49 i0 (.agg #[.int .i64 0, .int .i64 0]) 2 16 Try.underlying40 hi0 hz0 hz1 hz2 rfl (by decide) (.slice a7 (k + 1) c7) (k + 1) (itsV (O.take k) ++ [.int .i64 xp, .int .i64 xd]) rfl HOB.out (some ⟨ob, k * 2, none⟩) (q - k) (c - k) (itsV (O.drop k)) rfl (fun h => by cases h) HDL.out (fun ad e => by cases e; exact HDR.out _ HGB.out) (itsV_one _) (by unfold maxLen; omega) (by omega) HGB.out.size ?_; intro v8 wC hoC hgC; rw [HLN.out, HTD.out] at hoC; have HOC := show Hid _ from owns_lowJ hoC HW6.out; have HGC : Hid (W6.grownBy wC none) := grown_row HGB.out HOB.out (Nat.le_refl _) hgC; obtain ⟨a9, c9, rfl⟩ := owns_slice hoC; clear hoC hgC) | fail)
                  go_roundg (N - (i + 1))
                  case measure => have := HGI.out; omega
                  case rel => exact ⟨i + 1, q + 1, a9, c9, O.take k ++ [(xp, xd)] ++ O.drop k, by omega, rfl, rfl, by go_num, HNX.out.2.2.symm, by omega, ⟨HNX.out.1, HNX.out.2.1⟩, HOC.out, grown_trans HG6.out HGC.out⟩
        · have hkn : q = k := by omega
          subst hkn
          have hkd : decide (q < q) = false := decide_eq_false (by omega)
          have HSP : Hid (Spot (xp, xd) O q) := ⟨by rw [← HQ.out]; exact Nat.le_refl _, HLT.out, fun h => absurd h (by rw [← HQ.out]; omega)⟩
          have HNE : Hid (¬ (q < O.length ∧ O.getD q (0, 0) = (xp, xd))) := fun h => by have := h.1; rw [← HQ.out] at this; omega
          have HALL : Hid (∀ X, wr.grownBy X none → w.grownBy X none ∧ X.ownsRow w.heap.size 49 2 (.slice a q c) q (itsV O) ∧ ItsAt X a O) := fun X hX => ⟨grown_trans HG.out hX, keep0 HOW.out hX, HIO.out.kept hX⟩
          go_wp2_with fail
          go_quiet (fail)
          have HZ1 : Hid (wr.grownBy (wr.drewN nq) none) := grown_drewN _ _
          generalize wr.drewN nq = Z1 at *
          go_wp2_with fail
          go_quiet (fail)
          have HZ2 : Hid (Z1.grownBy (Z1.drewN nq) none) := grown_drewN _ _
          generalize Z1.drewN nq = W6 at *
          have HZW : Hid (wr.grownBy W6 none) := grown_trans HZ1.out HZ2.out
          have HLC : Hid (∀ X, W6.grownBy X none → X.cell? ⟨lb, lo + i * 2, none⟩ = some (.int .i64 xp) ∧ X.cell? ⟨lb, lo + i * 2 + 1, none⟩ = some (.int .i64 xd)) := fun X hX => HLC0.out X (grown_trans HG.out (grown_trans HZW.out hX))
          have HG6 : Hid (w.grownBy W6 none) := (HALL.out _ HZW.out).1
          have HOW6 : Hid (W6.ownsRow w.heap.size 49 2 (.slice a q c) q (itsV O)) := (HALL.out _ HZW.out).2.1
          have HIO6 : Hid (ItsAt W6 a O) := (HALL.out _ HZW.out).2.2
          clear HG HOW HIO
          have HNX : Hid (Asc (O.take q ++ [(xp, xd)] ++ O.drop q) ∧ (∀ y, y ∈ O.take q ++ [(xp, xd)] ++ O.drop q ↔ ∃ j, j < i + 1 ∧ l.getD j (0, 0) = y) ∧ (O.take q ++ [(xp, xd)] ++ O.drop q).length = q + 1) := by
            obtain ⟨n1, n2⟩ := spot_new HSP.out HO.out.1 HNE.out
            refine ⟨n1, fun y => ?_, ?_⟩
            · rw [n2, HO.out.2]
              constructor
              · rintro (e | ⟨j, h1, h2⟩)
                · exact ⟨i, by omega, by rw [e]; exact HX.out.symm⟩
                · exact ⟨j, by omega, h2⟩
              · rintro ⟨j, h1, h2⟩
                by_cases e : j = i
                · left; rw [← h2, e]; exact HX.out.symm
                · right; exact ⟨j, by omega, h2⟩
            · rw [List.length_append, List.length_append, List.length_take, List.length_drop, HQ.out]
              have := HSP.out.le
              simp only [List.length_cons, List.length_nil]
              omega
          have HKQ : Hid (q ≤ q) := Nat.le_refl _
          have HNIL : Hid (a = none → q = 0 ∧ c = 0) := fun h => by have h1 := (owns_bounds HOW6.out).2 h; have h2 := HKQ.out; omega
          have HTL : Hid ((itsV (O.take q)).length = q * 2) := by show _ = _; rw [itsV_length, List.length_take]; have := HKQ.out; have := HQ.out; omega
          have HSR1 : Hid (∀ ad, a = some ad → ∀ j u, (itsV (O.take q))[j]? = some u → W6.cell? (ad.add j) = some u) := fun ad e j u hu => its_cells HIO6.out ad e j u (by
            have h1 : j < q * 2 := by have := (List.getElem?_eq_some_iff.1 hu).1; rwa [HTL.out] at this
            have h2 : itsV O = itsV (O.take q) ++ itsV (O.drop q) := by rw [← itsV_append, List.take_append_drop]
            rw [h2, List.getElem?_append_left (by rw [HTL.out]; exact h1)]
            exact hu)
          have HW6 : Hid (w.heap.size ≤ W6.heap.size) := HG6.out.size
          have hkq := HKQ.out
          have hqc : q ≤ c := (owns_bounds HOW6.out).1
          have hkq2 : (q : Int) ≤ (q : Int) := by omega
          have hkc2 : (q : Int) ≤ (c : Int) := by omega
          have hkc0 : (0 : Int) ≤ (q : Int) := by omega
          have HTD : Hid (itsV (O.take q) ++ [.int .i64 xp, .int .i64 xd] = itsV (O.take q ++ [(xp, xd)] ++ O.drop q)) := by
            show _ = _
            rw [List.drop_eq_nil_of_le (by rw [← HQ.out]; exact Nat.le_refl _), List.append_nil, itsV_append]; rfl
          by_cases hcq : q = c
          · subst hcq
            go_wp2_with (at_builtin; first | (refine wpList_append_srcW rfl (.tmp 73) (.tmp 76) 40 rfl W6.heap.size 49 i0 (.agg #[.int .i64 0, .int .i64 0]) 2 16 Try.underlying40 hi0 hz0 hz1 hz2 rfl (by decide) (.slice none 0 0) 0 [] rfl (World.ownsRow_nil _ _ _ _) a q q (itsV (O.take q)) rfl HNIL.out HTL.out HSR1.out (itsV_one _) (by unfold maxLen; omega) (by omega) (Nat.le_refl _) ?_; intro v6 wA hoA hgA; rw [Nat.zero_add, List.nil_append] at hoA; obtain ⟨a6, c6, rfl⟩ := owns_slice hoA; have HOB0 : Hid ((wA.alloc (.cells #[.int .i64 xp, .int .i64 xd] 49)).ownsRow W6.heap.size 49 2 (.slice a6 q c6) q (itsV (O.take q))) := hoA.alloc _; have HNW : Hid (∀ j z, [Value.int .i64 xp, Value.int .i64 xd][j]? = some z → (wA.alloc (.cells #[.int .i64 xp, .int .i64 xd] 49)).cell? ((⟨wA.heap.size, 0, none⟩ : Addr).add j) = some z) := news_new wA _ _; have HG6A : Hid (W6.grownBy (wA.alloc (.cells #[.int .i64 xp, .int .i64 xd] 49)) none) := grown_trans hgA (World.grownBy_alloc _ _ none); have l0 := (HLC.out wA hgA).1; have l1 := (HLC.out wA hgA).2; clear hoA hgA) | (refine wpList_append_srcW rfl (.tmp 78) (.tmp 83) 40 rfl W6.heap.size 49 i0 (.agg #[.int .i64 0, .int .i64 0]) 2 16 Try.underlying40 hi0 hz0 hz1 hz2 rfl (by decide) (.slice a6 q c6) q (itsV (O.take q)) rfl HOB0.out (some ⟨wA.heap.size, 0, none⟩) 1 1 [.int .i64 xp, .int .i64 xd] rfl (fun h => by cases h) rfl (fun ad e => by cases e; exact HNW.out) (by simp [Value.oneCell']) (by unfold maxLen; omega) (by omega) HG6A.out.size ?_; intro v7 wB hoB hgB; have HOB : Hid (wB.ownsRow W6.heap.size 49 2 v7 (q + 1) (itsV (O.take q) ++ [.int .i64 xp, .int .i64 xd])) := hoB; have HGB : Hid (W6.grownBy wB none) := grown_row HG6A.out HOB0.out (Nat.le_refl _) hgB; obtain ⟨a7, c7, rfl⟩ := owns_slice hoB; clear hoB hgB) | (refine wpList_append_srcW rfl (.tmp 85) (.tmp 88) 40 rfl W6.heap.size 49 i0 (.agg #[.int .i64 0, .int .i64 0]) 2 16 Try.underlying40 hi0 hz0 hz1 hz2 rfl (by decide) (.slice a7 (q + 1) c7) (q + 1) (itsV (O.take q) ++ [.int .i64 xp, .int .i64 xd]) rfl HOB.out a 0 0 [] rfl (fun _ => ⟨rfl, rfl⟩) rfl (fun ad e j u hu => by simp at hu) (fun u hu => by cases hu) (by unfold maxLen; omega) (by omega) HGB.out.size ?_; intro v8 wC hoC hgC; rw [Nat.add_zero, List.append_nil, HTD.out] at hoC; have HOC := show Hid _ from owns_lowJ hoC HW6.out; have HGC : Hid (W6.grownBy wC none) := grown_row HGB.out HOB.out (Nat.le_refl _) hgC; obtain ⟨a9, c9, rfl⟩ := owns_slice hoC; clear hoC hgC) | fail)
            go_roundg (N - (i + 1))
            case measure => have := HGI.out; omega
            case rel => exact ⟨i + 1, q + 1, a9, c9, O.take q ++ [(xp, xd)] ++ O.drop q, by omega, rfl, rfl, by go_num, HNX.out.2.2.symm, by omega, ⟨HNX.out.1, HNX.out.2.1⟩, HOC.out, grown_trans HG6.out HGC.out⟩
          · obtain ⟨gg, rfl⟩ : ∃ gg, a = some ⟨gg, 0, none⟩ := by
              rcases HOW6.out.2 with ⟨h, h0⟩ | ⟨g, cap, cur, hv, _⟩
              · simp only [Value.slice.injEq] at h; exact absurd (by rw [h.2.2]; exact h0) hcq
              · simp only [Value.slice.injEq] at hv; exact ⟨g, hv.1⟩
            have hqc2 : q < c := by omega
            have hqc3 : decide (q < c) = true := decide_eq_true hqc2
            go_wp2_with (at_builtin; first | (refine wpList_append_srcW rfl (.tmp 73) (.tmp 76) 40 rfl W6.heap.size 49 i0 (.agg #[.int .i64 0, .int .i64 0]) 2 16 Try.underlying40 hi0 hz0 hz1 hz2 rfl (by decide) (.slice none 0 0) 0 [] rfl (World.ownsRow_nil _ _ _ _) (some ⟨gg, 0, none⟩) q c (itsV (O.take q)) rfl HNIL.out HTL.out HSR1.out (itsV_one _) (by unfold maxLen; omega) (by omega) (Nat.le_refl _) ?_; intro v6 wA hoA hgA; rw [Nat.zero_add, List.nil_append] at hoA; obtain ⟨a6, c6, rfl⟩ := owns_slice hoA; have HOB0 : Hid ((wA.alloc (.cells #[.int .i64 xp, .int .i64 xd] 49)).ownsRow W6.heap.size 49 2 (.slice a6 q c6) q (itsV (O.take q))) := hoA.alloc _; have HNW : Hid (∀ j z, [Value.int .i64 xp, Value.int .i64 xd][j]? = some z → (wA.alloc (.cells #[.int .i64 xp, .int .i64 xd] 49)).cell? ((⟨wA.heap.size, 0, none⟩ : Addr).add j) = some z) := news_new wA _ _; have HG6A : Hid (W6.grownBy (wA.alloc (.cells #[.int .i64 xp, .int .i64 xd] 49)) none) := grown_trans hgA (World.grownBy_alloc _ _ none); have l0 := (HLC.out wA hgA).1; have l1 := (HLC.out wA hgA).2; clear hoA hgA) | (refine wpList_append_srcW rfl (.tmp 78) (.tmp 83) 40 rfl W6.heap.size 49 i0 (.agg #[.int .i64 0, .int .i64 0]) 2 16 Try.underlying40 hi0 hz0 hz1 hz2 rfl (by decide) (.slice a6 q c6) q (itsV (O.take q)) rfl HOB0.out (some ⟨wA.heap.size, 0, none⟩) 1 1 [.int .i64 xp, .int .i64 xd] rfl (fun h => by cases h) rfl (fun ad e => by cases e; exact HNW.out) (by simp [Value.oneCell']) (by unfold maxLen; omega) (by omega) HG6A.out.size ?_; intro v7 wB hoB hgB; have HOB : Hid (wB.ownsRow W6.heap.size 49 2 v7 (q + 1) (itsV (O.take q) ++ [.int .i64 xp, .int .i64 xd])) := hoB; have HGB : Hid (W6.grownBy wB none) := grown_row HG6A.out HOB0.out (Nat.le_refl _) hgB; obtain ⟨a7, c7, rfl⟩ := owns_slice hoB; clear hoB hgB) | (refine wpList_append_srcW rfl (.tmp 85) (.tmp 88) 40 rfl W6.heap.size 49 i0 (.agg #[.int .i64 0, .int .i64 0]) 2 16 Try.underlying40 hi0 hz0 hz1 hz2 rfl (by decide) (.slice a7 (q + 1) c7) (q + 1) (itsV (O.take q) ++ [.int .i64 xp, .int .i64 xd]) rfl HOB.out _ _ _ [] rfl (fun h => by cases h) (by simp) (fun ad e j u hu => by simp at hu) (fun u hu => by cases hu) (by unfold maxLen; omega) (by omega) HGB.out.size ?_; intro v8 wC hoC hgC; rw [Nat.add_zero, List.append_nil, HTD.out] at hoC; have HOC := show Hid _ from owns_lowJ hoC HW6.out; have HGC : Hid (W6.grownBy wC none) := grown_row HGB.out HOB.out (Nat.le_refl _) hgC; obtain ⟨a9, c9, rfl⟩ := owns_slice hoC; clear hoC hgC) | fail)
            go_roundg (N - (i + 1))
            case measure => have := HGI.out; omega
            case rel => exact ⟨i + 1, q + 1, a9, c9, O.take q ++ [(xp, xd)] ++ O.drop q, by omega, rfl, rfl, by go_num, HNX.out.2.2.symm, by omega, ⟨HNX.out.1, HNX.out.2.1⟩, HOC.out, grown_trans HG6.out HGC.out⟩
    · have hin : N = i := by omega
      subst hin
      have hid : decide (N < N) = false := decide_eq_false (by omega)
      go_wp2_with fail
      go_ret
      refine ⟨O, HO.out.1, fun x => ?_, by rw [← HQ.out, ← HN.out]; exact hqi, a, c, by rw [← HQ.out]; rfl, by rw [← HQ.out]; exact HOW0.out, HG0.out⟩
      rw [HO.out.2]
      constructor
      · rintro ⟨j, h1, rfl⟩
        rw [List.getD_eq_getElem?_getD, List.getElem?_eq_getElem (by rw [← HN.out]; exact h1)]; exact List.getElem_mem _
      · intro hx
        obtain ⟨j, hj, e⟩ := List.getElem_of_mem hx
        exact ⟨j, by rw [HN.out]; exact hj, by rw [List.getD_eq_getElem?_getD, List.getElem?_eq_getElem hj, e]; rfl⟩

end Go.Proofs.Ytapahpljmcaahaa.J

/-
  lr0: the document's isItem, After, has; its closures, pure.
-/
namespace Go.Proofs.Ytapahpljmcaahaa.J
open Go.RowKit Go.Maps Go.Shelf

attribute [local go_sem] Oper.semAt_some

section
variable (ta na la pa : Option Addr) (tc nc lc pc : Nat) (ts : List (ByteArray × Int)) (ns : List ByteArray) (lv : List Int) (n : Nat) (L : Nat → Int) (R : Nat → List Int) (ra : Nat → Option Addr) (rc : Nat → Nat) (V : Nat → Int) (st : Int) (w : World) (tn nn ln : Nat)

set_option maxRecDepth 100000 in
set_option maxHeartbeats 1000000 in
theorem rafter_any (hP : ProdsAt w pa n L R ra rc V) (x : It) (hx : itB n R x = true) : Calls Try.prog 32 #[.agg #[.slice ta tn tc, .slice na nn nc, .slice la ln lc, .int .i64 st, .slice pa n pc], .agg #[.int .i64 x.1, .int .i64 x.2]] w fun e y => e = .returned (.int .i64 (aheadV R x)) ∧ w.grownBy y none := by
  obtain ⟨p, d⟩ := x
  simp only
  have HG0 : Hid (w.grownBy ((w.alloc (.cells #[.slice ta tn tc, .slice na nn nc, .slice la ln lc, .int .i64 st, .slice pa n pc] 27)).alloc (.cells #[.int .i64 p, .int .i64 d] 49)) none) := grown_trans (World.grownBy_alloc _ _ none) (World.grownBy_alloc _ _ none)
  unfold itB at hx
  simp only [Bool.and_eq_true, decide_eq_true_eq] at hx
  obtain ⟨⟨⟨h0, h1⟩, h2⟩, h3⟩ := hx
  obtain ⟨k, rfl⟩ : ∃ k : Nat, p = (k : Int) := ⟨p.toNat, by omega⟩
  obtain ⟨j, rfl⟩ : ∃ j : Nat, d = (j : Int) := ⟨d.toNat, by omega⟩
  rw [Int.toNat_natCast] at h3
  have hkn : k < n := by omega
  obtain ⟨bp, op, rfl, hp, hI, hrb⟩ : ∃ bp op, pa = some ⟨bp, op, none⟩ ∧ w.cell? ⟨bp, op + k * 3 + 1, none⟩ = some (.slice (ra k) (R k).length (rc k)) ∧ IntsAt w (ra k) (R k) ∧ (R k).length ≤ 17592186044416 := by
    rcases hP with h | ⟨bp, op, e, h⟩
    · omega
    · exact ⟨bp, op, e, (h k hkn).2.1, (h k hkn).2.2.2.1, (h k hkn).2.2.2.2.2⟩
  have hk0 : (0 : Int) ≤ (k : Int) := by omega
  have hk1 : (k : Int) < (n : Int) := by omega
  obtain ⟨rl, hrl⟩ : ∃ r, r = (R k).length := ⟨_, rfl⟩
  rw [← hrl] at hp hrb h3
  have p1 : ((w.alloc (.cells #[.slice ta tn tc, .slice na nn nc, .slice la ln lc, .int .i64 st, .slice (some ⟨bp, op, none⟩) n pc] 27)).alloc (.cells #[.int .i64 (k : Int), .int .i64 (j : Int)] 49)).cell? ⟨bp, op + k * 3 + 1, none⟩ = some (.slice (ra k) rl (rc k)) := HG0.out.cell hp (by simp)
  by_cases he : j = rl
  · have hd : ((j : Int) == (rl : Int)) = true := beq_iff_eq.2 (by omega)
    have hd2 : (j == rl) = true := beq_iff_eq.2 he
    have HR : Hid (aheadV R ((k : Int), (j : Int)) = -1) := by
      show _ = _
      unfold aheadV
      rw [if_pos (by simp only [Int.toNat_natCast]; rw [← hrl]; omega)]
    clear hP hp hI hrl he h3
    go_enter Try.func32, Try.ntmps32
    go_wp2_with fail
    go_ret
    exact ⟨by rw [HR.out]; rfl, HG0.out⟩
  · have hjl : j < rl := by omega
    have hd : ((j : Int) == (rl : Int)) = false := beq_eq_false_iff_ne.2 (by omega)
    have hd2 : (j == rl) = false := beq_eq_false_iff_ne.2 he
    have hj0 : (0 : Int) ≤ (j : Int) := by omega
    have hj1 : (j : Int) < (rl : Int) := by omega
    obtain ⟨rb, ro, hrk, hc⟩ : ∃ rb ro, ra k = some ⟨rb, ro, none⟩ ∧ w.cell? ⟨rb, ro + j, none⟩ = some (.int .i64 ((R k).getD j 0)) := by
      rcases hI with h | ⟨b, off, e, h⟩
      · rw [hrl, h] at hjl; cases hjl
      · exact ⟨b, off, e, h j (by rw [← hrl]; exact hjl)⟩
    rw [hrk] at p1
    have c1 : ((w.alloc (.cells #[.slice ta tn tc, .slice na nn nc, .slice la ln lc, .int .i64 st, .slice (some ⟨bp, op, none⟩) n pc] 27)).alloc (.cells #[.int .i64 (k : Int), .int .i64 (j : Int)] 49)).cell? ⟨rb, ro + j, none⟩ = some (.int .i64 ((R k).getD j 0)) := HG0.out.cell hc (by simp)
    have HR : Hid (aheadV R ((k : Int), (j : Int)) = (R k).getD j 0) := by
      show _ = _
      unfold aheadV
      rw [if_neg (by simp only [Int.toNat_natCast]; rw [← hrl]; omega)]
      simp only [Int.toNat_natCast]
    obtain ⟨z, hz⟩ : ∃ z, z = (R k).getD j 0 := ⟨_, rfl⟩
    rw [← hz] at c1 HR
    clear hP hp hI hrl he hc hz hrk h3
    go_enter Try.func32, Try.ntmps32
    go_wp2_with fail
    go_ret
    exact ⟨by rw [HR.out]; rfl, HG0.out⟩
end

set_option maxRecDepth 100000 in
theorem rhas_any (a : Option Addr) (c : Nat) (l : List It) (x : It) (w : World) (hl : ItsAt w a l) (hb : l.length ≤ 1099511627776000) (r : Bool) (hr : r = true ↔ x ∈ l) :
    Calls Try.prog 33 #[.slice a l.length c, .agg #[.int .i64 x.1, .int .i64 x.2]] w fun e y => e = .returned (.bool r) ∧ w.grownBy y none := by
  obtain ⟨xp, xd⟩ := x
  simp only
  obtain ⟨n1, hn1⟩ : ∃ n, n = l.length := ⟨_, rfl⟩
  have HR : Hid (r = true ↔ (xp, xd) ∈ l) := hr
  have HN : Hid (n1 = l.length) := hn1
  have HI : Hid (∀ X, w.grownBy X none → ItsAt X a l) := fun X hX => hl.kept hX
  have HX0 : Hid (w.grownBy (w.alloc (.cells #[.int .i64 xp, .int .i64 xd] 49)) none) := World.grownBy_alloc _ _ none
  have HB0 : Hid ((w.alloc (.cells #[.int .i64 xp, .int .i64 xd] 49)).heap[w.heap.size]? = some (.cells #[.int .i64 xp, .int .i64 xd] 49 (0, 0))) := heap_alloc_last w _
  rw [← hn1] at hb
  rw [← hn1]
  have hgu := guard_item
  clear hr hn1 hl
  go_enter Try.func33, Try.ntmps33
  go_wp2_with fail
  go_loopg [5] n1 (fun gk v5 wr => ∃ j : Nat, j ≤ n1 ∧ gk = n1 - j ∧ v5 = .int .i64 j ∧ w.grownBy wr none ∧ wr.heap[w.heap.size]? = some (.cells #[.int .i64 xp, .int .i64 xd] 49 (0, 0)) ∧ ∀ i, i < j → l.getD i (0, 0) ≠ (xp, xd))
  case atStart => exact ⟨0, Nat.zero_le _, rfl, rfl, HX0.out, HB0.out, fun i hi => absurd hi (Nat.not_lt_zero _)⟩
  case round =>
    obtain ⟨j, hj, hgj, rfl, hg, hbx, hs⟩ := hrel
    have HGJ : Hid (gk = n1 - j) := hgj
    have HG : Hid (w.grownBy wr none) := hg
    have HBX : Hid (wr.heap[w.heap.size]? = some (.cells #[.int .i64 xp, .int .i64 xd] 49 (0, 0))) := hbx
    have HS : Hid (∀ i, i < j → l.getD i (0, 0) ≠ (xp, xd)) := hs
    clear hgj hg hs hbx HX0 HB0
    have z0 : wr.cell? ⟨w.heap.size, 0, none⟩ = some (.int .i64 xp) := by rw [cell_of_row _ _ _ _ _ _ HBX.out]; rfl
    have z1 : wr.cell? ⟨w.heap.size, 1, none⟩ = some (.int .i64 xd) := by rw [cell_of_row _ _ _ _ _ _ HBX.out]; rfl
    by_cases hlt : j < n1
    · have hj0 : (0 : Int) ≤ (j : Int) := by omega
      have hj1 : (j : Int) < (n1 : Int) := by omega
      have hjd : decide (j < n1) = true := decide_eq_true hlt
      have hjl : j < l.length := by rw [← HN.out]; exact hlt
      obtain ⟨b1, o1, rfl, c0, c1'⟩ := (HI.out wr HG.out).at hjl
      have HME : Hid (l.getD j (0, 0) ∈ l) := by show _ ∈ _; rw [List.getD_eq_getElem?_getD, List.getElem?_eq_getElem hjl]; exact List.getElem_mem hjl
      obtain ⟨y, hy⟩ : ∃ y, y = l.getD j (0, 0) := ⟨_, rfl⟩
      have HY : Hid (y = l.getD j (0, 0)) := hy
      rw [← hy] at c0 c1'
      clear hy hjl
      obtain ⟨yp, yd⟩ := y
      simp only at c0 c1'
      obtain ⟨bb, hbb⟩ : ∃ b, b = (yp == xp && yd == xd) := ⟨_, rfl⟩
      have HBB : Hid (bb = true ↔ l.getD j (0, 0) = (xp, xd)) := by
        rw [← HY.out, hbb, Bool.and_eq_true, beq_iff_eq, beq_iff_eq]
        exact ⟨fun h => Prod.ext h.1 h.2, fun h => ⟨congrArg Prod.fst h, congrArg Prod.snd h⟩⟩
      have hE : ∀ X : World, (binOp .eql 49 (.agg #[.int .i64 yp, .int .i64 yd]) (.agg #[.int .i64 xp, .int .i64 xd])).run Try.prog X = .ok (.bool bb) X := fun X => by rw [hbb]; exact eq_item yp yd xp xd X
      clear hbb
      cases bb with
      | true =>
        have HRT : Hid (r = true) := HR.out.2 (by rw [← HBB.out.1 rfl]; exact HME.out)
        clear HBB
        go_wp2_with fail
        go_quiet (fail)
        go_wp2_with fail
        go_ret
        exact ⟨by rw [HRT.out]; rfl, grown_trans HG.out (grown_drewN _ _)⟩
      | false =>
        have HNE : Hid (l.getD j (0, 0) ≠ (xp, xd)) := fun h => absurd (HBB.out.2 h) (by decide)
        clear HBB
        go_wp2_with fail
        go_quiet (fail)
        go_wp2_with fail
        go_roundg (n1 - (j + 1))
        case measure => have := HGJ.out; omega
        case rel => exact ⟨j + 1, by omega, rfl, by go_num, grown_trans HG.out (grown_drewN _ _), HBX.out, fun i hi => by
          by_cases e : i = j
          · rw [e]; exact HNE.out
          · exact HS.out i (by omega)⟩
    · have hjn : n1 = j := by omega
      subst hjn
      have hjd : decide (n1 < n1) = false := decide_eq_false (by omega)
      have HRF : Hid (r = false) := by
        show _ = _
        cases hrr : r with
        | false => rfl
        | true =>
          obtain ⟨i, hi, e⟩ := List.getElem_of_mem (HR.out.1 hrr)
          exact absurd (by rw [List.getD_eq_getElem?_getD, List.getElem?_eq_getElem hi, e]; rfl) (HS.out i (by rw [HN.out]; exact hi))
      go_wp2_with fail
      go_ret
      exact ⟨by rw [HRF.out]; rfl, HG.out⟩

section
variable {tn n : Nat} {L : Nat → Int} {R : Nat → List Int} {I : List It}
theorem CwP.start' {A : List It} (h : ∀ x, x ∈ A ↔ x ∈ I) : CwP tn n L R I A (fun _ => false) 0 := ⟨fun x hx => Clo.base ((h x).1 hx), fun x hx => (h x).2 hx, fun _ h => (by simp at h), fun _ h => absurd h (Nat.not_lt_zero _)⟩
theorem CwP.bring' {A M : List It} {b b' : Nat → Bool} {i s : Nat} (h : CwP tn n L R I A b i) (hi : i < A.length) (hs : aheadV R (A.getD i (0, 0)) = (s : Int)) (ht : tn ≤ s) (hb : ∀ j, b' j = true ↔ j = s ∨ b j = true) (hM : ∀ x ∈ M, ∃ k : Nat, k < n ∧ L k = (s : Int) ∧ x = ((k : Int), (0 : Int))) (hall : ∀ k : Nat, k < n → L k = (s : Int) → ((k : Int), (0 : Int)) ∈ A ++ M) : CwP tn n L R I (A ++ M) b' (i + 1) := by
  have hA : A.getD i (0, 0) ∈ A := by rw [List.getD_eq_getElem?_getD, List.getElem?_eq_getElem hi]; exact List.getElem_mem hi
  refine ⟨fun x hx => ?_, fun x hx => List.mem_append_left _ (h.all x hx), fun s' hs' k hk hl => ?_, fun j hj hl hta => ?_⟩
  · rcases List.mem_append.1 hx with hx | hx
    · exact h.mem x hx
    · obtain ⟨k, hk, hl, rfl⟩ := hM x hx
      exact (h.mem _ hA).step (by rw [hs]; omega) hk (by rw [hs]; exact hl)
  · rcases (hb s').1 hs' with e | e
    · subst e; exact hall k hk hl
    · exact List.mem_append_left _ (h.brt s' e k hk hl)
  · have hjA : j < A.length := by omega
    have e : (A ++ M).getD j (0, 0) = A.getD j (0, 0) := by
      rw [List.getD_eq_getElem?_getD, List.getElem?_append_left hjA, ← List.getD_eq_getElem?_getD]
    rw [e] at hta ⊢
    rw [hb]
    by_cases e2 : j = i
    · subst e2; left; rw [hs]; simp
    · right; exact h.done j (by omega) hjA hta
end

end Go.Proofs.Ytapahpljmcaahaa.J
