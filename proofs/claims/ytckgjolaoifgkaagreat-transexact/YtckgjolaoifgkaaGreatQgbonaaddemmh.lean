import Derived.Test.YtckgjolaoifgkaaGreatQjogafjjfaiba
import Derived.Test.YtckgjolaoifgkaaGreatQbldfmkfimjpl
import Derived.Deep.RegionLaw
import Derived.Test.YtckgjolaoifgkaaGreatQakjkggbohpoc
import Derived.BigQuiet

/-
  lr0: the document's Laid.
-/
namespace Go.Proofs.YtckgjolaoifgkaaGreat.J
open Go.RowKit Go.Maps Go.Shelf

attribute [local go_sem] Oper.semAt_some

theorem owns_lowJ {w : World} {base base' e size n : Nat} {v : Value} {xs : List Value} (h : w.ownsRow base e size v n xs) (hb : base' ≤ base) : w.ownsRow base' e size v n xs := by
  refine ⟨h.1, ?_⟩
  rcases h.2 with h | ⟨g, cap, cur, hv, hB, hr⟩
  · exact .inl h
  · exact .inr ⟨g, cap, cur, hv, Nat.le_trans hb hB, hr⟩

/-- What Laid tells. -/
def LaidTold (l : List It) (w : World) (e : Ending) (y : World) : Prop := ∃ l', Asc l' ∧ (∀ x, x ∈ l' ↔ x ∈ l) ∧ l'.length ≤ l.length ∧ ItsTold l' w e y

set_option maxRecDepth 100000 in
set_option maxHeartbeats 4000000 in
theorem laid_any (a0 : Option Addr) (c0 : Nat) (l : List It) (w : World) (hl : ItsAt w a0 l) (hb : l.length ≤ 8796093062208) :
    Calls Tryz.prog 36 #[.slice a0 l.length c0] w fun e y => LaidTold l w e y := by
  obtain ⟨N, hN⟩ : ∃ n, n = l.length := ⟨_, rfl⟩
  have HN : Hid (N = l.length) := hN
  have HL : Hid (∀ X, w.grownBy X none → ItsAt X a0 l) := fun X hX => hl.kept hX
  rw [← hN] at hb
  rw [← hN]
  have hgu := guard_item
  obtain ⟨i0, hi0, hz0, hz1, hz2⟩ := info_parts infoItem
  clear hN hl
  go_enter Tryz.func36, Tryz.ntmps36
  go_wp2_with fail
  go_loopg [3, 4] N (fun gk v3 v4 wr => ∃ (i q : Nat) (a : Option Addr) (c : Nat) (O : List It), i ≤ N ∧ gk = N - i ∧ v3 = .slice a q c ∧ v4 = .int .i64 i ∧ q = O.length ∧ q ≤ i ∧ (Asc O ∧ ∀ x, x ∈ O ↔ ∃ j, j < i ∧ l.getD j (0, 0) = x) ∧ wr.ownsRow w.heap.size 68 2 (.slice a q c) q (itsV O) ∧ w.grownBy wr none)
  case atStart => exact ⟨0, 0, none, 0, [], Nat.zero_le _, rfl, rfl, rfl, rfl, Nat.le_refl _, ⟨List.Pairwise.nil, fun x => by simp⟩, World.ownsRow_nil _ _ _ _, grown_refl _ _⟩
  case round =>
    obtain ⟨i, q, a, c, O, hi, hgi, rfl, rfl, hq, hqi, hO, hOW, hg⟩ := hrel
    have HGI : Hid (gk = N - i) := hgi
    have HQ : Hid (q = O.length) := hq
    have HO : Hid (Asc O ∧ ∀ x, x ∈ O ↔ ∃ j, j < i ∧ l.getD j (0, 0) = x) := hO
    have HOW0 : Hid (wr.ownsRow w.heap.size 68 2 (.slice a q c) q (itsV O)) := hOW
    have HG0 : Hid (w.grownBy wr none) := hg
    clear hgi hq hO hOW hg
    by_cases hlt : i < N
    · have hi0' : (0 : Int) ≤ (i : Int) := by omega
      have hi1' : (i : Int) < (N : Int) := by omega
      have hid : decide (i < N) = true := decide_eq_true hlt
      obtain ⟨lb, lo, rfl, HLC0⟩ : ∃ lb lo, a0 = some ⟨lb, lo, none⟩ ∧ Hid (∀ X, w.grownBy X none → X.cell? ⟨lb, lo + i * 2, none⟩ = some (.int .i64 (l.getD i (0, 0)).1) ∧ X.cell? ⟨lb, lo + i * 2 + 1, none⟩ = some (.int .i64 (l.getD i (0, 0)).2)) := by
        obtain ⟨lb, lo, e, _⟩ := (HL.out w (grown_refl _ _)).at (i := i) (by rw [← HN.out]; exact hlt)
        refine ⟨lb, lo, e, fun X hX => ?_⟩
        obtain ⟨lb', lo', e', q1, q2⟩ := (HL.out X hX).at (i := i) (by rw [← HN.out]; exact hlt)
        rw [e] at e'
        cases e'
        exact ⟨q1, q2⟩
      obtain ⟨x, hx⟩ : ∃ x, x = l.getD i (0, 0) := ⟨_, rfl⟩
      have HX : Hid (x = l.getD i (0, 0)) := hx
      rw [← hx] at HLC0
      clear hx
      obtain ⟨xp, xd⟩ := x
      simp only at HLC0
      generalize wr = W1 at *
      go_wp2_with fail
      go_loopg [5] q (fun gk v5 wr => ∃ k : Nat, k ≤ q ∧ gk = q - k ∧ v5 = .int .i64 k ∧ (∀ j, j < k → ltI (O.getD j (0, 0)) (xp, xd)) ∧ W1.grownBy wr none)
      case atStart => exact ⟨0, Nat.zero_le _, rfl, rfl, fun j hj => absurd hj (Nat.not_lt_zero _), grown_refl _ _⟩
      case round =>
        obtain ⟨k, hkq0, hgk, rfl, hlts, hgw⟩ := hrel
        have HGK : Hid (gk = q - k) := hgk
        have HLT : Hid (∀ j, j < k → ltI (O.getD j (0, 0)) (xp, xd)) := hlts
        have HGW : Hid (W1.grownBy wr none) := hgw
        have HG : Hid (w.grownBy wr none) := grown_trans HG0.out hgw
        have HOW : Hid (wr.ownsRow w.heap.size 68 2 (.slice a q c) q (itsV O)) := keep0 HOW0.out hgw
        have HIO : Hid (ItsAt wr a O) := ItsAt.of (c := c) (B := w.heap.size) (by rw [← HQ.out]; exact keep0 HOW0.out hgw)
        clear hgk hlts hgw
        obtain ⟨l0, l1⟩ := HLC0.out wr HG.out
        by_cases hkl : k < q
        · have hk0 : (0 : Int) ≤ (k : Int) := by omega
          have hk1 : (k : Int) < (q : Int) := by omega
          have hkd : decide (k < q) = true := decide_eq_true hkl
          obtain ⟨ob, rfl⟩ : ∃ ob, a = some ⟨ob, 0, none⟩ := by
            rcases HOW.out.2 with ⟨h, h0⟩ | ⟨g, cap, cur, hv, _⟩
            · omega
            · simp only [Value.slice.injEq] at hv; exact ⟨g, hv.1⟩
          obtain ⟨ob', oo, hob, o0, o1⟩ := HIO.out.at (i := k) (by rw [← HQ.out]; exact hkl)
          simp only [Option.some.injEq, Addr.mk.injEq, and_true] at hob
          obtain ⟨rfl, rfl⟩ := hob
          rw [Nat.zero_add] at o0 o1
          obtain ⟨y, hy⟩ : ∃ y, y = O.getD k (0, 0) := ⟨_, rfl⟩
          have HY : Hid (y = O.getD k (0, 0)) := hy
          rw [← hy] at o0 o1
          clear hy
          obtain ⟨yp, yd⟩ := y
          simp only at o0 o1
          by_cases hlt1 : yp < xp
          · have e1 : decide (yp < xp) = true := decide_eq_true hlt1
            have HNL : Hid (∀ j, j < k + 1 → ltI (O.getD j (0, 0)) (xp, xd)) := fun j hj => by
              by_cases e : j = k
              · rw [e, ← HY.out]; exact .inl hlt1
              · exact HLT.out j (by omega)
            clear hlt1
            go_wp2_with fail
            go_quiet (fail)
            go_wp2_with fail
            go_roundg (q - (k + 1))
            case measure => have := HGK.out; omega
            case rel => exact ⟨k + 1, by omega, rfl, by go_num, HNL.out, grown_trans HGW.out (grown_drewN _ _)⟩
          · have e1 : decide (yp < xp) = false := decide_eq_false hlt1
            by_cases hlt2 : yp = xp ∧ yd < xd
            · have e2 : (yp == xp) = true := beq_iff_eq.2 hlt2.1
              have e3 : decide (yd < xd) = true := decide_eq_true hlt2.2
              have HNL : Hid (∀ j, j < k + 1 → ltI (O.getD j (0, 0)) (xp, xd)) := fun j hj => by
                by_cases e : j = k
                · rw [e, ← HY.out]; exact .inr hlt2
                · exact HLT.out j (by omega)
              clear hlt1 hlt2
              go_wp2_with fail
              go_quiet (fail)
              go_wp2_with fail
              go_roundg (q - (k + 1))
              case measure => have := HGK.out; omega
              case rel => exact ⟨k + 1, by omega, rfl, by go_num, HNL.out, grown_trans HGW.out (grown_drewN _ _)⟩
            · have HSP : Hid (Spot (xp, xd) O k) := ⟨by rw [← HQ.out]; omega, HLT.out, fun _ h => by
                rw [← HY.out] at h
                rcases h with h | h
                · exact hlt1 h
                · exact hlt2 h⟩
              obtain ⟨bb, hbb⟩ : ∃ b, b = (yp == xp && yd == xd) := ⟨_, rfl⟩
              have HBB : Hid (bb = true ↔ O.getD k (0, 0) = (xp, xd)) := by
                rw [← HY.out, hbb, Bool.and_eq_true, beq_iff_eq, beq_iff_eq]
                exact ⟨fun h => Prod.ext h.1 h.2, fun h => ⟨congrArg Prod.fst h, congrArg Prod.snd h⟩⟩
              have hE : ∀ X : World, (binOp .eql 68 (.agg #[.int .i64 yp, .int .i64 yd]) (.agg #[.int .i64 xp, .int .i64 xd])).run Tryz.prog X = .ok (.bool bb) X := fun X => by rw [hbb]; exact eq_item yp yd xp xd X
              clear hbb
              by_cases heq : yp = xp
              case' pos =>
                have e2 : (yp == xp) = true := beq_iff_eq.2 heq
                have e3 : decide (yd < xd) = false := decide_eq_false fun h => hlt2 ⟨heq, h⟩
              case' neg =>
                have e2 : (yp == xp) = false := beq_eq_false_iff_ne.2 heq
              all_goals
                clear heq hlt1 hlt2
                cases bb with
                | true =>
                  have HEM : Hid (∀ y, y ∈ O ↔ ∃ j, j < i + 1 ∧ l.getD j (0, 0) = y) := fun y => by
                    rw [HO.out.2]
                    constructor
                    · rintro ⟨j, h1, h2⟩; exact ⟨j, by omega, h2⟩
                    · rintro ⟨j, h1, h2⟩
                      by_cases e : j = i
                      · have h3 : (xp, xd) ∈ O := spot_in (by rw [← HQ.out]; exact hkl) (HBB.out.1 rfl)
                        have h4 := (HO.out.2 _).1 h3
                        rw [← h2, e, ← HX.out]; exact h4
                      · exact ⟨j, by omega, h2⟩
                  clear HBB
                  have HALL : Hid (∀ X, wr.grownBy X none → w.grownBy X none ∧ X.ownsRow w.heap.size 68 2 (.slice (some ⟨ob, 0, none⟩) q c) q (itsV O) ∧ ItsAt X (some ⟨ob, 0, none⟩) O) := fun X hX => ⟨grown_trans HG.out hX, keep0 HOW.out hX, HIO.out.kept hX⟩
                  go_wp2_with fail
                  go_quiet (fail)
                  have HZ1 : Hid (wr.grownBy (wr.drewN nq) none) := grown_drewN _ _
                  generalize wr.drewN nq = Z1 at *
                  have hgz := HZ1.out
                  have o0' := hgz.cell o0 (by simp)
                  have o1' := hgz.cell o1 (by simp)
                  have l0' := hgz.cell l0 (by simp)
                  have l1' := hgz.cell l1 (by simp)
                  clear hgz o0 o1 l0 l1
                  go_wp2_with fail
                  go_quiet (fail)
                  go_wp2_with fail
                  go_roundg (N - (i + 1))
                  case measure => have := HGI.out; omega
                  case rel => exact ⟨i + 1, q, _, c, O, by omega, rfl, rfl, by go_num, HQ.out, by omega, ⟨HO.out.1, HEM.out⟩, (HALL.out _ (grown_trans HZ1.out (grown_drewN _ _))).2.1, (HALL.out _ (grown_trans HZ1.out (grown_drewN _ _))).1⟩
                | false =>
                  have HNE : Hid (¬ (k < O.length ∧ O.getD k (0, 0) = (xp, xd))) := fun h => absurd (HBB.out.2 h.2) (by decide)
                  clear HBB
                  have HALL : Hid (∀ X, wr.grownBy X none → w.grownBy X none ∧ X.ownsRow w.heap.size 68 2 (.slice (some ⟨ob, 0, none⟩) q c) q (itsV O) ∧ ItsAt X (some ⟨ob, 0, none⟩) O) := fun X hX => ⟨grown_trans HG.out hX, keep0 HOW.out hX, HIO.out.kept hX⟩
                  go_wp2_with fail
                  go_quiet (fail)
                  have HZ1 : Hid (wr.grownBy (wr.drewN nq) none) := grown_drewN _ _
                  generalize wr.drewN nq = Z1 at *
                  have hgz := HZ1.out
                  have o0' := hgz.cell o0 (by simp)
                  have o1' := hgz.cell o1 (by simp)
                  have l0' := hgz.cell l0 (by simp)
                  have l1' := hgz.cell l1 (by simp)
                  clear hgz o0 o1 l0 l1
                  go_wp2_with fail
                  go_quiet (fail)
                  have HZ2 : Hid (Z1.grownBy (Z1.drewN nq) none) := grown_drewN _ _
                  generalize Z1.drewN nq = W6 at *
                  have HZW : Hid (wr.grownBy W6 none) := grown_trans HZ1.out HZ2.out
                  have HLC : Hid (∀ X, W6.grownBy X none → X.cell? ⟨lb, lo + i * 2, none⟩ = some (.int .i64 xp) ∧ X.cell? ⟨lb, lo + i * 2 + 1, none⟩ = some (.int .i64 xd)) := fun X hX => HLC0.out X (grown_trans HG.out (grown_trans HZW.out hX))
                  have HG6 : Hid (w.grownBy W6 none) := (HALL.out _ HZW.out).1
                  have HOW6 : Hid (W6.ownsRow w.heap.size 68 2 (.slice (some ⟨ob, 0, none⟩) q c) q (itsV O)) := (HALL.out _ HZW.out).2.1
                  have HIO6 : Hid (ItsAt W6 (some ⟨ob, 0, none⟩) O) := (HALL.out _ HZW.out).2.2
                  clear HG HOW HIO
                  have HNX : Hid (Asc (O.take k ++ [(xp, xd)] ++ O.drop k) ∧ (∀ y, y ∈ O.take k ++ [(xp, xd)] ++ O.drop k ↔ ∃ j, j < i + 1 ∧ l.getD j (0, 0) = y) ∧ (O.take k ++ [(xp, xd)] ++ O.drop k).length = q + 1) := by
                    obtain ⟨n1, n2⟩ := spot_new HSP.out HO.out.1 HNE.out
                    refine ⟨n1, fun y => ?_, ?_⟩
                    · rw [n2, HO.out.2]
                      constructor
                      · rintro (e | ⟨j, h1, h2⟩)
                        · exact ⟨i, by omega, by rw [e]; exact HX.out.symm⟩
                        · exact ⟨j, by omega, h2⟩
                      · rintro ⟨j, h1, h2⟩
                        by_cases e : j = i
                        · left; rw [← h2, e]; exact HX.out.symm
                        · right; exact ⟨j, by omega, h2⟩
                    · rw [List.length_append, List.length_append, List.length_take, List.length_drop, HQ.out]
                      have := HSP.out.le
                      simp only [List.length_cons, List.length_nil]
                      omega
                  have HKQ : Hid (k ≤ q) := by rw [HQ.out]; exact HSP.out.le
                  have HNIL : Hid ((some (⟨ob, 0, none⟩ : Addr)) = none → k = 0 ∧ c = 0) := fun h => by have h1 := (owns_bounds HOW6.out).2 h; have h2 := HKQ.out; omega
                  have HTL : Hid ((itsV (O.take k)).length = k * 2) := by show _ = _; rw [itsV_length, List.length_take]; have := HKQ.out; have := HQ.out; omega
                  have HSR1 : Hid (∀ ad, (some (⟨ob, 0, none⟩ : Addr)) = some ad → ∀ j u, (itsV (O.take k))[j]? = some u → W6.cell? (ad.add j) = some u) := fun ad e j u hu => its_cells HIO6.out ad e j u (by
                    have h1 : j < k * 2 := by have := (List.getElem?_eq_some_iff.1 hu).1; rwa [HTL.out] at this
                    have h2 : itsV O = itsV (O.take k) ++ itsV (O.drop k) := by rw [← itsV_append, List.take_append_drop]
                    rw [h2, List.getElem?_append_left (by rw [HTL.out]; exact h1)]
                    exact hu)
                  have HW6 : Hid (w.heap.size ≤ W6.heap.size) := HG6.out.size
                  have hkq := HKQ.out
                  have hqc : q ≤ c := (owns_bounds HOW6.out).1
                  have hkq2 : (k : Int) ≤ (q : Int) := by omega
                  have hkc2 : (k : Int) ≤ (c : Int) := by omega
                  have hkc0 : (0 : Int) ≤ (k : Int) := by omega
                  have HTD : Hid ((itsV (O.take k) ++ [.int .i64 xp, .int .i64 xd]) ++ itsV (O.drop k) = itsV (O.take k ++ [(xp, xd)] ++ O.drop k)) := by show _ = _; rw [itsV_append, itsV_append]; rfl
                  have HLN : Hid (k + 1 + (q - k) = q + 1) := by show _ = _; omega
                  have HDL : Hid ((itsV (O.drop k)).length = (q - k) * 2) := by show _ = _; rw [itsV_length, List.length_drop, HQ.out]
                  have HDR : Hid (∀ X, W6.grownBy X none → ∀ j u, (itsV (O.drop k))[j]? = some u → X.cell? ((⟨ob, k * 2, none⟩ : Addr).add j) = some u) := fun X hX j u hu => by
                    have h1 := its_cells (HIO6.out.kept hX) ⟨ob, 0, none⟩ rfl (k * 2 + j) u (by
                      have h2 : itsV O = itsV (O.take k) ++ itsV (O.drop k) := by rw [← itsV_append, List.take_append_drop]
                      rw [h2, List.getElem?_append_right (by rw [HTL.out]; omega), HTL.out, Nat.add_sub_cancel_left]
                      exact hu)
                    rw [Addr.add_mid] at h1 ⊢
                    rw [Nat.zero_add] at h1
                    exact h1
                  have hkc : k < c := by omega
                  have hkc3 : decide (k < c) = true := decide_eq_true hkc
                  have hkc4 : ¬ c = k := by omega
                  go_wp2_with (at_builtin; first | (refine wpList_append_srcW rfl (.tmp 73) (.tmp 76) 69 rfl W6.heap.size 68 i0 (.agg #[.int .i64 0, .int .i64 0]) 2 16 Tryz.underlying69 hi0 hz0 hz1 hz2 rfl (by decide) (.slice none 0 0) 0 [] rfl (World.ownsRow_nil _ _ _ _) (some ⟨ob, 0, none⟩) k c (itsV (O.take k)) rfl HNIL.out HTL.out HSR1.out (itsV_one _) (by unfold maxLen; omega) (by omega) (Nat.le_refl _) ?_; intro v6 wA hoA hgA; rw [Nat.zero_add, List.nil_append] at hoA; obtain ⟨a6, c6, rfl⟩ := owns_slice hoA; have HOB0 : Hid ((wA.alloc (.cells #[.int .i64 xp, .int .i64 xd] 68)).ownsRow W6.heap.size 68 2 (.slice a6 k c6) k (itsV (O.take k))) := hoA.alloc _; have HNW : Hid (∀ j z, [Value.int .i64 xp, Value.int .i64 xd][j]? = some z → (wA.alloc (.cells #[.int .i64 xp, .int .i64 xd] 68)).cell? ((⟨wA.heap.size, 0, none⟩ : Addr).add j) = some z) := news_new wA _ _; have HG6A : Hid (W6.grownBy (wA.alloc (.cells #[.int .i64 xp, .int .i64 xd] 68)) none) := grown_trans hgA (World.grownBy_alloc _ _ none); have l0 := (HLC.out wA hgA).1; have l1 := (HLC.out wA hgA).2; clear hoA hgA) | (refine wpList_append_srcW rfl (.tmp 78) (.tmp 83) 69 rfl W6.heap.size 68 i0 (.agg #[.int .i64 0, .int .i64 0]) 2 16 Tryz.underlying69 hi0 hz0 hz1 hz2 rfl (by decide) (.slice a6 k c6) k (itsV (O.take k)) rfl HOB0.out (some ⟨wA.heap.size, 0, none⟩) 1 1 [.int .i64 xp, .int .i64 xd] rfl (fun h => by cases h) rfl (fun ad e => by cases e; exact HNW.out) (by simp [Value.oneCell']) (by unfold maxLen; omega) (by omega) HG6A.out.size ?_; intro v7 wB hoB hgB; have HOB : Hid (wB.ownsRow W6.heap.size 68 2 v7 (k + 1) (itsV (O.take k) ++ [.int .i64 xp, .int .i64 xd])) := hoB; have HGB : Hid (W6.grownBy wB none) := grown_row HG6A.out HOB0.out (Nat.le_refl _) hgB; obtain ⟨a7, c7, rfl⟩ := owns_slice hoB; clear hoB hgB) | (refine wpList_append_srcW rfl (.tmp 85) (.tmp 88) 69 rfl W6.heap.size 68 i0 (.agg #[.int .i64 0, .int .i64 0]) 2 16 Tryz.underlying69 hi0 hz0 hz1 hz2 rfl (by decide) (.slice a7 (k + 1) c7) (k + 1) (itsV (O.take k) ++ [.int .i64 xp, .int .i64 xd]) rfl HOB.out (some ⟨ob, k * 2, none⟩) (q - k) (c - k) (itsV (O.drop k)) rfl (fun h => by cases h) HDL.out (fun ad e => by cases e; exact HDR.out _ HGB.out) (itsV_one _) (by unfold maxLen; omega) (by omega) HGB.out.size ?_; intro v8 wC hoC hgC; rw [HLN.out, HTD.out] at hoC; have HOC := show Hid _ from owns_lowJ hoC HW6.out; have HGC : Hid (W6.grownBy wC none) := grown_row HGB.out HOB.out (Nat.le_refl _) hgC; obtain ⟨a9, c9, rfl⟩ := owns_slice hoC; clear hoC hgC) | fail)
                  go_roundg (N - (i + 1))
                  case measure => have := HGI.out; omega
                  case rel => exact ⟨i + 1, q + 1, a9, c9, O.take k ++ [(xp, xd)] ++ O.drop k, by omega, rfl, rfl, by go_num, HNX.out.2.2.symm, by omega, ⟨HNX.out.1, HNX.out.2.1⟩, HOC.out, grown_trans HG6.out HGC.out⟩
        · have hkn : q = k := by omega
          subst hkn
          have hkd : decide (q < q) = false := decide_eq_false (by omega)
          have HSP : Hid (Spot (xp, xd) O q) := ⟨by rw [← HQ.out]; exact Nat.le_refl _, HLT.out, fun h => absurd h (by rw [← HQ.out]; omega)⟩
          have HNE : Hid (¬ (q < O.length ∧ O.getD q (0, 0) = (xp, xd))) := fun h => by have := h.1; rw [← HQ.out] at this; omega
          have HALL : Hid (∀ X, wr.grownBy X none → w.grownBy X none ∧ X.ownsRow w.heap.size 68 2 (.slice a q c) q (itsV O) ∧ ItsAt X a O) := fun X hX => ⟨grown_trans HG.out hX, keep0 HOW.out hX, HIO.out.kept hX⟩
          go_wp2_with fail
          go_quiet (fail)
          have HZ1 : Hid (wr.grownBy (wr.drewN nq) none) := grown_drewN _ _
          generalize wr.drewN nq = Z1 at *
          go_wp2_with fail
          go_quiet (fail)
          have HZ2 : Hid (Z1.grownBy (Z1.drewN nq) none) := grown_drewN _ _
          generalize Z1.drewN nq = W6 at *
          have HZW : Hid (wr.grownBy W6 none) := grown_trans HZ1.out HZ2.out
          have HLC : Hid (∀ X, W6.grownBy X none → X.cell? ⟨lb, lo + i * 2, none⟩ = some (.int .i64 xp) ∧ X.cell? ⟨lb, lo + i * 2 + 1, none⟩ = some (.int .i64 xd)) := fun X hX => HLC0.out X (grown_trans HG.out (grown_trans HZW.out hX))
          have HG6 : Hid (w.grownBy W6 none) := (HALL.out _ HZW.out).1
          have HOW6 : Hid (W6.ownsRow w.heap.size 68 2 (.slice a q c) q (itsV O)) := (HALL.out _ HZW.out).2.1
          have HIO6 : Hid (ItsAt W6 a O) := (HALL.out _ HZW.out).2.2
          clear HG HOW HIO
          have HNX : Hid (Asc (O.take q ++ [(xp, xd)] ++ O.drop q) ∧ (∀ y, y ∈ O.take q ++ [(xp, xd)] ++ O.drop q ↔ ∃ j, j < i + 1 ∧ l.getD j (0, 0) = y) ∧ (O.take q ++ [(xp, xd)] ++ O.drop q).length = q + 1) := by
            obtain ⟨n1, n2⟩ := spot_new HSP.out HO.out.1 HNE.out
            refine ⟨n1, fun y => ?_, ?_⟩
            · rw [n2, HO.out.2]
              constructor
              · rintro (e | ⟨j, h1, h2⟩)
                · exact ⟨i, by omega, by rw [e]; exact HX.out.symm⟩
                · exact ⟨j, by omega, h2⟩
              · rintro ⟨j, h1, h2⟩
                by_cases e : j = i
                · left; rw [← h2, e]; exact HX.out.symm
                · right; exact ⟨j, by omega, h2⟩
            · rw [List.length_append, List.length_append, List.length_take, List.length_drop, HQ.out]
              have := HSP.out.le
              simp only [List.length_cons, List.length_nil]
              omega
          have HKQ : Hid (q ≤ q) := Nat.le_refl _
          have HNIL : Hid (a = none → q = 0 ∧ c = 0) := fun h => by have h1 := (owns_bounds HOW6.out).2 h; have h2 := HKQ.out; omega
          have HTL : Hid ((itsV (O.take q)).length = q * 2) := by show _ = _; rw [itsV_length, List.length_take]; have := HKQ.out; have := HQ.out; omega
          have HSR1 : Hid (∀ ad, a = some ad → ∀ j u, (itsV (O.take q))[j]? = some u → W6.cell? (ad.add j) = some u) := fun ad e j u hu => its_cells HIO6.out ad e j u (by
            have h1 : j < q * 2 := by have := (List.getElem?_eq_some_iff.1 hu).1; rwa [HTL.out] at this
            have h2 : itsV O = itsV (O.take q) ++ itsV (O.drop q) := by rw [← itsV_append, List.take_append_drop]
            rw [h2, List.getElem?_append_left (by rw [HTL.out]; exact h1)]
            exact hu)
          have HW6 : Hid (w.heap.size ≤ W6.heap.size) := HG6.out.size
          have hkq := HKQ.out
          have hqc : q ≤ c := (owns_bounds HOW6.out).1
          have hkq2 : (q : Int) ≤ (q : Int) := by omega
          have hkc2 : (q : Int) ≤ (c : Int) := by omega
          have hkc0 : (0 : Int) ≤ (q : Int) := by omega
          have HTD : Hid (itsV (O.take q) ++ [.int .i64 xp, .int .i64 xd] = itsV (O.take q ++ [(xp, xd)] ++ O.drop q)) := by
            show _ = _
            rw [List.drop_eq_nil_of_le (by rw [← HQ.out]; exact Nat.le_refl _), List.append_nil, itsV_append]; rfl
          by_cases hcq : q = c
          · subst hcq
            go_wp2_with (at_builtin; first | (refine wpList_append_srcW rfl (.tmp 73) (.tmp 76) 69 rfl W6.heap.size 68 i0 (.agg #[.int .i64 0, .int .i64 0]) 2 16 Tryz.underlying69 hi0 hz0 hz1 hz2 rfl (by decide) (.slice none 0 0) 0 [] rfl (World.ownsRow_nil _ _ _ _) a q q (itsV (O.take q)) rfl HNIL.out HTL.out HSR1.out (itsV_one _) (by unfold maxLen; omega) (by omega) (Nat.le_refl _) ?_; intro v6 wA hoA hgA; rw [Nat.zero_add, List.nil_append] at hoA; obtain ⟨a6, c6, rfl⟩ := owns_slice hoA; have HOB0 : Hid ((wA.alloc (.cells #[.int .i64 xp, .int .i64 xd] 68)).ownsRow W6.heap.size 68 2 (.slice a6 q c6) q (itsV (O.take q))) := hoA.alloc _; have HNW : Hid (∀ j z, [Value.int .i64 xp, Value.int .i64 xd][j]? = some z → (wA.alloc (.cells #[.int .i64 xp, .int .i64 xd] 68)).cell? ((⟨wA.heap.size, 0, none⟩ : Addr).add j) = some z) := news_new wA _ _; have HG6A : Hid (W6.grownBy (wA.alloc (.cells #[.int .i64 xp, .int .i64 xd] 68)) none) := grown_trans hgA (World.grownBy_alloc _ _ none); have l0 := (HLC.out wA hgA).1; have l1 := (HLC.out wA hgA).2; clear hoA hgA) | (refine wpList_append_srcW rfl (.tmp 78) (.tmp 83) 69 rfl W6.heap.size 68 i0 (.agg #[.int .i64 0, .int .i64 0]) 2 16 Tryz.underlying69 hi0 hz0 hz1 hz2 rfl (by decide) (.slice a6 q c6) q (itsV (O.take q)) rfl HOB0.out (some ⟨wA.heap.size, 0, none⟩) 1 1 [.int .i64 xp, .int .i64 xd] rfl (fun h => by cases h) rfl (fun ad e => by cases e; exact HNW.out) (by simp [Value.oneCell']) (by unfold maxLen; omega) (by omega) HG6A.out.size ?_; intro v7 wB hoB hgB; have HOB : Hid (wB.ownsRow W6.heap.size 68 2 v7 (q + 1) (itsV (O.take q) ++ [.int .i64 xp, .int .i64 xd])) := hoB; have HGB : Hid (W6.grownBy wB none) := grown_row HG6A.out HOB0.out (Nat.le_refl _) hgB; obtain ⟨a7, c7, rfl⟩ := owns_slice hoB; clear hoB hgB) | (refine wpList_append_srcW rfl (.tmp 85) (.tmp 88) 69 rfl W6.heap.size 68 i0 (.agg #[.int .i64 0, .int .i64 0]) 2 16 Tryz.underlying69 hi0 hz0 hz1 hz2 rfl (by decide) (.slice a7 (q + 1) c7) (q + 1) (itsV (O.take q) ++ [.int .i64 xp, .int .i64 xd]) rfl HOB.out a 0 0 [] rfl (fun _ => ⟨rfl, rfl⟩) rfl (fun ad e j u hu => by simp at hu) (fun u hu => by cases hu) (by unfold maxLen; omega) (by omega) HGB.out.size ?_; intro v8 wC hoC hgC; rw [Nat.add_zero, List.append_nil, HTD.out] at hoC; have HOC := show Hid _ from owns_lowJ hoC HW6.out; have HGC : Hid (W6.grownBy wC none) := grown_row HGB.out HOB.out (Nat.le_refl _) hgC; obtain ⟨a9, c9, rfl⟩ := owns_slice hoC; clear hoC hgC) | fail)
            go_roundg (N - (i + 1))
            case measure => have := HGI.out; omega
            case rel => exact ⟨i + 1, q + 1, a9, c9, O.take q ++ [(xp, xd)] ++ O.drop q, by omega, rfl, rfl, by go_num, HNX.out.2.2.symm, by omega, ⟨HNX.out.1, HNX.out.2.1⟩, HOC.out, grown_trans HG6.out HGC.out⟩
          · obtain ⟨gg, rfl⟩ : ∃ gg, a = some ⟨gg, 0, none⟩ := by
              rcases HOW6.out.2 with ⟨h, h0⟩ | ⟨g, cap, cur, hv, _⟩
              · simp only [Value.slice.injEq] at h; exact absurd (by rw [h.2.2]; exact h0) hcq
              · simp only [Value.slice.injEq] at hv; exact ⟨g, hv.1⟩
            have hqc2 : q < c := by omega
            have hqc3 : decide (q < c) = true := decide_eq_true hqc2
            go_wp2_with (at_builtin; first | (refine wpList_append_srcW rfl (.tmp 73) (.tmp 76) 69 rfl W6.heap.size 68 i0 (.agg #[.int .i64 0, .int .i64 0]) 2 16 Tryz.underlying69 hi0 hz0 hz1 hz2 rfl (by decide) (.slice none 0 0) 0 [] rfl (World.ownsRow_nil _ _ _ _) (some ⟨gg, 0, none⟩) q c (itsV (O.take q)) rfl HNIL.out HTL.out HSR1.out (itsV_one _) (by unfold maxLen; omega) (by omega) (Nat.le_refl _) ?_; intro v6 wA hoA hgA; rw [Nat.zero_add, List.nil_append] at hoA; obtain ⟨a6, c6, rfl⟩ := owns_slice hoA; have HOB0 : Hid ((wA.alloc (.cells #[.int .i64 xp, .int .i64 xd] 68)).ownsRow W6.heap.size 68 2 (.slice a6 q c6) q (itsV (O.take q))) := hoA.alloc _; have HNW : Hid (∀ j z, [Value.int .i64 xp, Value.int .i64 xd][j]? = some z → (wA.alloc (.cells #[.int .i64 xp, .int .i64 xd] 68)).cell? ((⟨wA.heap.size, 0, none⟩ : Addr).add j) = some z) := news_new wA _ _; have HG6A : Hid (W6.grownBy (wA.alloc (.cells #[.int .i64 xp, .int .i64 xd] 68)) none) := grown_trans hgA (World.grownBy_alloc _ _ none); have l0 := (HLC.out wA hgA).1; have l1 := (HLC.out wA hgA).2; clear hoA hgA) | (refine wpList_append_srcW rfl (.tmp 78) (.tmp 83) 69 rfl W6.heap.size 68 i0 (.agg #[.int .i64 0, .int .i64 0]) 2 16 Tryz.underlying69 hi0 hz0 hz1 hz2 rfl (by decide) (.slice a6 q c6) q (itsV (O.take q)) rfl HOB0.out (some ⟨wA.heap.size, 0, none⟩) 1 1 [.int .i64 xp, .int .i64 xd] rfl (fun h => by cases h) rfl (fun ad e => by cases e; exact HNW.out) (by simp [Value.oneCell']) (by unfold maxLen; omega) (by omega) HG6A.out.size ?_; intro v7 wB hoB hgB; have HOB : Hid (wB.ownsRow W6.heap.size 68 2 v7 (q + 1) (itsV (O.take q) ++ [.int .i64 xp, .int .i64 xd])) := hoB; have HGB : Hid (W6.grownBy wB none) := grown_row HG6A.out HOB0.out (Nat.le_refl _) hgB; obtain ⟨a7, c7, rfl⟩ := owns_slice hoB; clear hoB hgB) | (refine wpList_append_srcW rfl (.tmp 85) (.tmp 88) 69 rfl W6.heap.size 68 i0 (.agg #[.int .i64 0, .int .i64 0]) 2 16 Tryz.underlying69 hi0 hz0 hz1 hz2 rfl (by decide) (.slice a7 (q + 1) c7) (q + 1) (itsV (O.take q) ++ [.int .i64 xp, .int .i64 xd]) rfl HOB.out _ _ _ [] rfl (fun h => by cases h) (by simp) (fun ad e j u hu => by simp at hu) (fun u hu => by cases hu) (by unfold maxLen; omega) (by omega) HGB.out.size ?_; intro v8 wC hoC hgC; rw [Nat.add_zero, List.append_nil, HTD.out] at hoC; have HOC := show Hid _ from owns_lowJ hoC HW6.out; have HGC : Hid (W6.grownBy wC none) := grown_row HGB.out HOB.out (Nat.le_refl _) hgC; obtain ⟨a9, c9, rfl⟩ := owns_slice hoC; clear hoC hgC) | fail)
            go_roundg (N - (i + 1))
            case measure => have := HGI.out; omega
            case rel => exact ⟨i + 1, q + 1, a9, c9, O.take q ++ [(xp, xd)] ++ O.drop q, by omega, rfl, rfl, by go_num, HNX.out.2.2.symm, by omega, ⟨HNX.out.1, HNX.out.2.1⟩, HOC.out, grown_trans HG6.out HGC.out⟩
    · have hin : N = i := by omega
      subst hin
      have hid : decide (N < N) = false := decide_eq_false (by omega)
      go_wp2_with fail
      go_ret
      refine ⟨O, HO.out.1, fun x => ?_, by rw [← HQ.out, ← HN.out]; exact hqi, a, c, by rw [← HQ.out]; rfl, by rw [← HQ.out]; exact HOW0.out, HG0.out⟩
      rw [HO.out.2]
      constructor
      · rintro ⟨j, h1, rfl⟩
        rw [List.getD_eq_getElem?_getD, List.getElem?_eq_getElem (by rw [← HN.out]; exact h1)]; exact List.getElem_mem _
      · intro hx
        obtain ⟨j, hj, e⟩ := List.getElem_of_mem hx
        exact ⟨j, by rw [HN.out]; exact hj, by rw [List.getD_eq_getElem?_getD, List.getElem?_eq_getElem hj, e]; rfl⟩

end Go.Proofs.YtckgjolaoifgkaaGreat.J

/-
  lr0: the document's isItem, After, has; its closures, pure.
-/
namespace Go.Proofs.YtckgjolaoifgkaaGreat.J
open Go.RowKit Go.Maps Go.Shelf

attribute [local go_sem] Oper.semAt_some

section
variable (ta na la pa : Option Addr) (tc nc lc pc : Nat) (ts : List (ByteArray × Int)) (ns : List ByteArray) (lv : List Int) (n : Nat) (L : Nat → Int) (R : Nat → List Int) (ra : Nat → Option Addr) (rc : Nat → Nat) (V : Nat → Int) (st : Int) (w : World) (tn nn ln : Nat)

set_option maxRecDepth 100000 in
set_option maxHeartbeats 1000000 in
theorem rafter_any (hP : ProdsAt w pa n L R ra rc V) (x : It) (hx : itB n R x = true) : Calls Tryz.prog 37 #[.agg #[.slice ta tn tc, .slice na nn nc, .slice la ln lc, .int .i64 st, .slice pa n pc], .agg #[.int .i64 x.1, .int .i64 x.2]] w fun e y => e = .returned (.int .i64 (aheadV R x)) ∧ w.grownBy y none := by
  obtain ⟨p, d⟩ := x
  simp only
  have HG0 : Hid (w.grownBy ((w.alloc (.cells #[.slice ta tn tc, .slice na nn nc, .slice la ln lc, .int .i64 st, .slice pa n pc] 27)).alloc (.cells #[.int .i64 p, .int .i64 d] 68)) none) := grown_trans (World.grownBy_alloc _ _ none) (World.grownBy_alloc _ _ none)
  unfold itB at hx
  simp only [Bool.and_eq_true, decide_eq_true_eq] at hx
  obtain ⟨⟨⟨h0, h1⟩, h2⟩, h3⟩ := hx
  obtain ⟨k, rfl⟩ : ∃ k : Nat, p = (k : Int) := ⟨p.toNat, by omega⟩
  obtain ⟨j, rfl⟩ : ∃ j : Nat, d = (j : Int) := ⟨d.toNat, by omega⟩
  rw [Int.toNat_natCast] at h3
  have hkn : k < n := by omega
  obtain ⟨bp, op, rfl, hp, hI, hrb⟩ : ∃ bp op, pa = some ⟨bp, op, none⟩ ∧ w.cell? ⟨bp, op + k * 3 + 1, none⟩ = some (.slice (ra k) (R k).length (rc k)) ∧ IntsAt w (ra k) (R k) ∧ (R k).length ≤ 17592186044416 := by
    rcases hP with h | ⟨bp, op, e, h⟩
    · omega
    · exact ⟨bp, op, e, (h k hkn).2.1, (h k hkn).2.2.2.1, (h k hkn).2.2.2.2.2⟩
  have hk0 : (0 : Int) ≤ (k : Int) := by omega
  have hk1 : (k : Int) < (n : Int) := by omega
  obtain ⟨rl, hrl⟩ : ∃ r, r = (R k).length := ⟨_, rfl⟩
  rw [← hrl] at hp hrb h3
  have p1 : ((w.alloc (.cells #[.slice ta tn tc, .slice na nn nc, .slice la ln lc, .int .i64 st, .slice (some ⟨bp, op, none⟩) n pc] 27)).alloc (.cells #[.int .i64 (k : Int), .int .i64 (j : Int)] 68)).cell? ⟨bp, op + k * 3 + 1, none⟩ = some (.slice (ra k) rl (rc k)) := HG0.out.cell hp (by simp)
  by_cases he : j = rl
  · have hd : ((j : Int) == (rl : Int)) = true := beq_iff_eq.2 (by omega)
    have hd2 : (j == rl) = true := beq_iff_eq.2 he
    have HR : Hid (aheadV R ((k : Int), (j : Int)) = -1) := by
      show _ = _
      unfold aheadV
      rw [if_pos (by simp only [Int.toNat_natCast]; rw [← hrl]; omega)]
    clear hP hp hI hrl he h3
    go_enter Tryz.func37, Tryz.ntmps37
    go_wp2_with fail
    go_ret
    exact ⟨by rw [HR.out]; rfl, HG0.out⟩
  · have hjl : j < rl := by omega
    have hd : ((j : Int) == (rl : Int)) = false := beq_eq_false_iff_ne.2 (by omega)
    have hd2 : (j == rl) = false := beq_eq_false_iff_ne.2 he
    have hj0 : (0 : Int) ≤ (j : Int) := by omega
    have hj1 : (j : Int) < (rl : Int) := by omega
    obtain ⟨rb, ro, hrk, hc⟩ : ∃ rb ro, ra k = some ⟨rb, ro, none⟩ ∧ w.cell? ⟨rb, ro + j, none⟩ = some (.int .i64 ((R k).getD j 0)) := by
      rcases hI with h | ⟨b, off, e, h⟩
      · rw [hrl, h] at hjl; cases hjl
      · exact ⟨b, off, e, h j (by rw [← hrl]; exact hjl)⟩
    rw [hrk] at p1
    have c1 : ((w.alloc (.cells #[.slice ta tn tc, .slice na nn nc, .slice la ln lc, .int .i64 st, .slice (some ⟨bp, op, none⟩) n pc] 27)).alloc (.cells #[.int .i64 (k : Int), .int .i64 (j : Int)] 68)).cell? ⟨rb, ro + j, none⟩ = some (.int .i64 ((R k).getD j 0)) := HG0.out.cell hc (by simp)
    have HR : Hid (aheadV R ((k : Int), (j : Int)) = (R k).getD j 0) := by
      show _ = _
      unfold aheadV
      rw [if_neg (by simp only [Int.toNat_natCast]; rw [← hrl]; omega)]
      simp only [Int.toNat_natCast]
    obtain ⟨z, hz⟩ : ∃ z, z = (R k).getD j 0 := ⟨_, rfl⟩
    rw [← hz] at c1 HR
    clear hP hp hI hrl he hc hz hrk h3
    go_enter Tryz.func37, Tryz.ntmps37
    go_wp2_with fail
    go_ret
    exact ⟨by rw [HR.out]; rfl, HG0.out⟩
end

set_option maxRecDepth 100000 in
theorem rhas_any (a : Option Addr) (c : Nat) (l : List It) (x : It) (w : World) (hl : ItsAt w a l) (hb : l.length ≤ 1099511627776000) (r : Bool) (hr : r = true ↔ x ∈ l) :
    Calls Tryz.prog 38 #[.slice a l.length c, .agg #[.int .i64 x.1, .int .i64 x.2]] w fun e y => e = .returned (.bool r) ∧ w.grownBy y none := by
  obtain ⟨xp, xd⟩ := x
  simp only
  obtain ⟨n1, hn1⟩ : ∃ n, n = l.length := ⟨_, rfl⟩
  have HR : Hid (r = true ↔ (xp, xd) ∈ l) := hr
  have HN : Hid (n1 = l.length) := hn1
  have HI : Hid (∀ X, w.grownBy X none → ItsAt X a l) := fun X hX => hl.kept hX
  have HX0 : Hid (w.grownBy (w.alloc (.cells #[.int .i64 xp, .int .i64 xd] 68)) none) := World.grownBy_alloc _ _ none
  have HB0 : Hid ((w.alloc (.cells #[.int .i64 xp, .int .i64 xd] 68)).heap[w.heap.size]? = some (.cells #[.int .i64 xp, .int .i64 xd] 68 (0, 0))) := heap_alloc_last w _
  rw [← hn1] at hb
  rw [← hn1]
  have hgu := guard_item
  clear hr hn1 hl
  go_enter Tryz.func38, Tryz.ntmps38
  go_wp2_with fail
  go_loopg [5] n1 (fun gk v5 wr => ∃ j : Nat, j ≤ n1 ∧ gk = n1 - j ∧ v5 = .int .i64 j ∧ w.grownBy wr none ∧ wr.heap[w.heap.size]? = some (.cells #[.int .i64 xp, .int .i64 xd] 68 (0, 0)) ∧ ∀ i, i < j → l.getD i (0, 0) ≠ (xp, xd))
  case atStart => exact ⟨0, Nat.zero_le _, rfl, rfl, HX0.out, HB0.out, fun i hi => absurd hi (Nat.not_lt_zero _)⟩
  case round =>
    obtain ⟨j, hj, hgj, rfl, hg, hbx, hs⟩ := hrel
    have HGJ : Hid (gk = n1 - j) := hgj
    have HG : Hid (w.grownBy wr none) := hg
    have HBX : Hid (wr.heap[w.heap.size]? = some (.cells #[.int .i64 xp, .int .i64 xd] 68 (0, 0))) := hbx
    have HS : Hid (∀ i, i < j → l.getD i (0, 0) ≠ (xp, xd)) := hs
    clear hgj hg hs hbx HX0 HB0
    have z0 : wr.cell? ⟨w.heap.size, 0, none⟩ = some (.int .i64 xp) := by rw [cell_of_row _ _ _ _ _ _ HBX.out]; rfl
    have z1 : wr.cell? ⟨w.heap.size, 1, none⟩ = some (.int .i64 xd) := by rw [cell_of_row _ _ _ _ _ _ HBX.out]; rfl
    by_cases hlt : j < n1
    · have hj0 : (0 : Int) ≤ (j : Int) := by omega
      have hj1 : (j : Int) < (n1 : Int) := by omega
      have hjd : decide (j < n1) = true := decide_eq_true hlt
      have hjl : j < l.length := by rw [← HN.out]; exact hlt
      obtain ⟨b1, o1, rfl, c0, c1'⟩ := (HI.out wr HG.out).at hjl
      have HME : Hid (l.getD j (0, 0) ∈ l) := by show _ ∈ _; rw [List.getD_eq_getElem?_getD, List.getElem?_eq_getElem hjl]; exact List.getElem_mem hjl
      obtain ⟨y, hy⟩ : ∃ y, y = l.getD j (0, 0) := ⟨_, rfl⟩
      have HY : Hid (y = l.getD j (0, 0)) := hy
      rw [← hy] at c0 c1'
      clear hy hjl
      obtain ⟨yp, yd⟩ := y
      simp only at c0 c1'
      obtain ⟨bb, hbb⟩ : ∃ b, b = (yp == xp && yd == xd) := ⟨_, rfl⟩
      have HBB : Hid (bb = true ↔ l.getD j (0, 0) = (xp, xd)) := by
        rw [← HY.out, hbb, Bool.and_eq_true, beq_iff_eq, beq_iff_eq]
        exact ⟨fun h => Prod.ext h.1 h.2, fun h => ⟨congrArg Prod.fst h, congrArg Prod.snd h⟩⟩
      have hE : ∀ X : World, (binOp .eql 68 (.agg #[.int .i64 yp, .int .i64 yd]) (.agg #[.int .i64 xp, .int .i64 xd])).run Tryz.prog X = .ok (.bool bb) X := fun X => by rw [hbb]; exact eq_item yp yd xp xd X
      clear hbb
      cases bb with
      | true =>
        have HRT : Hid (r = true) := HR.out.2 (by rw [← HBB.out.1 rfl]; exact HME.out)
        clear HBB
        go_wp2_with fail
        go_quiet (fail)
        go_wp2_with fail
        go_ret
        exact ⟨by rw [HRT.out]; rfl, grown_trans HG.out (grown_drewN _ _)⟩
      | false =>
        have HNE : Hid (l.getD j (0, 0) ≠ (xp, xd)) := fun h => absurd (HBB.out.2 h) (by decide)
        clear HBB
        go_wp2_with fail
        go_quiet (fail)
        go_wp2_with fail
        go_roundg (n1 - (j + 1))
        case measure => have := HGJ.out; omega
        case rel => exact ⟨j + 1, by omega, rfl, by go_num, grown_trans HG.out (grown_drewN _ _), HBX.out, fun i hi => by
          by_cases e : i = j
          · rw [e]; exact HNE.out
          · exact HS.out i (by omega)⟩
    · have hjn : n1 = j := by omega
      subst hjn
      have hjd : decide (n1 < n1) = false := decide_eq_false (by omega)
      have HRF : Hid (r = false) := by
        show _ = _
        cases hrr : r with
        | false => rfl
        | true =>
          obtain ⟨i, hi, e⟩ := List.getElem_of_mem (HR.out.1 hrr)
          exact absurd (by rw [List.getD_eq_getElem?_getD, List.getElem?_eq_getElem hi, e]; rfl) (HS.out i (by rw [HN.out]; exact hi))
      go_wp2_with fail
      go_ret
      exact ⟨by rw [HRF.out]; rfl, HG.out⟩

section
variable {tn n : Nat} {L : Nat → Int} {R : Nat → List Int} {I : List It}
theorem CwP.start' {A : List It} (h : ∀ x, x ∈ A ↔ x ∈ I) : CwP tn n L R I A (fun _ => false) 0 := ⟨fun x hx => Clo.base ((h x).1 hx), fun x hx => (h x).2 hx, fun _ h => (by simp at h), fun _ h => absurd h (Nat.not_lt_zero _)⟩
theorem CwP.bring' {A M : List It} {b b' : Nat → Bool} {i s : Nat} (h : CwP tn n L R I A b i) (hi : i < A.length) (hs : aheadV R (A.getD i (0, 0)) = (s : Int)) (ht : tn ≤ s) (hb : ∀ j, b' j = true ↔ j = s ∨ b j = true) (hM : ∀ x ∈ M, ∃ k : Nat, k < n ∧ L k = (s : Int) ∧ x = ((k : Int), (0 : Int))) (hall : ∀ k : Nat, k < n → L k = (s : Int) → ((k : Int), (0 : Int)) ∈ A ++ M) : CwP tn n L R I (A ++ M) b' (i + 1) := by
  have hA : A.getD i (0, 0) ∈ A := by rw [List.getD_eq_getElem?_getD, List.getElem?_eq_getElem hi]; exact List.getElem_mem hi
  refine ⟨fun x hx => ?_, fun x hx => List.mem_append_left _ (h.all x hx), fun s' hs' k hk hl => ?_, fun j hj hl hta => ?_⟩
  · rcases List.mem_append.1 hx with hx | hx
    · exact h.mem x hx
    · obtain ⟨k, hk, hl, rfl⟩ := hM x hx
      exact (h.mem _ hA).step (by rw [hs]; omega) hk (by rw [hs]; exact hl)
  · rcases (hb s').1 hs' with e | e
    · subst e; exact hall k hk hl
    · exact List.mem_append_left _ (h.brt s' e k hk hl)
  · have hjA : j < A.length := by omega
    have e : (A ++ M).getD j (0, 0) = A.getD j (0, 0) := by
      rw [List.getD_eq_getElem?_getD, List.getElem?_append_left hjA, ← List.getD_eq_getElem?_getD]
    rw [e] at hta ⊢
    rw [hb]
    by_cases e2 : j = i
    · subst e2; left; rw [hs]; simp
    · right; exact h.done j (by omega) hjA hta
end

end Go.Proofs.YtckgjolaoifgkaaGreat.J

/-
  lr0: the document's Closed.
-/
namespace Go.Proofs.YtckgjolaoifgkaaGreat.J
open Go.RowKit Go.Maps Go.Shelf

attribute [local go_sem] Oper.semAt_some

set_option maxRecDepth 100000 in
set_option maxHeartbeats 4000000 in
theorem rclos_any (ta na la pa : Option Addr) (tc nc lc pc : Nat) (n : Nat) (L : Nat → Int) (R : Nat → List Int) (ra : Nat → Option Addr) (rc : Nat → Nat) (V : Nat → Int) (st : Int) (w : World) (tn nn ln : Nat) (hP : ProdsAt w pa n L R ra rc V) (hn : n ≤ 97) (hn0 : 0 < n) (htn : tn ≤ 65) (hnn : nn ≤ 65) (hR : ∀ k, k < n → ∀ x ∈ R k, (0 : Int) ≤ x ∧ x < ((tn + nn : Nat) : Int)) (a : Option Addr) (cap : Nat) (I : List It) (hI : ItsAt w a I) (hIb : I.length ≤ 8796093022208) (hit : ∀ x ∈ I, itB n R x = true) :
    Calls Tryz.prog 26 #[.agg #[.slice ta tn tc, .slice na nn nc, .slice la ln lc, .int .i64 st, .slice pa n pc], .slice a I.length cap] w fun e y => CloTold tn n L R I w e y := by
  obtain ⟨S, hS⟩ : ∃ S, S = tn + nn := ⟨_, rfl⟩
  have HSE : Hid (S = tn + nn) := hS
  have hSz : S ≤ 130 := by omega
  have HSY : Hid (∀ X, Calls Tryz.prog 27 #[.agg #[.slice ta tn tc, .slice na nn nc, .slice la ln lc, .int .i64 st, .slice pa n pc]] X fun e y => e = .returned (.int .i64 (S : Int)) ∧ X.grownBy y none) := fun X => by
    refine (Go.Proofs.YtckgjolaoifgkaaGreat.symbols_any ta na la pa tn nn ln n tc nc lc pc st X (by omega) (by omega)).mono ?_
    rintro e y ⟨rfl, hg⟩
    exact ⟨by rw [hS, Int.natCast_add], hg⟩
  have HAH : Hid (∀ X x, w.grownBy X none → itB n R x = true → Calls Tryz.prog 37 #[.agg #[.slice ta tn tc, .slice na nn nc, .slice la ln lc, .int .i64 st, .slice pa n pc], .agg #[.int .i64 x.1, .int .i64 x.2]] X fun e y => e = .returned (.int .i64 (aheadV R x)) ∧ X.grownBy y none) := fun X x hX hx => rafter_any ta na la pa tc nc lc pc n L R ra rc V st X tn nn ln (prods_kept hP hX) x hx
  have HAR : Hid (∀ x, itB n R x = true → aheadV R x = -1 ∨ ((0 : Int) ≤ aheadV R x ∧ aheadV R x < (S : Int))) := fun x hx => aheadV_range (by rw [hS]; exact hR) hx
  have HIT : Hid (∀ x ∈ I, itB n R x = true) := hit
  obtain ⟨bp, op, rfl, hp⟩ : ∃ bp op, pa = some ⟨bp, op, none⟩ ∧ ∀ k, k < n → w.cell? ⟨bp, op + k * 3, none⟩ = some (.int .i64 (L k)) := by
    rcases hP with h | ⟨bp, op, e, h⟩
    · omega
    · exact ⟨bp, op, e, fun k hk => (h k hk).1⟩
  have HPC : Hid (∀ k, k < n → ∀ X, w.grownBy X none → X.cell? ⟨bp, op + k * 3, none⟩ = some (.int .i64 (L k))) := fun k hk X hX => hX.cell (hp k hk) (by simp)
  obtain ⟨ll, hle⟩ : ∃ m, m = I.length := ⟨_, rfl⟩
  have HLE : Hid (ll = I.length) := hle
  have HLA : Hid (∀ X, w.grownBy X none → Calls Tryz.prog 36 #[.slice a ll cap] X fun e y => LaidTold I X e y) := fun X hX => by rw [hle]; exact laid_any a cap I X (hI.kept hX) (by omega)
  rw [← hle] at hIb
  rw [← hle]
  have HX0 : Hid (PhAt w (w.alloc (.cells #[.slice ta tn tc, .slice na nn nc, .slice la ln lc, .int .i64 st, .slice (some ⟨bp, op, none⟩) n pc] 27)) w.heap.size #[.slice ta tn tc, .slice na nn nc, .slice la ln lc, .int .i64 st, .slice (some ⟨bp, op, none⟩) n pc]) := ⟨World.grownBy_alloc _ _ none, heap_alloc_last w _⟩
  obtain ⟨i0, hi0, hz0, hz1, hz2⟩ := info_parts infoItem
  obtain ⟨i1, hi1, hy0, hy1, hy2⟩ := info_parts infoBool
  clear hP hR hI hit hle hS hp
  go_enter Tryz.func26, Tryz.ntmps26
  go_wp2_with fail
  refine Calls.mono (HLA.out _ HX0.out.grown) ?_
  rintro e w1 ⟨A0, hA1, hA2, hA3, a5, c5, rfl, ho1, hg1⟩
  have HA0 : Hid (∀ x, x ∈ A0 ↔ x ∈ I) := hA2
  obtain ⟨q0, hq0⟩ : ∃ q, q = A0.length := ⟨_, rfl⟩
  have HQ0 : Hid (q0 = A0.length ∧ q0 ≤ ll) := ⟨hq0, by rw [hq0, HLE.out]; exact hA3⟩
  rw [← hq0] at ho1
  rw [← hq0]
  have HX1 : Hid (PhAt w w1 w.heap.size #[.slice ta tn tc, .slice na nn nc, .slice la ln lc, .int .i64 st, .slice (some ⟨bp, op, none⟩) n pc]) := HX0.out.kept hg1
  have HO1 : Hid (w1.ownsRow w.heap.size 68 2 (.slice a5 q0 c5) q0 (itsV A0)) := owns_lowJ ho1 HX0.out.grown.size
  clear hA1 hA2 hA3 ho1 hg1 hq0 HX0
  obtain ⟨k0, k1, k2, k3, k4⟩ := HX1.out.cells
  go_wp2_with fail
  refine Calls.mono (HSY.out _) ?_
  rintro e w2 ⟨rfl, hg2⟩
  have HX2 : Hid (PhAt w w2 w.heap.size #[.slice ta tn tc, .slice na nn nc, .slice la ln lc, .int .i64 st, .slice (some ⟨bp, op, none⟩) n pc]) := HX1.out.kept hg2
  have HO2 : Hid (w2.ownsRow w.heap.size 68 2 (.slice a5 q0 c5) q0 (itsV A0)) := keep0 HO1.out hg2
  clear hg2 k0 k1 k2 k3 k4 HX1 HO1
  go_wp2_with (at_make; refine wpList_make_full _ rfl _ _ 86 rfl w2.heap.size 4 i1 (.bool false) 1 Tryz.underlying86 hi1 hy0 hy1 .i64 .i64 _ _ S rfl rfl (by simp) (by simp) (by rw [hy2]; omega) (by unfold maxLen; omega) (by simp) ?_)
  intro w3 hown hgrow
  have hval : ValAt w3 w2.heap.size S 4 (fun _ => .bool false) := made_rowK (B := w2.heap.size) rfl (by simpa [Value.cells] using hown)
  obtain ⟨mb, hmb⟩ : ∃ mb, mb = w2.heap.size := ⟨_, rfl⟩
  rw [← hmb] at hval
  rw [← hmb]
  have HC0 : Hid (ClAt w w3 #[.slice ta tn tc, .slice na nn nc, .slice la ln lc, .int .i64 st, .slice (some ⟨bp, op, none⟩) n pc] mb S (fun _ => false) a5 q0 c5 A0) := ⟨grown_trans HX2.out.grown hgrow, box_kept HX2.out.box hgrow, hval, by have := (Array.getElem?_eq_some_iff.1 HX2.out.box).1; omega, keep0 HO2.out hgrow⟩
  have HW0 : Hid (CwP tn n L R I A0 (fun _ => false) 0) := CwP.start' HA0.out
  have HU0 : Hid (q0 + unm S (fun _ => false) * 97 ≤ ll + 12610) := by have := unm_le S (fun _ => false); have := HQ0.out.2; show _ ≤ _; omega
  clear hown hgrow hval hmb HX2 HO2
  go_wp2_with fail
  go_loopg [5, 7] (unm S (fun _ => false) * 98 + q0) (fun gk v5 v7 wr => ∃ (i q c' : Nat) (a' : Option Addr) (b : Nat → Bool) (A : List It), v5 = .slice a' q c' ∧ v7 = .int .i64 i ∧ q = A.length ∧ i ≤ q ∧ gk = unm S b * 98 + (q - i) ∧ q + unm S b * 97 ≤ ll + 12610 ∧ CwP tn n L R I A b i ∧ ClAt w wr #[.slice ta tn tc, .slice na nn nc, .slice la ln lc, .int .i64 st, .slice (some ⟨bp, op, none⟩) n pc] mb S b a' q c' A)
  case atStart => exact ⟨0, q0, c5, a5, fun _ => false, A0, rfl, rfl, HQ0.out.1, Nat.zero_le _, rfl, HU0.out, HW0.out, HC0.out⟩
  case round =>
    obtain ⟨i, q, c', a', b, A, rfl, rfl, hq, hiq, hgk, hub, hW, hC⟩ := hrel
    have HQ : Hid (q = A.length) := hq
    have HGK : Hid (gk = unm S b * 98 + (q - i)) := hgk
    have HUB : Hid (q + unm S b * 97 ≤ ll + 12610) := hub
    have HW : Hid (CwP tn n L R I A b i) := hW
    have HC : Hid (ClAt w wr #[.slice ta tn tc, .slice na nn nc, .slice la ln lc, .int .i64 st, .slice (some ⟨bp, op, none⟩) n pc] mb S b a' q c' A) := hC
    have hqb : q ≤ 8796093034818 := by omega
    clear hq hgk hub hW hC HC0 HW0 HU0
    obtain ⟨k0, k1, k2, k3, k4⟩ := HC.out.ph.cells
    by_cases hlt : i < q
    · have hi0' : (0 : Int) ≤ (i : Int) := by omega
      have hi1' : (i : Int) < (q : Int) := by omega
      have hid : decide (i < q) = true := decide_eq_true hlt
      have hiA : i < A.length := by rw [← HQ.out]; exact hlt
      obtain ⟨gb, rfl, c0, c1⟩ : ∃ gb, a' = some ⟨gb, 0, none⟩ ∧ wr.cell? ⟨gb, i * 2, none⟩ = some (.int .i64 (A.getD i (0, 0)).1) ∧ wr.cell? ⟨gb, i * 2 + 1, none⟩ = some (.int .i64 (A.getD i (0, 0)).2) := by
        have ho := HC.out.own
        rcases ho.2 with ⟨_, h⟩ | ⟨g, cap, cur, hv, hB, hh, _, _, hs, ht⟩
        · omega
        · simp only [Value.slice.injEq] at hv
          refine ⟨g, hv.1, ?_⟩
          obtain ⟨h3, h4⟩ := itsV_at A i hiA
          rw [← ht, List.getElem?_take, if_pos (by omega)] at h3 h4
          rw [cell_of_row _ _ _ _ _ _ hh, cell_of_row _ _ _ _ _ _ hh]
          exact ⟨by simpa using h3, by simpa using h4⟩
      have hxi : itB n R (A.getD i (0, 0)) = true := by
        refine (HW.out.mem _ ?_).item HIT.out
        rw [List.getD_eq_getElem?_getD, List.getElem?_eq_getElem hiA]; exact List.getElem_mem hiA
      have hrg := HAR.out _ hxi
      have HAC : Hid (∀ X, wr.grownBy X none → Calls Tryz.prog 37 #[.agg #[.slice ta tn tc, .slice na nn nc, .slice la ln lc, .int .i64 st, .slice (some ⟨bp, op, none⟩) n pc], .agg #[.int .i64 (A.getD i (0, 0)).1, .int .i64 (A.getD i (0, 0)).2]] X fun e y => e = .returned (.int .i64 (aheadV R (A.getD i (0, 0)))) ∧ X.grownBy y none) := fun X hX => HAH.out X _ (grown_trans HC.out.grown hX) hxi
      obtain ⟨sv, hsv⟩ : ∃ s, s = aheadV R (A.getD i (0, 0)) := ⟨_, rfl⟩
      have HSV : Hid (sv = aheadV R (A.getD i (0, 0))) := hsv
      rw [← hsv] at HAC hrg
      obtain ⟨x, hx⟩ : ∃ x, x = A.getD i (0, 0) := ⟨_, rfl⟩
      rw [← hx] at HAC c0 c1
      clear hsv hx hxi
      obtain ⟨p, d⟩ := x
      simp only at HAC c0 c1
      have HUP : Hid (wr.grownBy wr.drew none) := grown_drewN wr 1
      have HKS : Hid (∀ Y, wr.grownBy Y none → (Y.cell? ⟨w.heap.size, 0, none⟩ = some (.slice ta tn tc) ∧ Y.cell? ⟨w.heap.size, 1, none⟩ = some (.slice na nn nc) ∧ Y.cell? ⟨w.heap.size, 2, none⟩ = some (.slice la ln lc) ∧ Y.cell? ⟨w.heap.size, 3, none⟩ = some (.int .i64 st) ∧ Y.cell? ⟨w.heap.size, 4, none⟩ = some (.slice (some ⟨bp, op, none⟩) n pc)) ∧ Y.cell? ⟨gb, i * 2, none⟩ = some (.int .i64 p) ∧ Y.cell? ⟨gb, i * 2 + 1, none⟩ = some (.int .i64 d)) := fun Y hY => ⟨(HC.out.kept hY).ph.cells, hY.cell c0 (by simp), hY.cell c1 (by simp)⟩
      clear k0 k1 k2 k3 k4 c0 c1
      go_wp2_with fail
      go_region_held3 (fun Y => (Y.cell? ⟨w.heap.size, 0, none⟩ = some (.slice ta tn tc) ∧ Y.cell? ⟨w.heap.size, 1, none⟩ = some (.slice na nn nc) ∧ Y.cell? ⟨w.heap.size, 2, none⟩ = some (.slice la ln lc) ∧ Y.cell? ⟨w.heap.size, 3, none⟩ = some (.int .i64 st) ∧ Y.cell? ⟨w.heap.size, 4, none⟩ = some (.slice (some ⟨bp, op, none⟩) n pc)) ∧ Y.cell? ⟨gb, i * 2, none⟩ = some (.int .i64 p) ∧ Y.cell? ⟨gb, i * 2 + 1, none⟩ = some (.int .i64 d)) (first | exact HKS.out _ HUP.out | exact HKS.out _ HG4.out | go_keep)
        ((first
          | (go_at_call 37; refine Calls.mono (HAC.out _ HUP.out) ?_; rintro e w4 ⟨rfl, hg4⟩; have HG4 : Hid (wr.grownBy w4 none) := grown_trans HUP.out hg4; clear hg4)
          | fail))
      have HC4 : Hid (ClAt w w4 #[.slice ta tn tc, .slice na nn nc, .slice la ln lc, .int .i64 st, .slice (some ⟨bp, op, none⟩) n pc] mb S b (some ⟨gb, 0, none⟩) q c' A) := HC.out.kept HG4.out
      clear HKS HUP HAC HC
      obtain ⟨k0, k1, k2, k3, k4⟩ := HC4.out.ph.cells
      by_cases hst : sv < (tn : Int)
      · have hd : decide (sv < (tn : Int)) = true := decide_eq_true hst
        have HSK : Hid (CwP tn n L R I A b (i + 1)) := HW.out.skip fun h => absurd h (by rw [← HSV.out]; omega)
        clear hst hrg
        go_wp2_with fail
        go_roundg (unm S b * 98 + (q - (i + 1)))
        case measure => have := HGK.out; omega
        case rel => exact ⟨i + 1, q, c', _, b, A, rfl, by go_num, HQ.out, by omega, rfl, HUB.out, HSK.out, HC4.out⟩
      · obtain ⟨s, rfl⟩ : ∃ s : Nat, sv = (s : Int) := ⟨sv.toNat, by omega⟩
        have hsS : s < S := by omega
        have hts : tn ≤ s := by omega
        have hd : decide (s < tn) = false := decide_eq_false (by omega)
        have hd2 : decide ((s : Int) < (tn : Int)) = false := decide_eq_false (by omega)
        have hs0 : (0 : Int) ≤ (s : Int) := by omega
        have hs1 : (s : Int) < (S : Int) := by omega
        have m0 := HC4.out.mark.cell s hsS
        have m1 := HC4.out.mark.free s
        obtain ⟨bs, hbs⟩ : ∃ x, x = b s := ⟨_, rfl⟩
        have HBSV : Hid (bs = b s) := hbs
        rw [← hbs] at m0
        clear hst hrg hbs
        cases bs with
        | true =>
          have HSK : Hid (CwP tn n L R I A b (i + 1)) := HW.out.skip fun _ => by rw [← HSV.out, Int.toNat_natCast]; exact HBSV.out.symm
          go_wp2_with fail
          go_roundg (unm S b * 98 + (q - (i + 1)))
          case measure => have := HGK.out; omega
          case rel => exact ⟨i + 1, q, c', _, b, A, rfl, by go_num, HQ.out, by omega, rfl, HUB.out, HSK.out, HC4.out⟩
        | false =>
          have HUM : Hid (unm S (markT b s) + 1 = unm S b) := unm_mark b s HBSV.out.symm S hsS
          have HCT : Hid (ClAt w (w4.setCell ⟨mb, s, none⟩ (.bool true)) #[.slice ta tn tc, .slice na nn nc, .slice la ln lc, .int .i64 st, .slice (some ⟨bp, op, none⟩) n pc] mb S (markT b s) (some ⟨gb, 0, none⟩) q c' A) := HC4.out.tick
          obtain ⟨X5, hX5⟩ : ∃ X5, X5 = w4.setCell ⟨mb, s, none⟩ (.bool true) := ⟨_, rfl⟩
          have HX5 : Hid (X5 = w4.setCell ⟨mb, s, none⟩ (.bool true)) := hX5
          rw [← hX5] at HCT
          clear hX5 HC4 k0 k1 k2 k3 k4
          have k0 : True := trivial
          go_wp2_with fail
          rw [← HX5.out]
          clear m0 m1 k0
          go_loopg [5, 9] n (fun gp v5 v9 wr => ∃ (pp q2 c2 : Nat) (a2 : Option Addr) (M : List It), pp ≤ n ∧ gp = n - pp ∧ v5 = .slice a2 q2 c2 ∧ v9 = .int .i64 pp ∧ q2 = (A ++ M).length ∧ q2 ≤ q + pp ∧ (∀ x ∈ M, ∃ k : Nat, k < n ∧ L k = (s : Int) ∧ x = ((k : Int), (0 : Int))) ∧ (∀ k : Nat, k < pp → L k = (s : Int) → ((k : Int), (0 : Int)) ∈ A ++ M) ∧ ClAt w wr #[.slice ta tn tc, .slice na nn nc, .slice la ln lc, .int .i64 st, .slice (some ⟨bp, op, none⟩) n pc] mb S (markT b s) a2 q2 c2 (A ++ M))
          case atStart => exact ⟨0, q, c', _, [], Nat.zero_le _, rfl, rfl, rfl, by rw [List.append_nil]; exact HQ.out, Nat.le_refl _, fun x hx => (by cases hx), fun k hk => absurd hk (Nat.not_lt_zero _), by rw [List.append_nil]; exact HCT.out⟩
          case round =>
            obtain ⟨pp, q2, c2, a2, M, hpn, hgp, rfl, rfl, hq2, hqp, hM, hall, hC5⟩ := hrel
            have HGP : Hid (gk = n - pp) := hgp
            have HQ2 : Hid (q2 = (A ++ M).length) := hq2
            have HMM : Hid (∀ x ∈ M, ∃ k : Nat, k < n ∧ L k = (s : Int) ∧ x = ((k : Int), (0 : Int))) := hM
            have HALL : Hid (∀ k : Nat, k < pp → L k = (s : Int) → ((k : Int), (0 : Int)) ∈ A ++ M) := hall
            have HC5 : Hid (ClAt w wr #[.slice ta tn tc, .slice na nn nc, .slice la ln lc, .int .i64 st, .slice (some ⟨bp, op, none⟩) n pc] mb S (markT b s) a2 q2 c2 (A ++ M)) := hC5
            clear hgp hq2 hM hall hC5 HCT
            obtain ⟨k0, k1, k2, k3, k4⟩ := HC5.out.ph.cells
            by_cases hpl : pp < n
            · have hp0 : (0 : Int) ≤ (pp : Int) := by omega
              have hp1 : (pp : Int) < (n : Int) := by omega
              have hpd : decide (pp < n) = true := decide_eq_true hpl
              obtain ⟨Y, hY⟩ : ∃ Y, Y = wr.alloc (.cells #[.int .i64 (pp : Int), .int .i64 0] 68) := ⟨_, rfl⟩
              have HYE : Hid (Y = wr.alloc (.cells #[.int .i64 (pp : Int), .int .i64 0] 68)) := hY
              have HGY : Hid (wr.grownBy Y none) := by rw [hY]; exact World.grownBy_alloc _ _ none
              have HBY : Hid (Y.heap[wr.heap.size]? = some (.cells #[.int .i64 (pp : Int), .int .i64 0] 68 (0, 0))) := by rw [hY]; exact heap_alloc_last wr _
              have HCY : Hid (ClAt w Y #[.slice ta tn tc, .slice na nn nc, .slice la ln lc, .int .i64 st, .slice (some ⟨bp, op, none⟩) n pc] mb S (markT b s) a2 q2 c2 (A ++ M)) := HC5.out.kept HGY.out
              have p0 := HPC.out pp hpl Y HCY.out.grown
              obtain ⟨j0, j1, j2, j3, j4⟩ := HCY.out.ph.cells
              obtain ⟨lk, hlk⟩ : ∃ x, x = L pp := ⟨_, rfl⟩
              have HLK : Hid (lk = L pp) := hlk
              rw [← hlk] at p0
              rw [hY] at p0 j0 j1 j2 j3 j4
              clear hlk hY
              by_cases hls : lk = (s : Int)
              · have hne : (lk != (s : Int)) = false := by rw [hls]; exact bne_self_eq_false _
                obtain ⟨rh, hrh⟩ := boolOf (((pp : Int), (0 : Int)) ∈ A ++ M)
                have HRH : Hid (rh = true ↔ ((pp : Int), (0 : Int)) ∈ A ++ M) := hrh
                have HHA : Hid (Calls Tryz.prog 38 #[.slice a2 q2 c2, .agg #[.int .i64 (pp : Int), .int .i64 0]] Y fun e y => e = .returned (.bool rh) ∧ Y.grownBy y none) := by
                  have ho := HCY.out.own
                  rw [HQ2.out] at ho ⊢
                  exact rhas_any a2 c2 (A ++ M) ((pp : Int), 0) Y (ItsAt.of ho) (by rw [← HQ2.out]; omega) rh hrh
                have HLS : Hid (L pp = (s : Int)) := by show _ = _; rw [← HLK.out]; exact hls
                clear hrh hls
                go_wp2_with fail
                rw [← HYE.out]
                refine Calls.mono HHA.out ?_
                rintro e w7 ⟨rfl, hg7⟩
                have HC7 : Hid (ClAt w w7 #[.slice ta tn tc, .slice na nn nc, .slice la ln lc, .int .i64 st, .slice (some ⟨bp, op, none⟩) n pc] mb S (markT b s) a2 q2 c2 (A ++ M)) := HCY.out.kept hg7
                have HB7 : Hid (w7.heap[wr.heap.size]? = some (.cells #[.int .i64 (pp : Int), .int .i64 0] 68 (0, 0))) := box_kept HBY.out hg7
                clear hg7 p0 j0 j1 j2 j3 j4 k0 k1 k2 k3 k4 HHA
                cases rh with
                | true =>
                  have HAL2 : Hid (∀ k : Nat, k < pp + 1 → L k = (s : Int) → ((k : Int), (0 : Int)) ∈ A ++ M) := fun k hk hl => by
                    by_cases e : k = pp
                    · rw [e]; exact HRH.out.1 rfl
                    · exact HALL.out k (by omega) hl
                  clear HRH
                  go_wp2_with fail
                  go_roundg (n - (pp + 1))
                  case measure => have := HGP.out; omega
                  case rel => exact ⟨pp + 1, q2, c2, a2, M, by omega, rfl, rfl, by go_num, HQ2.out, by omega, HMM.out, HAL2.out, HC7.out⟩
                | false =>
                  have b0 : w7.cell? ⟨wr.heap.size, 0, none⟩ = some (.int .i64 (pp : Int)) := by rw [cell_of_row _ _ _ _ _ _ HB7.out]; rfl
                  have b1 : w7.cell? ⟨wr.heap.size, 1, none⟩ = some (.int .i64 0) := by rw [cell_of_row _ _ _ _ _ _ HB7.out]; rfl
                  have HAL2 : Hid (∀ k : Nat, k < pp + 1 → L k = (s : Int) → ((k : Int), (0 : Int)) ∈ A ++ (M ++ [((pp : Int), (0 : Int))])) := fun k hk hl => by
                    rw [← List.append_assoc]
                    by_cases e : k = pp
                    · rw [e]; simp
                    · exact List.mem_append_left _ (HALL.out k (by omega) hl)
                  have HMM2 : Hid (∀ x ∈ M ++ [((pp : Int), (0 : Int))], ∃ k : Nat, k < n ∧ L k = (s : Int) ∧ x = ((k : Int), (0 : Int))) := fun x hx => by
                    rcases List.mem_append.1 hx with hx | hx
                    · exact HMM.out x hx
                    · exact ⟨pp, hpl, HLS.out, List.mem_singleton.1 hx⟩
                  have HOW : Hid (ClAt w (w7.alloc (.cells #[.int .i64 (pp : Int), .int .i64 0] 68)) #[.slice ta tn tc, .slice na nn nc, .slice la ln lc, .int .i64 st, .slice (some ⟨bp, op, none⟩) n pc] mb S (markT b s) a2 q2 c2 (A ++ M)) := HC7.out.kept (World.grownBy_alloc _ _ none)
                  have HNW : Hid (∀ j z, [Value.int .i64 (pp : Int), Value.int .i64 0][j]? = some z → (w7.alloc (.cells #[.int .i64 (pp : Int), .int .i64 0] 68)).cell? ((⟨w7.heap.size, 0, none⟩ : Addr).add j) = some z) := news_new w7 _ _
                  clear HRH
                  go_wp2_with (at_builtin; refine wpList_append_srcW rfl (.tmp 65) (.tmp 67) 69 rfl w.heap.size 68 i0 (.agg #[.int .i64 0, .int .i64 0]) 2 16 Tryz.underlying69 hi0 hz0 hz1 hz2 rfl (by decide) (.slice a2 q2 c2) q2 (itsV (A ++ M)) rfl HOW.out.own (some ⟨w7.heap.size, 0, none⟩) 1 1 [.int .i64 (pp : Int), .int .i64 0] rfl (fun h => by cases h) rfl (fun ad e => by cases e; exact HNW.out) (by simp [Value.oneCell']) (by unfold maxLen; omega) (by omega) HOW.out.grown.size ?_; intro v8 wB hoB hgB; have hoB2 : wB.ownsRow w.heap.size 68 2 v8 (q2 + 1) (itsV (A ++ (M ++ [((pp : Int), (0 : Int))]))) := (by rw [← List.append_assoc, itsV_append]; exact hoB); obtain ⟨a8, c8, rfl, hC8⟩ := HOW.out.more hgB hoB2; have HC8 := show Hid _ from hC8; clear hoB hgB hC8 hoB2)
                  go_roundg (n - (pp + 1))
                  case measure => have := HGP.out; omega
                  case rel => exact ⟨pp + 1, q2 + 1, c8, a8, M ++ [((pp : Int), (0 : Int))], by omega, rfl, rfl, by go_num, by rw [← List.append_assoc, List.length_append, ← HQ2.out]; rfl, by omega, HMM2.out, HAL2.out, HC8.out⟩
              · have hne : (lk != (s : Int)) = true := bne_iff_ne.2 hls
                have HAL2 : Hid (∀ k : Nat, k < pp + 1 → L k = (s : Int) → ((k : Int), (0 : Int)) ∈ A ++ M) := fun k hk hl => by
                  by_cases e : k = pp
                  · rw [e] at hl; exact absurd (HLK.out.trans hl) hls
                  · exact HALL.out k (by omega) hl
                clear hls
                go_wp2_with fail
                rw [← HYE.out]
                go_roundg (n - (pp + 1))
                case measure => have := HGP.out; omega
                case rel => exact ⟨pp + 1, q2, c2, a2, M, by omega, rfl, rfl, by go_num, HQ2.out, by omega, HMM.out, HAL2.out, HCY.out⟩
            · have hpk : n = pp := by omega
              subst hpk
              have hpd : decide (n < n) = false := decide_eq_false (by omega)
              have HBR : Hid (CwP tn n L R I (A ++ M) (markT b s) (i + 1)) := HW.out.bring' (by rw [← HQ.out]; exact hlt) HSV.out.symm hts (fun j => by
                unfold markT
                by_cases e : j = s
                · simp [e]
                · simp [e]) HMM.out HALL.out
              go_wp2_with fail
              go_roundg (unm S (markT b s) * 98 + (q2 - (i + 1)))
              case measure => have h1 := HGK.out; have h2 := HUM.out; omega
              case rel => exact ⟨i + 1, q2, c2, a2, markT b s, A ++ M, rfl, by go_num, HQ2.out, by
                have h1 := HQ2.out
                rw [List.length_append, ← HQ.out] at h1
                omega, rfl, by have h1 := HUB.out; have h2 := HUM.out; omega, HBR.out, HC5.out⟩
    · have hin : q = i := by omega
      subst hin
      have hid : decide (q < q) = false := decide_eq_false (by omega)
      have HMEM : Hid (∀ x, x ∈ A ↔ Clo tn n L R I x) := HW.out.fin (by rw [HQ.out]; exact Nat.le_refl _)
      have HLF : Hid (Calls Tryz.prog 36 #[.slice a' q c'] wr fun e y => LaidTold A wr e y) := by
        have ho := HC.out.own
        rw [HQ.out] at ho ⊢
        exact laid_any a' c' A wr (ItsAt.of ho) (by rw [← HQ.out]; omega)
      clear k0 k1 k2 k3 k4
      go_wp2_with fail
      refine Calls.mono HLF.out ?_
      rintro e w4 ⟨l', h1, h2, h3, a4, c4, rfl, ho4, hg4⟩
      have HIC : Hid (IsClo tn n L R I l') := ⟨h1, fun x => (h2 x).trans (HMEM.out x)⟩
      have HL4 : Hid (l'.length ≤ q) := by rw [HQ.out]; exact h3
      have HG4 : Hid (w.grownBy w4 none) := grown_trans HC.out.grown hg4
      have HO4 : Hid (w4.ownsRow w.heap.size 68 2 (.slice a4 l'.length c4) l'.length (itsV l')) := owns_lowJ ho4 HC.out.grown.size
      obtain ⟨m, hm⟩ : ∃ m, m = l'.length := ⟨_, rfl⟩
      have HM : Hid (m = l'.length) := hm
      rw [← hm]
      clear h1 h2 h3 ho4 hg4 hm HLF HC HW
      go_wp2_with fail
      go_ret
      refine ⟨l', HIC.out, ?_, a4, c4, by rw [← HM.out]; rfl, HO4.out, HG4.out⟩
      have h2 := HL4.out
      have h3 := HUB.out
      rw [← HLE.out]
      omega

end Go.Proofs.YtckgjolaoifgkaaGreat.J

/-
  lr0: the document's from.
-/
namespace Go.Proofs.YtckgjolaoifgkaaGreat.J
open Go.RowKit Go.Maps Go.Shelf

attribute [local go_sem] Oper.semAt_some

theorem kerT_asc {R : Nat → List Int} {l : List It} (h : Asc l) (s : Int) : Asc (kerT R l s) := by
  unfold kerT Asc
  rw [List.pairwise_map]
  refine List.Pairwise.imp ?_ (List.Pairwise.filter _ h)
  intro x y hxy
  unfold ltI at *
  simp only
  omega

set_option maxRecDepth 100000 in
set_option maxHeartbeats 4000000 in
theorem rfrom_any (ta na la pa : Option Addr) (tc nc lc pc : Nat) (n : Nat) (L : Nat → Int) (R : Nat → List Int) (ra : Nat → Option Addr) (rc : Nat → Nat) (V : Nat → Int) (st s : Int) (w : World) (tn nn ln : Nat) (hP : ProdsAt w pa n L R ra rc V) (hRb : ∀ k, k < n → (R k).length ≤ 17592186044416) (a : Option Addr) (cap : Nat) (l : List It) (hl : ItsAt w a l) (hlb : l.length ≤ 8796093035208) (hit : ∀ x ∈ l, itB n R x = true) (hasc : Asc l) :
    Calls Tryz.prog 28 #[.agg #[.slice ta tn tc, .slice na nn nc, .slice la ln lc, .int .i64 st, .slice pa n pc], .int .i64 s, .slice a l.length cap] w fun e y => ItsTold (kerT R l s) w e y := by
  have HAH : Hid (∀ X x, w.grownBy X none → itB n R x = true → Calls Tryz.prog 37 #[.agg #[.slice ta tn tc, .slice na nn nc, .slice la ln lc, .int .i64 st, .slice pa n pc], .agg #[.int .i64 x.1, .int .i64 x.2]] X fun e y => e = .returned (.int .i64 (aheadV R x)) ∧ X.grownBy y none) := fun X x hX hx => rafter_any ta na la pa tc nc lc pc n L R ra rc V st X tn nn ln (prods_kept hP hX) x hx
  have HRB : Hid (∀ x, itB n R x = true → (0 : Int) ≤ x.2 ∧ x.2 ≤ 17592186044416) := fun x hx => by
    unfold itB at hx
    simp only [Bool.and_eq_true, decide_eq_true_eq] at hx
    have := hRb x.1.toNat (by omega)
    omega
  have HIT : Hid (∀ x ∈ l, itB n R x = true) := hit
  have HL : Hid (∀ X, w.grownBy X none → ItsAt X a l) := fun X hX => hl.kept hX
  have HAS : Hid (Asc l) := hasc
  obtain ⟨N, hN⟩ : ∃ m, m = l.length := ⟨_, rfl⟩
  have HN : Hid (N = l.length) := hN
  rw [← hN] at hlb
  rw [← hN]
  have HX0 : Hid (PhAt w (w.alloc (.cells #[.slice ta tn tc, .slice na nn nc, .slice la ln lc, .int .i64 st, .slice pa n pc] 27)) w.heap.size #[.slice ta tn tc, .slice na nn nc, .slice la ln lc, .int .i64 st, .slice pa n pc]) := ⟨World.grownBy_alloc _ _ none, heap_alloc_last w _⟩
  obtain ⟨i0, hi0, hz0, hz1, hz2⟩ := info_parts infoItem
  clear hP hRb hl hit hasc hN
  go_enter Tryz.func28, Tryz.ntmps28
  go_wp2_with fail
  go_loopg [7, 8] N (fun gk v7 v8 wr => ∃ (i q c : Nat) (a' : Option Addr), i ≤ N ∧ gk = N - i ∧ v7 = .slice a' q c ∧ v8 = .int .i64 i ∧ q = (kerT R (l.take i) s).length ∧ q ≤ i ∧ wr.ownsRow w.heap.size 68 2 (.slice a' q c) q (itsV (kerT R (l.take i) s)) ∧ PhAt w wr w.heap.size #[.slice ta tn tc, .slice na nn nc, .slice la ln lc, .int .i64 st, .slice pa n pc])
  case atStart => exact ⟨0, 0, 0, none, Nat.zero_le _, rfl, rfl, rfl, rfl, Nat.le_refl _, World.ownsRow_nil _ _ _ _, HX0.out⟩
  case round =>
    obtain ⟨i, q, c, a', hi, hgi, rfl, rfl, hq, hqi, hO, hPh⟩ := hrel
    have HGI : Hid (gk = N - i) := hgi
    have HQ : Hid (q = (kerT R (l.take i) s).length) := hq
    have HO : Hid (wr.ownsRow w.heap.size 68 2 (.slice a' q c) q (itsV (kerT R (l.take i) s))) := hO
    have HPh : Hid (PhAt w wr w.heap.size #[.slice ta tn tc, .slice na nn nc, .slice la ln lc, .int .i64 st, .slice pa n pc]) := hPh
    clear hgi hq hO hPh HX0
    by_cases hlt : i < N
    · have hi0' : (0 : Int) ≤ (i : Int) := by omega
      have hi1' : (i : Int) < (N : Int) := by omega
      have hid : decide (i < N) = true := decide_eq_true hlt
      have hil : i < l.length := by rw [← HN.out]; exact hlt
      obtain ⟨lb, lo, rfl, HLC⟩ : ∃ lb lo, a = some ⟨lb, lo, none⟩ ∧ Hid (∀ X, w.grownBy X none → X.cell? ⟨lb, lo + i * 2, none⟩ = some (.int .i64 (l.getD i (0, 0)).1) ∧ X.cell? ⟨lb, lo + i * 2 + 1, none⟩ = some (.int .i64 (l.getD i (0, 0)).2)) := by
        obtain ⟨lb, lo, e, _⟩ := (HL.out w (grown_refl _ _)).at hil
        refine ⟨lb, lo, e, fun X hX => ?_⟩
        obtain ⟨lb', lo', e', q1, q2⟩ := (HL.out X hX).at hil
        rw [e] at e'
        cases e'
        exact ⟨q1, q2⟩
      have hmem : l.getD i (0, 0) ∈ l := by rw [List.getD_eq_getElem?_getD, List.getElem?_eq_getElem hil]; exact List.getElem_mem hil
      have hxi := HIT.out _ hmem
      have hdb := HRB.out _ hxi
      have HTK : Hid (kerT R (l.take (i + 1)) s = kerT R (l.take i) s ++ (if aheadV R (l.getD i (0, 0)) = s then [((l.getD i (0, 0)).1, (l.getD i (0, 0)).2 + 1)] else [])) := by show _ = _; rw [take_at hil, kerT_append, kerT_one]
      have HAC : Hid (∀ X, wr.grownBy X none → Calls Tryz.prog 37 #[.agg #[.slice ta tn tc, .slice na nn nc, .slice la ln lc, .int .i64 st, .slice pa n pc], .agg #[.int .i64 (l.getD i (0, 0)).1, .int .i64 (l.getD i (0, 0)).2]] X fun e y => e = .returned (.int .i64 (aheadV R (l.getD i (0, 0)))) ∧ X.grownBy y none) := fun X hX => HAH.out X _ (grown_trans HPh.out.grown hX) hxi
      obtain ⟨sv, hsv⟩ : ∃ s, s = aheadV R (l.getD i (0, 0)) := ⟨_, rfl⟩
      rw [← hsv] at HAC HTK
      obtain ⟨x, hx⟩ : ∃ x, x = l.getD i (0, 0) := ⟨_, rfl⟩
      rw [← hx] at HAC HLC HTK hdb
      clear hsv hx hxi hmem hil
      obtain ⟨p, d⟩ := x
      simp only at HAC HLC HTK hdb
      obtain ⟨d2, hd2⟩ : ∃ d2 : Nat, d = (d2 : Int) := ⟨d.toNat, by omega⟩
      subst hd2
      have hd3 : d2 ≤ 17592186044416 := by omega
      have HUP : Hid (wr.grownBy wr.drew none) := grown_drewN wr 1
      have HKS : Hid (∀ Y, wr.grownBy Y none → (Y.cell? ⟨w.heap.size, 0, none⟩ = some (.slice ta tn tc) ∧ Y.cell? ⟨w.heap.size, 1, none⟩ = some (.slice na nn nc) ∧ Y.cell? ⟨w.heap.size, 2, none⟩ = some (.slice la ln lc) ∧ Y.cell? ⟨w.heap.size, 3, none⟩ = some (.int .i64 st) ∧ Y.cell? ⟨w.heap.size, 4, none⟩ = some (.slice pa n pc)) ∧ Y.cell? ⟨lb, lo + i * 2, none⟩ = some (.int .i64 p) ∧ Y.cell? ⟨lb, lo + i * 2 + 1, none⟩ = some (.int .i64 (d2 : Int))) := fun Y hY => ⟨(HPh.out.kept hY).cells, (HLC.out Y (grown_trans HPh.out.grown hY)).1, (HLC.out Y (grown_trans HPh.out.grown hY)).2⟩
      clear hdb
      go_wp2_with fail
      go_region_held3 (fun Y => (Y.cell? ⟨w.heap.size, 0, none⟩ = some (.slice ta tn tc) ∧ Y.cell? ⟨w.heap.size, 1, none⟩ = some (.slice na nn nc) ∧ Y.cell? ⟨w.heap.size, 2, none⟩ = some (.slice la ln lc) ∧ Y.cell? ⟨w.heap.size, 3, none⟩ = some (.int .i64 st) ∧ Y.cell? ⟨w.heap.size, 4, none⟩ = some (.slice pa n pc)) ∧ Y.cell? ⟨lb, lo + i * 2, none⟩ = some (.int .i64 p) ∧ Y.cell? ⟨lb, lo + i * 2 + 1, none⟩ = some (.int .i64 (d2 : Int))) (first | exact HKS.out _ HUP.out | exact HKS.out _ HG4.out | go_keep)
        ((first
          | (go_at_call 37; refine Calls.mono (HAC.out _ HUP.out) ?_; rintro e w4 ⟨rfl, hg4⟩; have HG4 : Hid (wr.grownBy w4 none) := grown_trans HUP.out hg4; clear hg4)
          | fail))
      have HP4 : Hid (PhAt w w4 w.heap.size #[.slice ta tn tc, .slice na nn nc, .slice la ln lc, .int .i64 st, .slice pa n pc]) := HPh.out.kept HG4.out
      have HO4 : Hid (∀ X, w4.grownBy X none → X.ownsRow w.heap.size 68 2 (.slice a' q c) q (itsV (kerT R (l.take i) s))) := fun X hX => keep0 HO.out (grown_trans HG4.out hX)
      clear HKS HUP HAC HPh HO
      by_cases hse : sv = s
      · have he : (sv == s) = true := beq_iff_eq.2 hse
        have HT2 : Hid (kerT R (l.take (i + 1)) s = kerT R (l.take i) s ++ [(p, (d2 : Int) + 1)]) := by show _ = _; rw [HTK.out, if_pos hse]
        have hwr : IntKind.i64.wrap ((d2 : Int) + 1) = (d2 : Int) + 1 := by rw [IntKind.wrap_i64]; omega
        have y0 := (HLC.out w4 HP4.out.grown).1
        have y1 := (HLC.out w4 HP4.out.grown).2
        have HSZ : Hid (∀ X, w4.grownBy X none → w.heap.size ≤ X.heap.size) := fun X hX => (grown_trans HP4.out.grown hX).size
        have HFI : Hid (∀ (Y Z : World) (v : Value), w4.grownBy Y none → Y.grownBy Z (Value.slice a' q c).ownBlock → Z.ownsRow w.heap.size 68 2 v (q + 1) (itsV (kerT R (l.take i) s) ++ [.int .i64 p, .int .i64 ((d2 : Int) + 1)]) → Z.ownsRow w.heap.size 68 2 v (q + 1) (itsV (kerT R (l.take (i + 1)) s)) ∧ PhAt w Z w.heap.size #[.slice ta tn tc, .slice na nn nc, .slice la ln lc, .int .i64 st, .slice pa n pc]) := fun Y Z v hY hg ho => by
          refine ⟨by rw [HT2.out, itsV_append]; exact ho, grown_row (HP4.out.kept hY).grown (HO4.out Y hY) (Nat.le_refl _) hg, ?_⟩
          have hb := (HP4.out.kept hY).box
          refine (hg.block _ (Array.getElem?_eq_some_iff.1 hb).1 ?_).trans hb
          rcases owns_nebox (HO4.out Y hY) hb (by decide) with h1 | h1
          · rw [h1]; simp
          · exact fun h2 => h1 h2.symm
        obtain ⟨xs, hxs⟩ : ∃ xs, xs = itsV (kerT R (l.take i) s) := ⟨_, rfl⟩
        rw [← hxs] at HO4 HFI
        clear hse hxs
        go_wp2_with fail
        go_region_law (first
          | (refine step_append_liesW _ rfl (.tmp 23) (.tmp 36) 69 rfl w.heap.size 68 i0 (.agg #[.int .i64 0, .int .i64 0]) 2 16 Tryz.underlying69 hi0 hz0 hz1 hz2 rfl (by decide) (.slice a' q c) q xs (by simp [Act.eval]) (HO4.out _ (grown_trans (World.grownBy_alloc _ _ none) (grown_drewN _ 1))) ⟨w4.heap.size, 0, none⟩ 1 1 [.int .i64 p, .int .i64 ((d2 : Int) + 1)] (by simp [Act.eval]) rfl (World.news_of_block (heap_alloc_last w4 _)) (by simp [Value.oneCell']) (by decide) (by unfold maxLen; omega) (by omega) (HSZ.out _ (grown_trans (World.grownBy_alloc _ _ none) (grown_drewN _ 1))) ?_; intro g7 c7 wB hoB hgB _; have HQ1 := show Hid _ from HFI.out _ wB _ (grown_trans (World.grownBy_alloc _ _ none) (grown_drewN _ 1)) hgB hoB; clear hoB hgB)
          | fail)
        all_goals go_wp2_with fail
        all_goals go_roundg (N - (i + 1))
        all_goals first
          | exact ⟨i + 1, q + 1, c7, _, by omega, rfl, rfl, by go_num, by rw [HT2.out, List.length_append, ← HQ.out]; rfl, by omega, HQ1.out.1, HQ1.out.2⟩
          | (have := HGI.out; omega)
      · have he : (sv == s) = false := beq_eq_false_iff_ne.2 hse
        have HT2 : Hid (kerT R (l.take (i + 1)) s = kerT R (l.take i) s) := by show _ = _; rw [HTK.out, if_neg hse, List.append_nil]
        clear hse
        go_wp2_with fail
        go_roundg (N - (i + 1))
        case measure => have := HGI.out; omega
        case rel => exact ⟨i + 1, q, c, a', by omega, rfl, rfl, by go_num, by rw [HT2.out]; exact HQ.out, by omega, by rw [HT2.out]; exact HO4.out _ (grown_refl _ _), HP4.out⟩
    · have hin : N = i := by omega
      subst hin
      have hid : decide (N < N) = false := decide_eq_false (by omega)
      have HTL : Hid (l.take N = l) := by show _ = _; rw [HN.out]; exact List.take_length
      rw [HTL.out] at HO HQ
      have HLA : Hid (Calls Tryz.prog 36 #[.slice a' q c] wr fun e y => LaidTold (kerT R l s) wr e y) := by
        have ho := HO.out
        rw [HQ.out] at ho ⊢
        exact laid_any a' c (kerT R l s) wr (ItsAt.of ho) (by rw [← HQ.out]; omega)
      go_wp2_with fail
      refine Calls.mono HLA.out ?_
      rintro e w5 ⟨l', h1, h2, h3, a5, c5, rfl, ho5, hg5⟩
      have HE : Hid (l' = kerT R l s) := h1.unique (kerT_asc HAS.out s) h2
      have HO5 : Hid (w5.ownsRow w.heap.size 68 2 (.slice a5 l'.length c5) l'.length (itsV l')) := owns_lowJ ho5 HPh.out.grown.size
      have HG5 : Hid (w.grownBy w5 none) := grown_trans HPh.out.grown hg5
      obtain ⟨m, hm⟩ : ∃ m, m = l'.length := ⟨_, rfl⟩
      have HM : Hid (m = l'.length) := hm
      rw [← hm]
      clear h1 h2 h3 ho5 hg5 hm HLA
      go_wp2_with fail
      go_ret
      exact ⟨a5, c5, by rw [← HE.out, ← HM.out]; rfl, by rw [← HE.out]; exact HO5.out, HG5.out⟩

end Go.Proofs.YtckgjolaoifgkaaGreat.J

/-
  lr0: the document's asked and Behind.
-/
namespace Go.Proofs.YtckgjolaoifgkaaGreat.J
open Go.RowKit Go.Maps Go.Shelf

attribute [local go_sem] Oper.semAt_some

section
variable (ta na la pa : Option Addr) (tc nc lc pc : Nat) (ts : List (ByteArray × Int)) (ns : List ByteArray) (lv : List Int) (n : Nat) (L : Nat → Int) (R : Nat → List Int) (ra : Nat → Option Addr) (rc : Nat → Nat) (V : Nat → Int) (st : Int) (w : World) (tn nn ln : Nat) (hlen : ts.length = tn ∧ ns.length = nn ∧ lv.length = ln) (hG : GAt w ta na la pa tc nc lc pc ts ns lv n L R ra rc V) (a : Option Addr) (cap : Nat) (I : List It) (hI : ItsAt w a I)
include hlen hG hI
end

/-- What Behind tells. -/
def BehTold (tn n : Nat) (L : Nat → Int) (R : Nat → List Int) (I : List It) (s : Int) (w : World) (e : Ending) (y : World) : Prop := ∃ l, IsClo tn n L R I l ∧ l.length ≤ I.length + 13000 ∧ ItsTold (kerT R l s) w e y

end Go.Proofs.YtckgjolaoifgkaaGreat.J

/-
  lr0: the document's Closure and Goto.
-/
namespace Go.Proofs.YtckgjolaoifgkaaGreat.J
open Go.RowKit Go.Maps Go.Shelf

attribute [local go_sem] Oper.semAt_some

section
variable (ta na la pa : Option Addr) (tc nc lc pc : Nat) (ts : List (ByteArray × Int)) (ns : List ByteArray) (lv : List Int) (n : Nat) (L : Nat → Int) (R : Nat → List Int) (ra : Nat → Option Addr) (rc : Nat → Nat) (V : Nat → Int) (st : Int) (w : World) (tn nn ln : Nat) (hlen : ts.length = tn ∧ ns.length = nn ∧ lv.length = ln) (hG : GAt w ta na la pa tc nc lc pc ts ns lv n L R ra rc V) (a : Option Addr) (cap : Nat) (I : List It) (hI : ItsAt w a I)
include hlen hG hI
end

end Go.Proofs.YtckgjolaoifgkaaGreat.J

/-
  A region of a function as a declaration of its own.
-/
namespace Go.Proofs.YtckgjolaoifgkaaGreat.J
open Go.RowKit Go.Maps Go.Shelf

/-- The regions of a number. -/
def regionsJ (n : Nat) : Code → List Code
  | .region i ops b => if i = n then [.region i ops b] else []
  | .loop c => regionsJ n c
  | .seq a b => regionsJ n a ++ regionsJ n b
  | .block _ c => regionsJ n c
  | .scope c => regionsJ n c
  | .cond _ a b => regionsJ n a ++ regionsJ n b
  | _ => []
/-- The loops of a piece of code, the outer ahead of the inner. -/
def loopsJ : Code → List Code
  | .loop c => .loop c :: loopsJ c
  | .seq a b => loopsJ a ++ loopsJ b
  | .block _ c => loopsJ c
  | .scope c => loopsJ c
  | .cond _ a b => loopsJ a ++ loopsJ b
  | _ => []
def OnEndJ (P : Act → World → Prop) : Exit → Act → World → Prop
  | .normal, a, w => P a w
  | _, _, _ => False

end Go.Proofs.YtckgjolaoifgkaaGreat.J

/-
  Lists of numbers that are the same.
-/
namespace Go.Proofs.YtckgjolaoifgkaaGreat.J
open Go.RowKit Go.Maps Go.Shelf

attribute [local go_sem] Oper.semAt_some

/-- Lists of numbers in memory. -/
def LsAt (X : World) (a : Option Addr) (N : Nat) (Q : Nat → List Int) (ua : Nat → Option Addr) (uc : Nat → Nat) : Prop := (N = 0 ∨ ∃ k, a = some ⟨k, 0, none⟩ ∧ ∀ i, i < N → X.cell? ⟨k, i, none⟩ = some (.slice (ua i) (Q i).length (uc i))) ∧ ∀ i, i < N → IntsAt X (ua i) (Q i)
theorem LsAt.kept {X Y : World} {a : Option Addr} {N : Nat} {Q : Nat → List Int} {ua : Nat → Option Addr} {uc : Nat → Nat} (h : LsAt X a N Q ua uc) (hg : X.grownBy Y none) : LsAt Y a N Q ua uc := by
  refine ⟨?_, fun i hi => (h.2 i hi).kept hg⟩
  rcases h.1 with h | ⟨k, e, h1⟩
  · exact .inl h
  · exact .inr ⟨k, e, fun i hi => hg.cell (h1 i hi) (by simp)⟩


set_option maxRecDepth 100000 in
theorem ints_same (a1 a2 : Option Addr) (c1 c2 : Nat) (l : List Int) (w : World) (h1 : IntsAt w a1 l) (h2 : IntsAt w a2 l) (hn : l.length ≤ 17592186044416) :
    Calls Tryz.prog 20 #[.slice a1 l.length c1, .slice a2 l.length c2] w fun e y => e = .returned (.bool true) ∧ w.grownBy y none := by
  have H1 : Hid (∀ X, w.grownBy X none → IntsAt X a1 l ∧ IntsAt X a2 l) := fun X hX => ⟨h1.kept hX, h2.kept hX⟩
  obtain ⟨n, he⟩ : ∃ n, n = l.length := ⟨_, rfl⟩
  have HE : Hid (n = l.length) := he
  rw [← he] at hn
  rw [← he]
  have hnn : ((n : Int) != (n : Int)) = false := bne_self_eq_false _
  clear h1 h2 he
  go_enter Tryz.func20, Tryz.ntmps20
  go_wp2_with fail
  go_loopg [5] n (fun gk v5 wr => ∃ (j : Nat), j ≤ n ∧ gk = n - j ∧ v5 = .int .i64 j ∧ w.grownBy wr none)
  case atStart => exact ⟨0, Nat.zero_le _, rfl, rfl, grown_refl _ _⟩
  case round =>
    obtain ⟨j, hj, hgj, rfl, hg⟩ := hrel
    have HGJ : Hid (gk = n - j) := hgj
    have HG : Hid (w.grownBy wr none) := hg
    clear hgj hg
    by_cases hjl : j < n
    · have hjl2 : j < l.length := by rw [← HE.out]; exact hjl
      obtain ⟨ab, ao, rfl, hc1⟩ : ∃ ab ao, a1 = some ⟨ab, ao, none⟩ ∧ wr.cell? ⟨ab, ao + j, none⟩ = some (.int .i64 (l.getD j 0)) := by
        rcases (H1.out wr HG.out).1 with h | ⟨ab, ao, e, h⟩
        · rw [h] at hjl2; cases hjl2
        · exact ⟨ab, ao, e, h j hjl2⟩
      obtain ⟨bb, bo, rfl, hc2⟩ : ∃ ab ao, a2 = some ⟨ab, ao, none⟩ ∧ wr.cell? ⟨ab, ao + j, none⟩ = some (.int .i64 (l.getD j 0)) := by
        rcases (H1.out wr HG.out).2 with h | ⟨ab, ao, e, h⟩
        · rw [h] at hjl2; cases hjl2
        · exact ⟨ab, ao, e, h j hjl2⟩
      obtain ⟨x, hx⟩ : ∃ x, x = l.getD j 0 := ⟨_, rfl⟩
      rw [← hx] at hc1 hc2
      have hxx : (x != x) = false := bne_self_eq_false _
      have hj0 : (0 : Int) ≤ (j : Int) := by omega
      have hj1 : (j : Int) < (n : Int) := by omega
      have hjd : decide (j < n) = true := decide_eq_true hjl
      clear hx
      go_wp2_with fail
      go_quiet (fail)
      go_wp2_with fail
      go_roundg (n - (j + 1))
      case measure => have := HGJ.out; omega
      case rel => exact ⟨j + 1, by omega, rfl, by go_num, by first | exact HG.out | exact grown_trans HG.out (grown_drewN _ _)⟩
    · have hjn : n = j := by omega
      subst hjn
      have hjd : decide (n < n) = false := decide_eq_false (by omega)
      go_wp2_with fail
      go_ret
      exact ⟨rfl, HG.out⟩


set_option maxRecDepth 100000 in
theorem lists_same (a1 a2 : Option Addr) (c1 c2 n : Nat) (Q : Nat → List Int) (u1 u2 : Nat → Option Addr) (k1 k2 : Nat → Nat) (w : World) (h1 : LsAt w a1 n Q u1 k1) (h2 : LsAt w a2 n Q u2 k2) (hn : n ≤ 1000000) (hQ : ∀ i, (Q i).length ≤ 1024) :
    Calls Tryz.prog 10 #[.slice a1 n c1, .slice a2 n c2] w fun e y => e = .returned (.bool true) ∧ w.grownBy y none := by
  have H1 : Hid (∀ X, w.grownBy X none → LsAt X a1 n Q u1 k1 ∧ LsAt X a2 n Q u2 k2) := fun X hX => ⟨h1.kept hX, h2.kept hX⟩
  have HQ : Hid (∀ i, (Q i).length ≤ 1024) := hQ
  have hnn : ((n : Int) != (n : Int)) = false := bne_self_eq_false _
  clear h1 h2 hQ
  go_enter Tryz.func10, Tryz.ntmps10
  go_wp2_with fail
  go_loopg [5] n (fun gk v5 wr => ∃ (j : Nat), j ≤ n ∧ gk = n - j ∧ v5 = .int .i64 j ∧ w.grownBy wr none)
  case atStart => exact ⟨0, Nat.zero_le _, rfl, rfl, grown_refl _ _⟩
  case round =>
    obtain ⟨j, hj, hgj, rfl, hg⟩ := hrel
    have HGJ : Hid (gk = n - j) := hgj
    have HG : Hid (w.grownBy wr none) := hg
    clear hgj hg
    by_cases hjl : j < n
    · obtain ⟨ab, rfl, hc1⟩ : ∃ ab, a1 = some ⟨ab, 0, none⟩ ∧ wr.cell? ⟨ab, j, none⟩ = some (.slice (u1 j) (Q j).length (k1 j)) := by
        rcases (H1.out wr HG.out).1.1 with h | ⟨k, e, h⟩
        · omega
        · exact ⟨k, e, h j hjl⟩
      obtain ⟨bb, rfl, hc2⟩ : ∃ ab, a2 = some ⟨ab, 0, none⟩ ∧ wr.cell? ⟨ab, j, none⟩ = some (.slice (u2 j) (Q j).length (k2 j)) := by
        rcases (H1.out wr HG.out).2.1 with h | ⟨k, e, h⟩
        · omega
        · exact ⟨k, e, h j hjl⟩
      have HIN : Hid (∀ X, wr.grownBy X none → Calls Tryz.prog 20 #[.slice (u1 j) (Q j).length (k1 j), .slice (u2 j) (Q j).length (k2 j)] X fun e y => e = .returned (.bool true) ∧ X.grownBy y none) := fun X hX => ints_same _ _ _ _ (Q j) X (((H1.out wr HG.out).1.2 j hjl).kept hX) (((H1.out wr HG.out).2.2 j hjl).kept hX) (Nat.le_trans (HQ.out j) (by decide))
      obtain ⟨ql, hql⟩ : ∃ q, q = (Q j).length := ⟨_, rfl⟩
      rw [← hql] at HIN hc1 hc2
      have hj0 : (0 : Int) ≤ (j : Int) := by omega
      have hj1 : (j : Int) < (n : Int) := by omega
      have hjd : decide (j < n) = true := decide_eq_true hjl
      clear hql
      go_wp2_with fail
      have HUP : Hid (wr.grownBy wr.drew none) := grown_drewN wr 1
      have HKS : Hid (∀ X, wr.grownBy X none → X.cell? ⟨ab, j, none⟩ = some (.slice (u1 j) ql (k1 j)) ∧ X.cell? ⟨bb, j, none⟩ = some (.slice (u2 j) ql (k2 j))) := fun X hX => ⟨hX.cell hc1 (by simp), hX.cell hc2 (by simp)⟩
      go_region_held3 (fun X => X.cell? ⟨ab, j, none⟩ = some (.slice (u1 j) ql (k1 j)) ∧ X.cell? ⟨bb, j, none⟩ = some (.slice (u2 j) ql (k2 j))) (first | exact HKS.out _ HUP.out | exact HKS.out _ HG4.out | go_keep)
        ((first
          | (go_at_call 20; refine Calls.mono (HIN.out _ HUP.out) ?_; rintro e w3 ⟨rfl, hg3⟩; have HG4 : Hid (wr.grownBy w3 none) := grown_trans HUP.out hg3; clear hg3)
          | fail))
      have HG3 : Hid (w.grownBy w3 none) := grown_trans HG.out HG4.out
      clear hc1 hc2 HIN
      go_wp2_with fail
      go_roundg (n - (j + 1))
      case measure => have := HGJ.out; omega
      case rel => exact ⟨j + 1, by omega, rfl, by go_num, HG3.out⟩
    · have hjn : n = j := by omega
      subst hjn
      have hjd : decide (n < n) = false := decide_eq_false (by omega)
      go_wp2_with fail
      go_ret
      exact ⟨rfl, HG.out⟩


end Go.Proofs.YtckgjolaoifgkaaGreat.J
