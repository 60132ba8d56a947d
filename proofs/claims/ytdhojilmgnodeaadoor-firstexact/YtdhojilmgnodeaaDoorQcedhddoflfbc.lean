import Derived.Test.YtdhojilmgnodeaaDoorQofghngminfbk

/-
  first: the document's Table.
-/
namespace Go.Proofs.YtdhojilmgnodeaaDoor
open Go.RowKit Go.Maps Go.Shelf

attribute [local go_sem] Oper.semAt_some

theorem upd_self (m : Nat → Nat) (k : Nat) : upd m k (m k) = m := by
  funext i
  unfold upd
  split
  · rename_i h; rw [h]
  · rfl
theorem infoBools : (Tryd.prog.info? 30).map (fun i => (i.zero, i.size, i.bytes)) = some (some (.slice none 0 0), 1, 24) := by kernel_rfl
/-- What each symbol begins with at first. -/
def mSt (tn : Nat) : Nat → Nat := fun i => if i < tn then 2 ^ i else 0

/-- The answer of Table. -/
def TableTold (g0 g1 g2 g3 g4 : Value) (tn nn n : Nat) (L : Nat → Int) (R : Nat → List Int) (v : Nat) (w : World) (e : Ending) (y : World) : Prop :=
  ∃ (kb nb hb hc : Nat) (rb m : Nat → Nat), e = .returned (.pointer (some ⟨kb, 0, none⟩)) ∧ TbAt w y g0 g1 g2 g3 g4 kb nb nn tn (tn + nn) (fun i => v.testBit (tn + i)) (.slice (some ⟨hb, 0, none⟩) (tn + nn) hc) rb m ∧ Found tn n L R v m ∧ ∀ i, i < tn + nn → m i < 2 ^ tn

set_option maxRecDepth 100000 in
set_option maxHeartbeats 2000000 in
theorem rtable_any (ta na la : Option Addr) (tn nn ln n tc nc lc pc bp op : Nat) (st : Int) (L : Nat → Int) (R : Nat → List Int) (ra : Nat → Option Addr) (rc : Nat → Nat) (w : World) (hz : tn + nn ≤ 1024) (hn : n ≤ 1000) (h0 : 0 < nn)
    (hP : ∀ k, k < n → w.cell? ⟨bp, op + k * 3, none⟩ = some (.int .i64 (L k)) ∧ w.cell? ⟨bp, op + k * 3 + 1, none⟩ = some (.slice (ra k) (R k).length (rc k)) ∧ IntsAt w (ra k) (R k) ∧ (R k).length ≤ 17592186044416)
    (hL : ∀ k, k < n → (tn : Int) ≤ L k ∧ L k < ((tn + nn : Nat) : Int)) (hR : ∀ k, k < n → ∀ x ∈ R k, (0 : Int) ≤ x ∧ x < ((tn + nn : Nat) : Int)) (v : Nat) (hv : ∀ i : Nat, v.testBit i = true ↔ Nul n L R (i : Int)) :
    Calls Tryd.prog 33 #[.agg #[.slice ta tn tc, .slice na nn nc, .slice la ln lc, .int .i64 st, .slice (some ⟨bp, op, none⟩) n pc]] w fun e y => TableTold (.slice ta tn tc) (.slice na nn nc) (.slice la ln lc) (.int .i64 st) (.slice (some ⟨bp, op, none⟩) n pc) tn nn n L R v w e y := by
  have HNU : Hid (∀ X, w.grownBy X none → Calls Tryd.prog 31 #[.agg #[.slice ta tn tc, .slice na nn nc, .slice la ln lc, .int .i64 st, .slice (some ⟨bp, op, none⟩) n pc]] X fun e y => ∃ k, e = .returned (.slice (some ⟨k, 0, none⟩) nn nn) ∧ X.heap.size ≤ k ∧ ValAt y k nn 4 (fun i => .bool (v.testBit (tn + i))) ∧ X.grownBy y none) := fun X hX => rnull_any ta na la tn nn ln n tc nc lc pc bp op st L R ra rc X hz hn (fun k hk => ⟨hX.cell (hP k hk).1 (by simp), hX.cell (hP k hk).2.1 (by simp), (hP k hk).2.2.1.kept hX, (hP k hk).2.2.2⟩) hL hR _ (fun i => hv (tn + i))
  have HSY : Hid (∀ X, Calls Tryd.prog 25 #[.agg #[.slice ta tn tc, .slice na nn nc, .slice la ln lc, .int .i64 st, .slice (some ⟨bp, op, none⟩) n pc]] X fun e y => e = .returned (.int .i64 ((tn : Int) + nn)) ∧ X.grownBy y none) := fun X => symbols_any ta na la _ tn nn ln n tc nc lc pc st X (by omega) (by omega)
  obtain ⟨Y, hY⟩ : ∃ Y, Y = w.alloc (.cells #[.slice ta tn tc, .slice na nn nc, .slice la ln lc, .int .i64 st, .slice (some ⟨bp, op, none⟩) n pc] 27) := ⟨_, rfl⟩
  have HY := show Hid _ from hY
  have HX0 : Hid (PhAt w Y w.heap.size #[.slice ta tn tc, .slice na nn nc, .slice la ln lc, .int .i64 st, .slice (some ⟨bp, op, none⟩) n pc]) := by rw [hY]; exact ⟨World.grownBy_alloc _ _ none, heap_alloc_last w _⟩
  have HYS : Hid (Y.heap.size = w.heap.size + 1) := by rw [hY]; show _ = _; simp
  obtain ⟨i0, hi0, hz0, hz1, hz2⟩ := info_parts infoBoolK
  obtain ⟨i1, hi1, hy0, hy1, hy2⟩ := info_parts infoBools
  have HUP : Hid (Y.grownBy Y.drew none) := grown_drewN Y 1
  have HKS : Hid (∀ x, Y.grownBy x none → x.cell? ⟨w.heap.size, 0, none⟩ = some (.slice ta tn tc) ∧ x.cell? ⟨w.heap.size, 1, none⟩ = some (.slice na nn nc) ∧ x.cell? ⟨w.heap.size, 2, none⟩ = some (.slice la ln lc) ∧ x.cell? ⟨w.heap.size, 3, none⟩ = some (.int .i64 st) ∧ x.cell? ⟨w.heap.size, 4, none⟩ = some (.slice (some ⟨bp, op, none⟩) n pc)) := fun x hx => (HX0.out.kept hx).cells
  have HP : Hid (∀ k, k < n → ∀ X, w.grownBy X none → X.cell? ⟨bp, op + k * 3, none⟩ = some (.int .i64 (L k)) ∧ X.cell? ⟨bp, op + k * 3 + 1, none⟩ = some (.slice (ra k) (R k).length (rc k)) ∧ IntsAt X (ra k) (R k)) := fun k hk X hX => ⟨hX.cell (hP k hk).1 (by simp), hX.cell (hP k hk).2.1 (by simp), (hP k hk).2.2.1.kept hX⟩
  have HL : Hid (∀ k, k < n → (tn : Int) ≤ L k ∧ L k < ((tn + nn : Nat) : Int)) := hL
  have HRR : Hid (∀ k, k < n → (∀ x ∈ R k, (0 : Int) ≤ x ∧ x < ((tn + nn : Nat) : Int)) ∧ (R k).length ≤ 17592186044416) := fun k hk => ⟨hR k hk, (hP k hk).2.2.2⟩
  have HVV : Hid (∀ i : Nat, v.testBit i = true ↔ Nul n L R (i : Int)) := hv
  clear hP hL hR hv hY
  go_enter Tryd.func33, Tryd.ntmps33
  go_wp2_with fail
  rw [← HY.out]
  go_cut [3] from 9 to 13 (fun v3 wx => ∃ kb nb, v3 = .pointer (some ⟨kb, 0, none⟩) ∧ TbAt w wx (.slice ta tn tc) (.slice na nn nc) (.slice la ln lc) (.int .i64 st) (.slice (some ⟨bp, op, none⟩) n pc) kb nb nn tn 0 (fun i => v.testBit (tn + i)) (.slice none 0 0) (fun _ => 0) (mSt tn))
  case first =>
    go_region_held3 (fun x => x.cell? ⟨w.heap.size, 0, none⟩ = some (.slice ta tn tc) ∧ x.cell? ⟨w.heap.size, 1, none⟩ = some (.slice na nn nc) ∧ x.cell? ⟨w.heap.size, 2, none⟩ = some (.slice la ln lc) ∧ x.cell? ⟨w.heap.size, 3, none⟩ = some (.int .i64 st) ∧ x.cell? ⟨w.heap.size, 4, none⟩ = some (.slice (some ⟨bp, op, none⟩) n pc)) (first | exact HKS.out _ HUP.out | exact HKS.out _ HG7.out | exact HKS.out _ (grown_trans HG7.out (grown_drewN _ 1)) | exact HKS.out _ (grown_trans HG7.out (World.grownBy_alloc _ _ none)) | go_keep)
      ((first
        | (go_at_call 31; refine Calls.mono (HNU.out _ (by first | exact grown_trans HX0.out.grown HUP.out | exact HX0.out.grown | exact grown_trans HX0.out.grown (grown_drewN _ _))) ?_; rintro e w7 ⟨nb, rfl, hk7, hv7, hg7⟩; have HG7 : Hid (Y.grownBy w7 none) := (by first | exact grown_trans HUP.out hg7 | exact hg7 | exact grown_trans (grown_drewN _ _) hg7); have HN7 : Hid (w.heap.size < nb ∧ ValAt w7 nb nn 4 (fun i => .bool (v.testBit (tn + i)))) := ⟨by have := HYS.out; have h8 : Y.heap.size ≤ nb := hk7; omega, hv7⟩; clear hg7 hk7 hv7)
        | fail))
    all_goals go_wp2_with fail
    all_goals go_meet
    all_goals first
      | exact ⟨_, nb, rfl, tb_made (HX0.out.kept HG7.out).grown (HX0.out.kept HG7.out).box HN7.out.2 HN7.out.1 tn _ _⟩
      | exact ⟨_, nb, rfl, tb_made (HX0.out.kept (grown_trans HG7.out (grown_drewN _ _))).grown (HX0.out.kept (grown_trans HG7.out (grown_drewN _ _))).box (HN7.out.2.kept (grown_drewN _ _)) HN7.out.1 tn _ _⟩
      | exact ⟨_, nb, rfl, (tb_made (HX0.out.kept HG7.out).grown (HX0.out.kept HG7.out).box HN7.out.2 HN7.out.1 tn _ _).kept (grown_drewN _ _)⟩
  case rest =>
    obtain ⟨kb, nb, rfl, hT⟩ := hcut
    have HT0 : Hid (TbAt w wc (.slice ta tn tc) (.slice na nn nc) (.slice la ln lc) (.int .i64 st) (.slice (some ⟨bp, op, none⟩) n pc) kb nb nn tn 0 (fun i => v.testBit (tn + i)) (.slice none 0 0) (fun _ => 0) (mSt tn)) := hT
    clear hT HNU HUP HKS HX0 HYS HY
    obtain ⟨S, hS⟩ : ∃ S, S = tn + nn := ⟨_, rfl⟩
    have HSE : Hid (S = tn + nn) := hS
    go_wp2_with fail
    go_loopg [4] S (fun gk v4 wr => ∃ (k : Nat) (hs : Value) (rb : Nat → Nat), k ≤ S ∧ gk = S - k ∧ v4 = .int .i64 k ∧ (TbAt w wr (.slice ta tn tc) (.slice na nn nc) (.slice la ln lc) (.int .i64 st) (.slice (some ⟨bp, op, none⟩) n pc) kb nb nn tn k (fun i => v.testBit (tn + i)) hs rb (mSt tn)))
    case atStart => exact ⟨0, _, _, Nat.zero_le _, rfl, rfl, HT0.out⟩
    case round =>
      obtain ⟨k, hs, rb, hk, hgk, rfl, hT⟩ := hrel
      have HGK : Hid (gk = S - k) := hgk
      have HT : Hid (TbAt w wr (.slice ta tn tc) (.slice na nn nc) (.slice la ln lc) (.int .i64 st) (.slice (some ⟨bp, op, none⟩) n pc) kb nb nn tn k (fun i => v.testBit (tn + i)) hs rb (mSt tn)) := hT
      clear hgk hT HT0
      obtain ⟨k0, k1, k2, k3, k4⟩ := HT.out.ph.cells
      go_wp2_with fail
      refine Calls.mono (HSY.out _) ?_
      rintro e w2 ⟨rfl, hg2⟩
      have HT2 : Hid (TbAt w w2 (.slice ta tn tc) (.slice na nn nc) (.slice la ln lc) (.int .i64 st) (.slice (some ⟨bp, op, none⟩) n pc) kb nb nn tn k (fun i => v.testBit (tn + i)) hs rb (mSt tn)) := HT.out.kept hg2
      clear hg2 k0 k1 k2 k3 k4 HT
      obtain ⟨k0, k1, k2, k3, k4⟩ := HT2.out.ph.cells
      by_cases hlt : k < S
      · have hkd : decide ((k : Int) < (tn : Int) + (nn : Int)) = true := decide_eq_true (by omega)
        have hkd2 : decide (k < tn + nn) = true := decide_eq_true (by omega)
        go_wp2_with (at_make; refine wpList_make_full _ rfl _ _ 30 rfl w2.heap.size 4 i0 (.bool false) 1 Tryd.underlying30 hi0 hz0 hz1 .i64 .i64 _ _ tn rfl rfl (by simp) (by simp) (by rw [hz2]; omega) (by unfold maxLen; omega) (by simp) ?_)
        intro w3 hown hgrow
        have hval : ValAt w3 w2.heap.size tn 4 (fun _ => .bool false) := made_rowK rfl (by simpa [Value.cells] using hown)
        have HT3 : Hid (TbAt w w3 (.slice ta tn tc) (.slice na nn nc) (.slice la ln lc) (.int .i64 st) (.slice (some ⟨bp, op, none⟩) n pc) kb nb nn tn k (fun i => v.testBit (tn + i)) hs rb (mSt tn)) := HT2.out.kept hgrow
        have HRN : Hid (kb < w2.heap.size ∧ ∀ i, i < k → rb i ≠ w2.heap.size) := ⟨(Array.getElem?_eq_some_iff.1 HT2.out.box).1, fun i hi => Nat.ne_of_lt (HT2.out.rows i hi).lt⟩
        obtain ⟨r, hr⟩ : ∃ r, r = w2.heap.size := ⟨_, rfl⟩
        rw [← hr] at hval HRN
        rw [← hr]
        have HV3 : Hid (ValAt w3 r tn 4 (fun _ => .bool false)) := hval
        clear hown hgrow hval hr HT2 k0 k1 k2 k3 k4
        have HFIN : Hid (∀ X4, (TbAt w X4 (.slice ta tn tc) (.slice na nn nc) (.slice la ln lc) (.int .i64 st) (.slice (some ⟨bp, op, none⟩) n pc) kb nb nn tn k (fun i => v.testBit (tn + i)) hs rb (mSt tn)) → ValAt X4 r tn 4 (fun t => .bool ((mSt tn k).testBit t)) → (X4.alloc (.cells #[.slice (some ⟨r, 0, none⟩) tn tn] 30)).ownsRow (kb + 1) 30 1 hs k ((List.range k).map fun i => .slice (some ⟨rb i, 0, none⟩) tn tn) ∧ kb + 1 ≤ (X4.alloc (.cells #[.slice (some ⟨r, 0, none⟩) tn tn] 30)).heap.size ∧ ∀ v6 wB, wB.ownsRow (kb + 1) 30 1 v6 (k + 1) (((List.range k).map fun i => .slice (some ⟨rb i, 0, none⟩) tn tn) ++ [.slice (some ⟨r, 0, none⟩) tn tn]) → (X4.alloc (.cells #[.slice (some ⟨r, 0, none⟩) tn tn] 30)).grownBy wB hs.ownBlock → (TbAt w (wB.setCell ⟨kb, 6, none⟩ v6) (.slice ta tn tc) (.slice na nn nc) (.slice la ln lc) (.int .i64 st) (.slice (some ⟨bp, op, none⟩) n pc) kb nb nn tn (k + 1) (fun i => v.testBit (tn + i)) v6 (upd rb k r) (mSt tn)) ∧ wB.cell? ⟨kb, 6, none⟩ = some hs ∧ wB.frozen? ⟨kb, 6, none⟩ = false) := fun X4 h4 hv4 => by
          have h5 := h4.kept (World.grownBy_alloc X4 (.cells #[.slice (some ⟨r, 0, none⟩) tn tn] 30) none)
          refine ⟨h5.own, (Array.getElem?_eq_some_iff.1 h5.box).1, fun v6 wB ho hg => ⟨?_, (box7 (h5.boxIn hg)).1.2.2, (box7 (h5.boxIn hg)).2⟩⟩
          have h6 := h5.more (hv4.kept (World.grownBy_alloc _ _ none)) HRN.out.1 HRN.out.2 hg ho
          rwa [upd_self] at h6
        obtain ⟨⟨q0, q5, q6⟩, q7⟩ := box7 HT3.out.box
        obtain ⟨k0, k1, k2, k3, k4⟩ := HT3.out.ph.cells
        obtain ⟨ha, hc, rfl⟩ := owns_slice HT3.out.own
        by_cases hkt : k < tn
        · have hd1 : decide ((k : Int) < (tn : Int)) = true := decide_eq_true (by omega)
          have hd2 : decide (k < tn) = true := decide_eq_true hkt
          obtain ⟨f1, f2, f3⟩ := HFIN.out (w3.setCell ⟨r, k, none⟩ (.bool true)) (HT3.out.at HV3.out HRN.out.1 HRN.out.2 (grown_setCell _ _ _)) ((HV3.out.set k (.bool true)).ext fun t _ => by unfold mSt put; rw [if_pos hkt, Nat.testBit_two_pow]; by_cases e : t = k <;> simp [e, Ne.symm])
          have z0 := HV3.out.cell k hkt
          have z1 := HV3.out.free k
          have z2 := (box7 (HT3.out.at HV3.out HRN.out.1 HRN.out.2 (grown_setCell r k (.bool true))).box).1.2.2
          have z3 : kb ≠ r := Nat.ne_of_lt HRN.out.1
          have z4 : r ≠ kb := fun e => z3 e.symm
          have hk0 : (0 : Int) ≤ (k : Int) := by omega
          have hk1 : (k : Int) < (tn : Int) := by omega
          have HF1 := show Hid _ from f1
          have HF2 := show Hid _ from f2
          have HF3 := show Hid _ from f3
          have HNW : Hid (∀ j u, [Value.slice (some ⟨r, 0, none⟩) tn tn][j]? = some u → ((w3.setCell ⟨r, k, none⟩ (.bool true)).alloc (.cells #[.slice (some ⟨r, 0, none⟩) tn tn] 30)).cell? ((⟨w3.heap.size, 0, none⟩ : Addr).add j) = some u) := by
            have hsz : (w3.setCell ⟨r, k, none⟩ (.bool true)).heap.size = w3.heap.size := by simp
            have h := news_new (w3.setCell ⟨r, k, none⟩ (.bool true)) #[.slice (some ⟨r, 0, none⟩) tn tn] 30
            rw [hsz] at h
            exact h
          clear f1 f2 f3 HFIN
          go_wp2_with (at_builtin; refine wpList_append_src rfl (.tmp 36) (.tmp 38) 65 rfl (kb + 1) 30 i1 (.slice none 0 0) 1 24 Tryd.underlying65 hi1 hy0 hy1 hy2 rfl (by decide) (.slice ha k hc) k _ rfl HF1.out (some ⟨w3.heap.size, 0, none⟩) 1 1 [.slice (some ⟨r, 0, none⟩) tn tn] rfl (fun h => by cases h) rfl (fun ad e => by cases e; exact HNW.out) (by simp [Value.oneCell']) (by unfold maxLen; omega) (by omega) HF2.out ?_; intro v6 wB hoB hgB; obtain ⟨y1, y2, y3⟩ := HF3.out v6 wB hoB hgB; obtain ⟨a6, c6, rfl⟩ := owns_slice hoB; have HY1 := show Hid _ from y1; clear hoB hgB y1)
          go_roundg (S - (k + 1))
          case measure => have := HGK.out; omega
          case rel => exact ⟨k + 1, _, _, by omega, rfl, by go_num, HY1.out⟩
        · have hd1 : decide ((k : Int) < (tn : Int)) = false := decide_eq_false (by omega)
          have hd2 : decide (k < tn) = false := decide_eq_false hkt
          obtain ⟨f1, f2, f3⟩ := HFIN.out w3 HT3.out (HV3.out.ext fun t _ => by unfold mSt; rw [if_neg hkt]; simp)
          have HF1 := show Hid _ from f1
          have HF2 := show Hid _ from f2
          have HF3 := show Hid _ from f3
          have HNW : Hid (∀ j u, [Value.slice (some ⟨r, 0, none⟩) tn tn][j]? = some u → (w3.alloc (.cells #[.slice (some ⟨r, 0, none⟩) tn tn] 30)).cell? ((⟨w3.heap.size, 0, none⟩ : Addr).add j) = some u) := news_new w3 _ _
          clear f1 f2 f3 HFIN
          go_wp2_with (at_builtin; refine wpList_append_src rfl (.tmp 36) (.tmp 38) 65 rfl (kb + 1) 30 i1 (.slice none 0 0) 1 24 Tryd.underlying65 hi1 hy0 hy1 hy2 rfl (by decide) (.slice ha k hc) k _ rfl HF1.out (some ⟨w3.heap.size, 0, none⟩) 1 1 [.slice (some ⟨r, 0, none⟩) tn tn] rfl (fun h => by cases h) rfl (fun ad e => by cases e; exact HNW.out) (by simp [Value.oneCell']) (by unfold maxLen; omega) (by omega) HF2.out ?_; intro v6 wB hoB hgB; obtain ⟨y1, y2, y3⟩ := HF3.out v6 wB hoB hgB; obtain ⟨a6, c6, rfl⟩ := owns_slice hoB; have HY1 := show Hid _ from y1; clear hoB hgB y1)
          go_roundg (S - (k + 1))
          case measure => have := HGK.out; omega
          case rel => exact ⟨k + 1, _, _, by omega, rfl, by go_num, HY1.out⟩
      · have hkS : S = k := by omega
        subst hkS
        have hkd : decide ((S : Int) < (tn : Int) + (nn : Int)) = false := decide_eq_false (by omega)
        have hkd2 : decide (S < tn + nn) = false := decide_eq_false (by omega)
        obtain ⟨hb, hc, rfl⟩ : ∃ hb hc, hs = .slice (some ⟨hb, 0, none⟩) S hc := by
          obtain ⟨ha, hc, rfl⟩ := owns_slice HT2.out.own
          rcases HT2.out.own.2 with ⟨h', _⟩ | ⟨g, cap, cur, hv, _⟩
          · simp only [Value.slice.injEq] at h'
            omega
          · simp only [Value.slice.injEq] at hv
            obtain ⟨rfl, _⟩ := hv
            exact ⟨g, hc, rfl⟩
        have HT3 : Hid (TbAt w w2 (.slice ta tn tc) (.slice na nn nc) (.slice la ln lc) (.int .i64 st) (.slice (some ⟨bp, op, none⟩) n pc) kb nb nn tn S (fun i => v.testBit (tn + i)) (.slice (some ⟨hb, 0, none⟩) S hc) rb (mSt tn)) := HT2.out
        have HM0 : Hid (∀ i, i < S → mSt tn i < 2 ^ tn) := fun i _ => by
          unfold mSt
          split
          · exact Nat.pow_lt_pow_right (by decide) (by assumption)
          · exact Nat.two_pow_pos _
        have HVT : Hid (∀ i, i < tn → v.testBit i = false) := fun i hi => by
          cases h : v.testBit i with
          | false => rfl
          | true =>
            exfalso
            have h1 := (HVV.out i).1 h
            generalize hj : (i : Int) = j at h1
            cases h1 with
            | prod k hk _ => have := (HL.out k hk).1; omega
        have HSD : Hid (Sound tn n L R v (mSt tn)) := ⟨fun i h => (HVV.out i).1 h, (sound_start tn n L R).2.1, (sound_start tn n L R).2.2⟩
        clear HT2 k0 k1 k2 k3 k4 hlt hk HGK
        go_wp2_with fail
        go_loopg [6] (2 * (1024 * S - sumC (mSt tn) S) + 1) (fun gk v6 wr => ∃ (b : Bool) (m : Nat → Nat), v6 = .bool b ∧ gk = 2 * (1024 * S - sumC m S) + (if b = true then 1 else 0) ∧ Sound tn n L R v m ∧ (b = false → ∀ k, k < n → ClosedAt L R v m k) ∧ (∀ i, i < S → m i < 2 ^ tn) ∧ (TbAt w wr (.slice ta tn tc) (.slice na nn nc) (.slice la ln lc) (.int .i64 st) (.slice (some ⟨bp, op, none⟩) n pc) kb nb nn tn S (fun i => v.testBit (tn + i)) (.slice (some ⟨hb, 0, none⟩) S hc) rb m))
        case atStart => exact ⟨true, mSt tn, rfl, rfl, HSD.out, fun h => (by cases h), HM0.out, HT3.out⟩
        case round =>
          obtain ⟨b, m, rfl, hgk, hso, hcl, hm, hT⟩ := hrel
          have HGK : Hid (gk = 2 * (1024 * S - sumC m S) + (if b = true then 1 else 0)) := hgk
          have HSO : Hid (Sound tn n L R v m) := hso
          have HCL : Hid (b = false → ∀ k, k < n → ClosedAt L R v m k) := hcl
          have HM : Hid (∀ i, i < S → m i < 2 ^ tn) := hm
          have HT : Hid (TbAt w wr (.slice ta tn tc) (.slice na nn nc) (.slice la ln lc) (.int .i64 st) (.slice (some ⟨bp, op, none⟩) n pc) kb nb nn tn S (fun i => v.testBit (tn + i)) (.slice (some ⟨hb, 0, none⟩) S hc) rb m) := hT
          clear hgk hso hcl hm hT HT3 HM0 HSD
          cases b with
          | false =>
            have HFD : Hid (Found tn n L R v m) := found_of HSO.out (HCL.out rfl)
            go_wp2_with fail
            go_ret
            have h1 := HT.out
            have h2 := HM.out
            rw [HSE.out] at h1 h2
            exact ⟨kb, nb, hb, hc, rb, m, rfl, h1, HFD.out, h2⟩
          | true =>
            clear HCL
            generalize wr = w4 at *
            obtain ⟨k0, k1, k2, k3, k4⟩ := HT.out.ph.cells
            go_wp2_with fail
            clear k0 k1 k2 k3 k4
            go_loopg [6, 7] n (fun gk v6 v7 wr => ∃ (k : Nat) (b' : Bool) (m' : Nat → Nat), k ≤ n ∧ gk = n - k ∧ v6 = .bool b' ∧ v7 = .int .i64 k ∧ Sound tn n L R v m' ∧ (b' = false → m' = m ∧ ∀ j, j < k → ClosedAt L R v m j) ∧ (b' = true → sumC m S < sumC m' S) ∧ (∀ i, i < S → m' i < 2 ^ tn) ∧ (TbAt w wr (.slice ta tn tc) (.slice na nn nc) (.slice la ln lc) (.int .i64 st) (.slice (some ⟨bp, op, none⟩) n pc) kb nb nn tn S (fun i => v.testBit (tn + i)) (.slice (some ⟨hb, 0, none⟩) S hc) rb m'))
            case atStart => exact ⟨0, false, m, Nat.zero_le _, rfl, rfl, rfl, HSO.out, fun _ => ⟨rfl, fun j hj => absurd hj (Nat.not_lt_zero _)⟩, fun h => (by cases h), HM.out, HT.out⟩
            case round =>
              obtain ⟨k, b', m', hk, hgi, rfl, rfl, hso, hcl, hun, hm, hT⟩ := hrel
              have HGI : Hid (gk = n - k) := hgi
              have HSI : Hid (Sound tn n L R v m') := hso
              have HCI : Hid (b' = false → m' = m ∧ ∀ j, j < k → ClosedAt L R v m j) := hcl
              have HUI : Hid (b' = true → sumC m S < sumC m' S) := hun
              have HMI : Hid (∀ i, i < S → m' i < 2 ^ tn) := hm
              have HTI : Hid (TbAt w wr (.slice ta tn tc) (.slice na nn nc) (.slice la ln lc) (.int .i64 st) (.slice (some ⟨bp, op, none⟩) n pc) kb nb nn tn S (fun i => v.testBit (tn + i)) (.slice (some ⟨hb, 0, none⟩) S hc) rb m') := hT
              clear hgi hso hcl hun hm hT HT
              obtain ⟨k0, k1, k2, k3, k4⟩ := HTI.out.ph.cells
              by_cases hlt : k < n
              · have hk0 : (0 : Int) ≤ (k : Int) := by omega
                have hk1 : (k : Int) < (n : Int) := by omega
                have hkd3 : decide (k < n) = true := decide_eq_true hlt
                obtain ⟨p0, p1, _⟩ := HP.out k hlt wr HTI.out.grown
                have hLk := HL.out k hlt
                obtain ⟨x0, hx0⟩ : ∃ s : Nat, L k = (s : Int) := ⟨(L k).toNat, by omega⟩
                have hxS : x0 < S := by omega
                rw [hx0] at p0
                have d5 : (0 : Int) ≤ (x0 : Int) := by omega
                have d7 : (x0 : Int) < (S : Int) := by omega
                obtain ⟨⟨q0, q5, q6⟩, _⟩ := box7 HTI.out.box
                have q8 : wr.cell? ⟨hb, x0, none⟩ = some (.slice (some ⟨rb x0, 0, none⟩) tn tn) := owns_cell HTI.out.own (by simp [hxS])
                have HNX := show Hid _ from tab_step (S := S) HSI.out HVV.out hlt (by omega) (x := x0) (by rw [hx0]; simp) hxS (fun y hy => ((HRR.out k hlt).1 y hy).1) (rowM_lt fun y hy => HMI.out y.toNat (by have := (HRR.out k hlt).1 y hy; omega)) (by omega)
                have HMX : Hid (∀ i, i < S → upd m' x0 (m' x0 ||| rowM v m' (R k)) i < 2 ^ tn) := fun i hi => by
                  by_cases e : i = x0
                  · subst e
                    rw [upd_same]
                    exact Nat.or_lt_two_pow (HMI.out i hi) (rowM_lt fun y hy => HMI.out y.toNat (by have := (HRR.out k hlt).1 y hy; omega))
                  · rw [upd_other _ _ e]; exact HMI.out i hi
                have HLY : Hid (∀ X, wr.grownBy X none → Calls Tryd.prog 53 #[.pointer (some ⟨kb, 0, none⟩), .slice (ra k) (R k).length (rc k), .slice (some ⟨rb x0, 0, none⟩) tn tn] X fun e y => e = .returned (.bool (decide (m' x0 ||| rowM v m' (R k) ≠ m' x0))) ∧ (TbAt w y (.slice ta tn tc) (.slice na nn nc) (.slice la ln lc) (.int .i64 st) (.slice (some ⟨bp, op, none⟩) n pc) kb nb nn tn S (fun i => v.testBit (tn + i)) (.slice (some ⟨hb, 0, none⟩) S hc) rb (upd m' x0 (m' x0 ||| rowM v m' (R k)))) ∧ X.grownBy y (some (rb x0))) := fun X hX => tab_lay (HTI.out.kept hX) HSE.out (by omega) HMI.out HVT.out (ra k) (R k) (rc k) (fun Z hZ => (HP.out k hlt Z hZ).2.2) (HRR.out k hlt).2 (fun y hy => by have := (HRR.out k hlt).1 y hy; omega) x0 hxS
                obtain ⟨rl, hrl⟩ : ∃ r, r = (R k).length := ⟨_, rfl⟩
                rw [← hrl] at p1 HLY
                obtain ⟨nx, hnx⟩ : ∃ nx, nx = m' x0 ||| rowM v m' (R k) := ⟨_, rfl⟩
                rw [← hnx] at HNX HMX HLY
                obtain ⟨fr, hfr⟩ : ∃ c, c = decide (nx ≠ m' x0) := ⟨_, rfl⟩
                have HFR : Hid (fr = decide (nx ≠ m' x0)) := hfr
                rw [← hfr] at HLY
                have HKS : Hid (∀ x, wr.grownBy x (some (rb x0)) → x.cell? ⟨w.heap.size, 4, none⟩ = some (.slice (some ⟨bp, op, none⟩) n pc) ∧ x.cell? ⟨bp, op + k * 3, none⟩ = some (.int .i64 (x0 : Int)) ∧ x.cell? ⟨bp, op + k * 3 + 1, none⟩ = some (.slice (ra k) rl (rc k)) ∧ x.cell? ⟨kb, 6, none⟩ = some (.slice (some ⟨hb, 0, none⟩) S hc) ∧ x.cell? ⟨hb, x0, none⟩ = some (.slice (some ⟨rb x0, 0, none⟩) tn tn)) := fun x hx => by
                  have hr := HTI.out.rlo x0 hxS
                  have hl := HTI.out.lo
                  have hg := grown_at HTI.out.grown hx (by omega)
                  obtain ⟨z0, z1, _⟩ := HP.out k hlt x hg
                  rw [hx0] at z0
                  rw [← hrl] at z1
                  refine ⟨hx.cell k4 (by simp; omega), z0, z1, hx.cell q6 (by simp; omega), ?_⟩
                  refine hx.cell q8 ?_
                  rcases owns_nebox HTI.out.own (HTI.out.rows x0 hxS) (by decide) with h1 | h1
                  · simp [Value.ownBlock] at h1
                  · simpa [Value.ownBlock] using h1
                have HU : Hid (wr.grownBy wr.drew none) := grown_drewN wr 1
                clear hLk hx0 hrl hnx hS hfr
                go_wp2_with fail
                go_region_held3 (fun x => x.cell? ⟨w.heap.size, 4, none⟩ = some (.slice (some ⟨bp, op, none⟩) n pc) ∧ x.cell? ⟨bp, op + k * 3, none⟩ = some (.int .i64 (x0 : Int)) ∧ x.cell? ⟨bp, op + k * 3 + 1, none⟩ = some (.slice (ra k) rl (rc k)) ∧ x.cell? ⟨kb, 6, none⟩ = some (.slice (some ⟨hb, 0, none⟩) S hc) ∧ x.cell? ⟨hb, x0, none⟩ = some (.slice (some ⟨rb x0, 0, none⟩) tn tn)) (first | exact HKS.out _ (grown_some _ HU.out) | exact HKS.out _ HG5.out | go_keep)
                  ((first
                    | (go_at_call 53; refine Calls.mono (HLY.out _ HU.out) ?_; rintro e w5 ⟨rfl, hT5, hg5⟩; have HT5 := show Hid _ from hT5; have HG5 : Hid (wr.grownBy w5 (some (rb x0))) := grown_two (grown_some _ HU.out) hg5; clear hT5 hg5)
                    | fail))
                cases b' with
                | true =>
                  have HU2 : Hid (sumC m S < sumC (upd m' x0 nx) S) := Nat.lt_of_lt_of_le (HUI.out rfl) HNX.out.2.2.1
                  clear HUI HCI
                  go_wp2_with fail
                  go_roundg (n - (k + 1))
                  case measure => have := HGI.out; omega
                  case rel => exact ⟨k + 1, true, upd m' x0 nx, by omega, rfl, rfl, by go_num, HNX.out.1, fun h => (by cases h), fun _ => HU2.out, HMX.out, HT5.out⟩
                | false =>
                  cases fr with
                  | true =>
                    have HU2 : Hid (sumC m S < sumC (upd m' x0 nx) S) := by
                      have h1 := HNX.out.2.2.2 (of_decide_eq_true HFR.out.symm)
                      have h2 := (HCI.out rfl).1
                      show _ < _
                      rw [← h2]
                      exact h1
                    clear HUI HCI HFR
                    go_wp2_with fail
                    go_roundg (n - (k + 1))
                    case measure => have := HGI.out; omega
                    case rel => exact ⟨k + 1, true, upd m' x0 nx, by omega, rfl, rfl, by go_num, HNX.out.1, fun h => (by cases h), fun _ => HU2.out, HMX.out, HT5.out⟩
                  | false =>
                    have HU2 : Hid (upd m' x0 nx = m ∧ ∀ j, j < k + 1 → ClosedAt L R v m j) := by
                      obtain ⟨h1, h2⟩ := HNX.out.2.1 (by have := of_decide_eq_false HFR.out.symm; exact Decidable.byContradiction this)
                      obtain ⟨h3, h4⟩ := HCI.out rfl
                      refine ⟨h1.trans h3, fun j hj => ?_⟩
                      by_cases e : j = k
                      · rw [e, ← h3]; exact h2
                      · exact h4 j (by omega)
                    clear HUI HCI HFR
                    go_wp2_with fail
                    go_roundg (n - (k + 1))
                    case measure => have := HGI.out; omega
                    case rel => exact ⟨k + 1, false, upd m' x0 nx, by omega, rfl, rfl, by go_num, HNX.out.1, fun _ => HU2.out, fun h => (by cases h), HMX.out, HT5.out⟩
              · have hkn : n = k := by omega
                subst hkn
                have hkd3 : decide (n < n) = false := decide_eq_false (by omega)
                clear k0 k1 k2 k3
                go_wp2_with fail
                go_roundg (2 * (1024 * S - sumC m' S) + (if b' = true then 1 else 0))
                case measure =>
                  have h1 := HGK.out
                  first | rw [if_pos rfl] at h1 | simp only [if_true] at h1
                  have h2 := sumC_le m' S
                  cases b' with
                  | true => have := HUI.out rfl; rw [if_pos rfl]; omega
                  | false => rw [if_neg (by decide), (HCI.out rfl).1]; omega
                case rel => exact ⟨b', m', rfl, rfl, HSI.out, fun h => by
                  obtain ⟨h1, h2⟩ := HCI.out h
                  rw [h1]; exact h2, HMI.out, HTI.out⟩

end Go.Proofs.YtdhojilmgnodeaaDoor

/-
  first: the document's Of.
-/
namespace Go.Proofs.YtdhojilmgnodeaaDoor
open Go.RowKit Go.Maps Go.Shelf

attribute [local go_sem] Oper.semAt_some

theorem box7f {x : World} {b : Nat} {v0 v1 v2 v3 v4 v5 v6 : Value} {t : TypeId} (h : x.heap[b]? = some (.cells #[v0, v1, v2, v3, v4, v5, v6] t (0, 0))) : x.cell? ⟨b, 0, none⟩ = some v0 ∧ x.cell? ⟨b, 1, none⟩ = some v1 ∧ x.cell? ⟨b, 2, none⟩ = some v2 ∧ x.cell? ⟨b, 3, none⟩ = some v3 ∧ x.cell? ⟨b, 4, none⟩ = some v4 ∧ x.cell? ⟨b, 5, none⟩ = some v5 := by
  refine ⟨?_, ?_, ?_, ?_, ?_, ?_⟩ <;> rw [cell_of_row _ _ _ _ _ _ h] <;> rfl

set_option maxRecDepth 100000 in
set_option maxHeartbeats 2000000 in
theorem rof_any (u w : World) (ta na la pa a : Option Addr) (tc nc lc pc ln n cap : Nat) (st : Int) (kb nb nn tn S hb hc : Nat) (v : Nat) (rb m : Nat → Nat) (l : List Int) (h : TbAt u w (.slice ta tn tc) (.slice na nn nc) (.slice la ln lc) (.int .i64 st) (.slice pa n pc) kb nb nn tn S (fun i => v.testBit (tn + i)) (.slice (some ⟨hb, 0, none⟩) S hc) rb m) (hS : S = tn + nn) (hz : S ≤ 1024) (hm : ∀ i, i < S → m i < 2 ^ tn) (hv : ∀ i, i < tn → v.testBit i = false)
    (hl : IntsAt w a l) (hll : l.length ≤ 17592186044416) (hin : ∀ x ∈ l, (0 : Int) ≤ x ∧ x < (S : Int)) :
    Calls Tryd.prog 40 #[.pointer (some ⟨kb, 0, none⟩), .slice a l.length cap] w fun e y => ∃ k, e = .returned (.tuple #[.slice (some ⟨k, 0, none⟩) tn tn, .bool (vanB tn (fun i => v.testBit (tn + i)) l)]) ∧ w.heap.size ≤ k ∧ ValAt y k tn 4 (fun t => .bool ((rowM v m l).testBit t)) ∧ w.grownBy y none := by
  have HLY : Hid (∀ X, w.grownBy X none → ValAt X w.heap.size tn 4 (fun _ => .bool false) → Calls Tryd.prog 53 #[.pointer (some ⟨kb, 0, none⟩), .slice a l.length cap, .slice (some ⟨w.heap.size, 0, none⟩) tn tn] X fun e y => (∃ b, e = .returned (.bool b)) ∧ ValAt y w.heap.size tn 4 (fun t => .bool ((rowM v m l).testBit t)) ∧ w.grownBy y none) := fun X hX hV => by
    have h2 := h.kept hX
    have hlt : ∀ {b : Nat} {o : Obj}, w.heap[b]? = some o → b ≠ w.heap.size := fun hb => Nat.ne_of_lt (Array.getElem?_eq_some_iff.1 hb).1
    have hhb : hb ≠ w.heap.size := by
      have := (h.own.lt hb (by simp [Value.ownBlock])).2
      omega
    refine (rlay_any kb nb hb tn nn S hc w.heap.size ta a tc cap v rb m 0 l X hS hz (box7 h2.box).1 (hlt h.box) h2.nul (hlt h.nul) (fun i hi => owns_cell h2.own (by simp [hi])) hhb h2.rows (hV.ext fun t _ => by simp) (fun i hi e => absurd e (hlt (h.rows i hi))) hm hv (fun Z hZ => hl.kept (grown_at hX hZ (Nat.le_refl _))) hll hin).mono fun e y ⟨q1, q2, q3⟩ => ⟨⟨_, q1⟩, by rw [Nat.zero_or] at q2; exact q2, grown_at hX q3 (Nat.le_refl _)⟩
  have HVN : Hid (∀ X, w.grownBy X none → Calls Tryd.prog 50 #[.agg #[.slice ta tn tc, .slice na nn nc, .slice la ln lc, .int .i64 st, .slice pa n pc], .slice (some ⟨nb, 0, none⟩) nn nn, .slice a l.length cap] X fun e y => e = .returned (.bool (vanB tn (fun i => v.testBit (tn + i)) l)) ∧ X.grownBy y none) := fun X hX => rvan_any ta na la pa a tn nn ln n tc nc lc pc cap nb st (fun i => v.testBit (tn + i)) l X (hl.kept hX) hll (fun x hx => by have := hin x hx; omega) (h.kept hX).nul (by omega)
  have HKS : Hid (∀ x, w.grownBy x none → x.cell? ⟨kb, 0, none⟩ = some (.slice ta tn tc) ∧ x.cell? ⟨kb, 1, none⟩ = some (.slice na nn nc) ∧ x.cell? ⟨kb, 2, none⟩ = some (.slice la ln lc) ∧ x.cell? ⟨kb, 3, none⟩ = some (.int .i64 st) ∧ x.cell? ⟨kb, 4, none⟩ = some (.slice pa n pc) ∧ x.cell? ⟨kb, 5, none⟩ = some (.slice (some ⟨nb, 0, none⟩) nn nn)) := fun x hx => box7f (h.kept hx).box
  obtain ⟨i0, hi0, hz0, hz1, hz2⟩ := info_parts infoBoolK
  have htn : tn ≤ 1024 := by omega
  obtain ⟨k0, k1, k2, k3, k4, k5⟩ := HKS.out w (grown_refl _ _)
  obtain ⟨rl, hrl⟩ : ∃ r, r = l.length := ⟨_, rfl⟩
  rw [← hrl] at HLY HVN
  rw [← hrl]
  clear h hS hz hm hv hl hll hin hrl
  obtain ⟨vb, hvb⟩ : ∃ c, c = vanB tn (fun i => v.testBit (tn + i)) l := ⟨_, rfl⟩
  rw [← hvb] at HVN
  rw [← hvb]
  clear hvb
  go_enter Tryd.func40, Tryd.ntmps40
  go_wp2_with (at_make; refine wpList_make_full _ rfl _ _ 30 rfl w.heap.size 4 i0 (.bool false) 1 Tryd.underlying30 hi0 hz0 hz1 .i64 .i64 _ _ tn rfl rfl (by simp) (by simp) (by rw [hz2]; omega) (by unfold maxLen; omega) (by simp) ?_)
  intro w1 hown hgrow
  have HG1 : Hid (w.grownBy w1 none) := hgrow
  have HV1 : Hid (ValAt w1 w.heap.size tn 4 (fun _ => .bool false)) := made_rowK rfl (by simpa [Value.cells] using hown)
  clear hown hgrow k0 k1 k2 k3 k4 k5
  go_wp2_with fail
  refine Calls.mono (HLY.out w1 HG1.out HV1.out) ?_
  rintro e w2 ⟨⟨b, rfl⟩, hv2, hg2⟩
  have HG2 : Hid (w.grownBy w2 none) := hg2
  have HV2 : Hid (ValAt w2 w.heap.size tn 4 (fun t => .bool ((rowM v m l).testBit t))) := hv2
  have HU : Hid (w2.grownBy w2.drew none) := grown_drewN w2 1
  clear hv2 hg2 HG1 HV1 HLY
  obtain ⟨k0, k1, k2, k3, k4, k5⟩ := HKS.out w2 HG2.out
  go_wp2_with fail
  go_region_held3 (fun x => x.cell? ⟨kb, 0, none⟩ = some (.slice ta tn tc) ∧ x.cell? ⟨kb, 1, none⟩ = some (.slice na nn nc) ∧ x.cell? ⟨kb, 2, none⟩ = some (.slice la ln lc) ∧ x.cell? ⟨kb, 3, none⟩ = some (.int .i64 st) ∧ x.cell? ⟨kb, 4, none⟩ = some (.slice pa n pc) ∧ x.cell? ⟨kb, 5, none⟩ = some (.slice (some ⟨nb, 0, none⟩) nn nn)) (first | exact HKS.out _ (grown_trans HG2.out HU.out) | exact HKS.out _ (grown_trans HG2.out HG3.out) | go_keep)
    ((first
      | (go_at_call 50; refine Calls.mono (HVN.out _ (grown_trans HG2.out HU.out)) ?_; rintro e w3 ⟨rfl, hg3⟩; have HG3 : Hid (w2.grownBy w3 none) := grown_trans HU.out hg3; clear hg3)
      | fail))
  go_wp2_with fail
  go_ret2
  exact ⟨_, rfl, Nat.le_refl _, HV2.out.kept HG3.out, grown_trans HG2.out HG3.out⟩

end Go.Proofs.YtdhojilmgnodeaaDoor

/-
  first: the document's Row.
-/
namespace Go.Proofs.YtdhojilmgnodeaaDoor
open Go.RowKit Go.Maps Go.Shelf

attribute [local go_sem] Oper.semAt_some

set_option maxRecDepth 100000 in
set_option maxHeartbeats 2000000 in
theorem rrow_ok (ta na la pa a : Option Addr) (tc nc lc pc cap : Nat) (ts : List (ByteArray × Int)) (ns : List ByteArray) (lv : List Int) (n : Nat) (L : Nat → Int) (R : Nat → List Int) (ra : Nat → Option Addr) (rc : Nat → Nat) (V : Nat → Int) (st : Int) (w : World) (tn nn ln : Nat) (hlen : ts.length = tn ∧ ns.length = nn ∧ lv.length = ln) (hG : GAt w ta na la pa tc nc lc pc ts ns lv n L R ra rc V) (hwf : ∀ t ∈ ts, t.1.size ≤ 140737488355328) (hnz : ∀ s ∈ ns, s.size ≤ 140737488355328) (hok : validOK ts ns lv st n L R V ∨ closedOK ts ns lv st n L R V) {cl : Bool} (hM : MayOK tn nn n st L R cl) (h0 : 0 < nn) (v : Nat) (hv : ∀ i : Nat, v.testBit i = true ↔ Nul n L R (i : Int)) (l : List Int) (hl : IntsAt w a l) (hll : l.length ≤ 17592186044416) (hin : ∀ x ∈ l, (0 : Int) ≤ x ∧ x < ((tn + nn : Nat) : Int)) (Q : List Int) (hQ : ∀ m, Found tn n L R v m → listF (fun t => (rowM v m l).testBit t) tn = Q) :
    Calls Tryd.prog 18 #[.agg #[.slice ta tn tc, .slice na nn nc, .slice la ln lc, .int .i64 st, .slice pa n pc], .slice a l.length cap] w fun e y => ∃ a' c', e = .returned (.tuple #[.slice a' Q.length c', .bool (vanB tn (fun i => v.testBit (tn + i)) l), .int .i64 0]) ∧ y.ownsRow w.heap.size 3 1 (.slice a' Q.length c') Q.length (Q.map (Value.int .i64)) ∧ w.grownBy y none := by
  have HMB : Hid (∀ X, w.grownBy X none → Calls Tryd.prog 30 #[.agg #[.slice ta tn tc, .slice na nn nc, .slice la ln lc, .int .i64 st, .slice pa n pc]] X fun e w' => e = .returned (.bool true) ∧ X.grownBy w' none) := fun X hX => keither_any ta na la pa tc nc lc pc ts ns lv n L R ra rc V st X tn nn ln hlen (hG.kept hX) hwf hnz true ⟨fun _ => hok, fun _ => rfl⟩
  have HSY : Hid (∀ X, Calls Tryd.prog 25 #[.agg #[.slice ta tn tc, .slice na nn nc, .slice la ln lc, .int .i64 st, .slice pa n pc]] X fun e y => e = .returned (.int .i64 ((tn : Int) + nn)) ∧ X.grownBy y none) := fun X => symbols_any ta na la _ tn nn ln n tc nc lc pc st X (by have := hM.tmax; omega) (by have := hM.nmax; omega)
  have hnn : nn ≤ 65 := hM.nmax
  have htn : tn ≤ 65 := hM.tmax
  have HTA : Hid (∀ X, w.grownBy X none → Calls Tryd.prog 33 #[.agg #[.slice ta tn tc, .slice na nn nc, .slice la ln lc, .int .i64 st, .slice pa n pc]] X fun e y => TableTold (.slice ta tn tc) (.slice na nn nc) (.slice la ln lc) (.int .i64 st) (.slice pa n pc) tn nn n L R v X e y) := fun X hX => by
    have h1 := hM.p0
    rcases (hG.kept hX).prods with h | ⟨bp, op, rfl, hp⟩
    · omega
    · exact rtable_any ta na la tn nn ln n tc nc lc pc bp op st L R ra rc X (by omega) (by have := hM.pmax; omega) h0 (fun k hk => ⟨(hp k hk).1, (hp k hk).2.1, (hp k hk).2.2.2.1, (hp k hk).2.2.2.2.2⟩) (fun k hk => ⟨by have := hM.left k hk; omega, (hM.left k hk).2⟩) (fun k hk x hx => ⟨by have := hM.right k hk x hx; omega, (hM.right k hk x hx).2⟩) v hv
  have HOF : Hid (∀ u X kb nb hb hc rb m, w.grownBy X none → TbAt u X (.slice ta tn tc) (.slice na nn nc) (.slice la ln lc) (.int .i64 st) (.slice pa n pc) kb nb nn tn (tn + nn) (fun i => v.testBit (tn + i)) (.slice (some ⟨hb, 0, none⟩) (tn + nn) hc) rb m → (∀ i, i < tn + nn → m i < 2 ^ tn) → Calls Tryd.prog 40 #[.pointer (some ⟨kb, 0, none⟩), .slice a l.length cap] X fun e y => ∃ k, e = .returned (.tuple #[.slice (some ⟨k, 0, none⟩) tn tn, .bool (vanB tn (fun i => v.testBit (tn + i)) l)]) ∧ X.heap.size ≤ k ∧ ValAt y k tn 4 (fun t => .bool ((rowM v m l).testBit t)) ∧ X.grownBy y none) := fun u X kb nb hb hc rb m hX hT hm => rof_any u X ta na la pa a tc nc lc pc ln n cap st kb nb nn tn (tn + nn) hb hc v rb m l hT rfl (by omega) hm (fun i hi => by
      cases h : v.testBit i with
      | false => rfl
      | true =>
        exfalso
        have h1 := (hv i).1 h
        generalize hj : (i : Int) = j at h1
        cases h1 with
        | prod k hk _ => have := (hM.left k hk).1; omega) (hl.kept hX) hll hin
  have HL : Hid (∀ X, w.grownBy X none → IntsAt X a l) := fun X hX => hl.kept hX
  have HIN : Hid (∀ k, k < l.length → (0 : Int) ≤ l.getD k 0 ∧ l.getD k 0 < (tn : Int) + (nn : Int)) := fun k hk => by
    rw [List.getD_eq_getElem?_getD, List.getElem?_eq_getElem hk]; have := hin _ (List.getElem_mem hk); simp; omega
  have HQ : Hid (∀ m, Found tn n L R v m → listF (fun t => (rowM v m l).testBit t) tn = Q) := hQ
  have HX0 : Hid (PhAt w (w.alloc (.cells #[.slice ta tn tc, .slice na nn nc, .slice la ln lc, .int .i64 st, .slice pa n pc] 27)) w.heap.size #[.slice ta tn tc, .slice na nn nc, .slice la ln lc, .int .i64 st, .slice pa n pc]) := ⟨World.grownBy_alloc _ _ none, heap_alloc_last w _⟩
  obtain ⟨M, hMM⟩ : ∃ m, m = l.length := ⟨_, rfl⟩
  have HMM : Hid (M = l.length) := hMM
  rw [← hMM] at hll HOF
  rw [← hMM]
  obtain ⟨vb, hvb⟩ : ∃ c, c = vanB tn (fun i => v.testBit (tn + i)) l := ⟨_, rfl⟩
  rw [← hvb] at HOF
  rw [← hvb]
  clear hlen hG hwf hnz hok hM hv hl hin hQ hMM hvb
  go_enter Tryd.func18, Tryd.ntmps18
  go_wp2_with fail
  refine Calls.mono (HMB.out _ HX0.out.grown) ?_
  rintro e w1 ⟨rfl, hg1⟩
  have HX1 : Hid (PhAt w w1 w.heap.size #[.slice ta tn tc, .slice na nn nc, .slice la ln lc, .int .i64 st, .slice pa n pc]) := HX0.out.kept hg1
  clear hg1 HX0 HMB
  go_wp2_with fail
  go_loopg [7, 8] M (fun gk v7 v8 wr => ∃ k : Nat, k ≤ M ∧ gk = M - k ∧ v7 = .bool true ∧ v8 = .int .i64 k ∧ PhAt w wr w.heap.size #[.slice ta tn tc, .slice na nn nc, .slice la ln lc, .int .i64 st, .slice pa n pc])
  case atStart => exact ⟨0, Nat.zero_le _, rfl, rfl, rfl, HX1.out⟩
  case round =>
    obtain ⟨k, hk, hgk, rfl, rfl, hP⟩ := hrel
    have HGK : Hid (gk = M - k) := hgk
    have HP : Hid (PhAt w wr w.heap.size #[.slice ta tn tc, .slice na nn nc, .slice la ln lc, .int .i64 st, .slice pa n pc]) := hP
    clear hgk hP HX1
    obtain ⟨k0, k1, k2, k3, k4⟩ := HP.out.cells
    by_cases hlt : k < M
    · have hkl : k < l.length := by rw [← HMM.out]; exact hlt
      obtain ⟨ab, ao, rfl, hc⟩ : ∃ ab ao, a = some ⟨ab, ao, none⟩ ∧ ∀ X, w.grownBy X none → X.cell? ⟨ab, ao + k, none⟩ = some (.int .i64 (l.getD k 0)) := by
        rcases HL.out wr HP.out.grown with h | ⟨ab, ao, e, h⟩
        · rw [h] at hkl; cases hkl
        · refine ⟨ab, ao, e, fun X hX => ?_⟩
          rcases HL.out X hX with h | ⟨ab', ao', e', h⟩
          · rw [h] at hkl; cases hkl
          · rw [e] at e'; cases e'; exact h k hkl
      have hx := HIN.out k hkl
      obtain ⟨x, hxe⟩ : ∃ x, x = l.getD k 0 := ⟨_, rfl⟩
      rw [← hxe] at hx
      simp only [← hxe] at hc
      have HCX : Hid (∀ X, w.grownBy X none → X.cell? ⟨ab, ao + k, none⟩ = some (.int .i64 x)) := hc
      have hk0 : (0 : Int) ≤ (k : Int) := by omega
      have hk1 : (k : Int) < (M : Int) := by omega
      have hkd : decide (k < M) = true := decide_eq_true hlt
      have hx0 : decide ((0 : Int) ≤ x) = true := decide_eq_true hx.1
      have hx2 : (0 : Int) ≤ x := hx.1
      have hx1 : decide (x < (tn : Int) + (nn : Int)) = true := decide_eq_true hx.2
      have HU : Hid (wr.grownBy wr.drew none) := grown_drewN wr 1
      have HKS : Hid (∀ X, wr.grownBy X none → (X.cell? ⟨w.heap.size, 0, none⟩ = some (.slice ta tn tc) ∧ X.cell? ⟨w.heap.size, 1, none⟩ = some (.slice na nn nc) ∧ X.cell? ⟨w.heap.size, 2, none⟩ = some (.slice la ln lc) ∧ X.cell? ⟨w.heap.size, 3, none⟩ = some (.int .i64 st) ∧ X.cell? ⟨w.heap.size, 4, none⟩ = some (.slice pa n pc)) ∧ X.cell? ⟨ab, ao + k, none⟩ = some (.int .i64 x)) := fun X hX => ⟨(HP.out.kept hX).cells, HCX.out X (grown_trans HP.out.grown hX)⟩
      clear hc hxe hx hkl
      go_wp2_with fail
      go_region_held3 (fun X => (X.cell? ⟨w.heap.size, 0, none⟩ = some (.slice ta tn tc) ∧ X.cell? ⟨w.heap.size, 1, none⟩ = some (.slice na nn nc) ∧ X.cell? ⟨w.heap.size, 2, none⟩ = some (.slice la ln lc) ∧ X.cell? ⟨w.heap.size, 3, none⟩ = some (.int .i64 st) ∧ X.cell? ⟨w.heap.size, 4, none⟩ = some (.slice pa n pc)) ∧ X.cell? ⟨ab, ao + k, none⟩ = some (.int .i64 x)) (first | exact HKS.out _ HU.out | exact HKS.out _ HG3.out | go_keep)
        ((first
          | (go_at_call 25; refine Calls.mono (HSY.out _) ?_; rintro e w3 ⟨rfl, hg3⟩; have HG3 : Hid (wr.grownBy w3 none) := grown_trans HU.out hg3; clear hg3)
          | fail))
      go_wp2_with fail
      go_roundg (M - (k + 1))
      case measure => have := HGK.out; omega
      case rel => exact ⟨k + 1, by omega, rfl, rfl, by go_num, HP.out.kept HG3.out⟩
    · have hkn : M = k := by omega
      subst hkn
      have hkd : decide (M < M) = false := decide_eq_false (by omega)
      go_wp2_with fail
      refine Calls.mono (HTA.out _ HP.out.grown) ?_
      rintro e w4 ⟨kb, nb, hb, hc, rb, m, rfl, hT, hF, hm⟩
      have HT := show Hid _ from hT
      have HM := show Hid _ from hm
      have HG4 : Hid (w.grownBy w4 none) := grown_trans HP.out.grown hT.grown
      have HQ4 := show Hid _ from HQ.out m hF
      clear hT hF hm k0 k1 k2 k3 k4 HQ
      go_wp2_with fail
      refine Calls.mono (HOF.out _ w4 kb nb hb hc rb m HG4.out HT.out HM.out) ?_
      rintro e w5 ⟨kk, rfl, hkk, hV5, hg5⟩
      have HV5 := show Hid _ from hV5
      have HG5 : Hid (w.grownBy w5 none) := grown_trans HG4.out hg5
      clear hkk hV5 hg5 HG4 HT HM
      go_wp2_with fail
      refine Calls.mono (rlist_any kk tn _ w5 HV5.out (by omega)) ?_
      rintro e w6 ⟨a6, c6, rfl, ho6, hg6⟩
      rw [HQ4.out] at ho6
      rw [HQ4.out]
      have HO6 := show Hid _ from owns_lowerK ho6 HG5.out.size
      have HG6 : Hid (w.grownBy w6 none) := grown_trans HG5.out hg6
      clear ho6 hg6 HG5 HV5 HQ4
      go_wp2_with fail
      go_ret3
      exact ⟨a6, c6, rfl, HO6.out, HG6.out⟩

end Go.Proofs.YtdhojilmgnodeaaDoor
