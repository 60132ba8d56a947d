import Derived.Test.YtdhojilmgnodeaaDoorQlbeoojckgicm

/-
  first: Members of a set; Sets.
-/
namespace Go.Proofs.YtdhojilmgnodeaaDoor
open Go.RowKit Go.Maps Go.Shelf

attribute [local go_sem] Oper.semAt_some

theorem Tab_kept {w w' : World} (h : B.Tab w) (hg : w.grownBy w' none) (h0 : 0 < w.heap.size) : B.Tab w' := h.below (below_of_grown hg) h0

theorem members_any (b sz m : Nat) (w : World) (h : B.SetM w (some ⟨b, 0, none⟩) sz m) (hT : B.Tab w) (h0 : 0 < w.heap.size) :
    Calls Tryd.prog 32 #[.pointer (some ⟨b, 0, none⟩)] w fun e w' => ∃ a c, e = .returned (.slice a (B.mems 1024 m).length c) ∧ w'.ownsRow w.heap.size 3 1 (.slice a (B.mems 1024 m).length c) (B.mems 1024 m).length ((B.mems 1024 m).map (Value.int .i64)) ∧ w.grownBy w' none := by
  refine (callsIn_wide.1 (B.members_in 3 (Nat.le_refl _) B.cnt B.countIs cnt_le (some ⟨b, 0, none⟩) sz m w h hT h0)).mono ?_
  rintro e w' ⟨v, rfl, ho, hb⟩
  have hs : ∃ a c, v = .slice a (B.mems 1024 m).length c := by
    rcases ho.2 with ⟨h', h2⟩ | ⟨g, cap, cur, hv, _⟩
    · exact ⟨none, 0, by rw [h', h2]⟩
    · exact ⟨_, _, hv⟩
  obtain ⟨a, c, rfl⟩ := hs
  exact ⟨a, c, rfl, ho, grown_of_below hb⟩

theorem exists_mask (P : Nat → Prop) : ∀ k, ∃ m : Nat, m < 2 ^ k ∧ ∀ t, m.testBit t = true ↔ t < k ∧ P t
  | 0 => ⟨0, by decide, fun t => by simp⟩
  | k + 1 => by
    obtain ⟨m, hm, h⟩ := exists_mask P k
    rcases Classical.em (P k) with hp | hp
    · refine ⟨m ||| 2 ^ k, Nat.or_lt_two_pow (Nat.lt_of_lt_of_le hm (Nat.pow_le_pow_right (by decide) (by omega))) (Nat.pow_lt_pow_right (by decide) (by omega)), fun t => ?_⟩
      rw [Nat.testBit_or, Bool.or_eq_true, h, Nat.testBit_two_pow]
      by_cases e : k = t
      · subst e; simp [hp]
      · simp [e]; intro _; omega
    · refine ⟨m, Nat.lt_of_lt_of_le hm (Nat.pow_le_pow_right (by decide) (by omega)), fun t => ?_⟩
      rw [h]
      constructor
      · rintro ⟨h1, h2⟩; exact ⟨by omega, h2⟩
      · rintro ⟨h1, h2⟩
        refine ⟨?_, h2⟩
        by_cases e : t = k
        · rw [e] at h2; exact absurd h2 hp
        · omega

theorem Beg.bound {tn n : Nat} {L : Nat → Int} {R : Nat → List Int} {x t : Int} (h : Beg tn n L R x t) : (0 : Int) ≤ t ∧ t < (tn : Int) := by
  induction h with
  | term t h0 h1 => exact ⟨h0, h1⟩
  | prod _ _ _ _ _ _ _ _ _ ih => exact ih

/-- What is found of the nonterminals, told once: whether each vanishes, and its terminals as a set. -/
structure FOf (tn n : Nat) (L : Nat → Int) (R : Nat → List Int) (F : Nat → Bool) (M : Nat → Nat) : Prop where
  nul : ∀ i : Nat, F i = true ↔ Nul n L R ((tn + i : Nat) : Int)
  beg : ∀ i t : Nat, (M i).testBit t = true ↔ Beg tn n L R ((tn + i : Nat) : Int) (t : Int)
theorem FOf.exists (tn n : Nat) (L : Nat → Int) (R : Nat → List Int) : ∃ F M, FOf tn n L R F M := by
  have h1 : ∀ i : Nat, ∃ b : Bool, b = true ↔ Nul n L R ((tn + i : Nat) : Int) := fun i => boolOf _
  have h2 : ∀ i : Nat, ∃ m : Nat, ∀ t : Nat, m.testBit t = true ↔ Beg tn n L R ((tn + i : Nat) : Int) (t : Int) := fun i => by
    obtain ⟨m, _, h⟩ := exists_mask (fun t => Beg tn n L R ((tn + i : Nat) : Int) (t : Int)) tn
    refine ⟨m, fun t => (h t).trans ⟨fun h => h.2, fun h => ⟨?_, h⟩⟩⟩
    have := h.bound; omega
  exact ⟨fun i => (h1 i).choose, fun i => (h2 i).choose, fun i => (h1 i).choose_spec, fun i => (h2 i).choose_spec⟩
theorem FOf.eq {tn n : Nat} {L : Nat → Int} {R : Nat → List Int} {F : Nat → Bool} {M : Nat → Nat} {v : Nat} {m : Nat → Nat} (h : FOf tn n L R F M) (hf : Found tn n L R v m) : (∀ i, v.testBit (tn + i) = F i) ∧ ∀ i, m (tn + i) = M i := by
  constructor
  · intro i
    have h3 : v.testBit (tn + i) = true ↔ F i = true := (hf.nul (tn + i)).trans (h.nul i).symm
    cases ha : v.testBit (tn + i) <;> cases hb : F i <;> simp_all
  · intro i
    apply Nat.eq_of_testBit_eq
    intro t
    have h3 : (m (tn + i)).testBit t = true ↔ (M i).testBit t = true := (hf.beg (tn + i) t).trans (h.beg i t).symm
    cases ha : (m (tn + i)).testBit t <;> cases hb : (M i).testBit t <;> simp_all

theorem NlAt.tab {w X : World} {cs : Array Value} {tn S nn kb vb fb rb : Nat} {f : Nat → Nat} {v : Nat} {m : Nat → Nat} {t : TypeId} {c : Nat → Value} (h : NlAt w X cs tn S nn kb vb fb rb f v m t c) (hT : B.Tab w) (h0 : 0 < w.heap.size) : B.Tab X ∧ 0 < X.heap.size := ⟨Tab_kept hT h.grown h0, Nat.lt_of_lt_of_le h0 h.grown.size⟩

/-- The answer of Sets. -/
def SetsTold (nn : Nat) (Q : Nat → List Int) (w : World) (e : Ending) (y : World) : Prop :=
  ∃ (k : Nat) (ua : Nat → Option Addr) (uc : Nat → Nat), e = .returned (.tuple #[.slice (some ⟨k, 0, none⟩) nn nn, .int .i64 0]) ∧ w.heap.size ≤ k ∧ ValAt y k nn 24 (fun i => .slice (ua i) (Q i).length (uc i)) ∧ (∀ i, i < nn → RowIn y (ua i) (Q i) w.heap.size) ∧ w.grownBy y none

set_option maxRecDepth 100000 in
set_option maxHeartbeats 1000000 in
theorem sets_ok (ta na la pa : Option Addr) (tc nc lc pc : Nat) (ts : List (ByteArray × Int)) (ns : List ByteArray) (lv : List Int) (n : Nat) (L : Nat → Int) (R : Nat → List Int) (ra : Nat → Option Addr) (rc : Nat → Nat) (V : Nat → Int) (st : Int) (w : World) (tn nn ln : Nat) (hlen : ts.length = tn ∧ ns.length = nn ∧ lv.length = ln) (hG : GAt w ta na la pa tc nc lc pc ts ns lv n L R ra rc V) (h : validOK ts ns lv st n L R V ∨ closedOK ts ns lv st n L R V) {cl : Bool} (hM : MayOK tn nn n st L R cl) (F : Nat → Bool) (Mk : Nat → Nat) (hF : FOf tn n L R F Mk) (hT : B.Tab w) (h0 : 0 < w.heap.size) (Q : Nat → List Int) (hQ : ∀ i, Q i = B.mems 1024 (Mk i)) :
    Calls Tryd.prog 13 #[.agg #[.slice ta tn tc, .slice na nn nc, .slice la ln lc, .int .i64 st, .slice pa n pc]] w fun e y => SetsTold nn Q w e y := by
  have HMB : Hid (∀ X, w.grownBy X none → Calls Tryd.prog 27 #[.agg #[.slice ta tn tc, .slice na nn nc, .slice la ln lc, .int .i64 st, .slice pa n pc]] X fun e w' => e = .returned (.bool true) ∧ X.grownBy w' none) := fun X hX => kmay_ok ta na la pa tc nc lc pc ts ns lv n L R ra rc V st X tn nn ln hlen (hG.kept hX) h
  have HFO : Hid (∀ X, w.grownBy X none → Calls Tryd.prog 28 #[.agg #[.slice ta tn tc, .slice na nn nc, .slice la ln lc, .int .i64 st, .slice pa n pc]] X fun e y => FoundTold tn (tn + nn) n L R X e y) := fun X hX => found_ok ta na la pa tc nc lc pc ts ns lv n L R ra rc V st X tn nn ln hlen (hG.kept hX) hM
  obtain ⟨S, hS⟩ : ∃ S, S = tn + nn := ⟨_, rfl⟩
  have HSE : Hid (S = tn + nn) := hS
  rw [← hS] at HFO
  have hnn : nn ≤ 65 := hM.nmax
  have htn : tn ≤ 65 := hM.tmax
  have HX0 : Hid (PhAt w (w.alloc (.cells #[.slice ta tn tc, .slice na nn nc, .slice la ln lc, .int .i64 st, .slice pa n pc] 27)) w.heap.size #[.slice ta tn tc, .slice na nn nc, .slice la ln lc, .int .i64 st, .slice pa n pc]) := ⟨World.grownBy_alloc _ _ none, heap_alloc_last w _⟩
  have HFF : Hid (FOf tn n L R F Mk) := hF
  have HTB : Hid (B.Tab w ∧ 0 < w.heap.size) := ⟨hT, h0⟩
  have HQ : Hid (∀ i, Q i = B.mems 1024 (Mk i)) := hQ
  obtain ⟨i0, hi0, hz0, hz1, hz2⟩ := info_parts infoInts
  clear hG hlen h hM hF hS hT h0 hQ
  go_enter Tryd.func13, Tryd.ntmps13
  go_wp2_with fail
  refine Calls.mono (HMB.out _ HX0.out.grown) ?_
  rintro e w1 ⟨rfl, hg1⟩
  have HX1 : Hid (PhAt w w1 w.heap.size #[.slice ta tn tc, .slice na nn nc, .slice la ln lc, .int .i64 st, .slice pa n pc]) := HX0.out.kept hg1
  clear hg1 HX0
  obtain ⟨k0, k1, k2, k3, k4⟩ := HX1.out.cells
  go_wp2_with fail
  refine Calls.mono (HFO.out _ HX1.out.grown) ?_
  rintro e w2 ⟨vb, fb, f, v, m, rfl, hF2, hfd, hg2⟩
  clear k0 k1 k2 k3 k4
  have HFD : Hid (∀ i, Q i = B.mems 1024 (m (tn + i))) := fun i => by rw [HQ.out, (HFF.out.eq hfd).2]
  obtain ⟨kb, hkb⟩ : ∃ kb, kb = w2.heap.size := ⟨_, rfl⟩
  obtain ⟨X2, hX2⟩ : ∃ X2, X2 = w2.alloc (.cells #[.int .i64 (tn : Int), .pointer (some ⟨vb, 0, none⟩), .slice (some ⟨fb, 0, none⟩) S S] 58) := ⟨_, rfl⟩
  have hgb : w2.grownBy X2 none := by rw [hX2]; exact World.grownBy_alloc _ _ none
  have hf2 : FAt X2 w.heap.size kb tn S fb vb f v m := by
    have h3 := hF2.kept hgb
    have h4 := HX1.out.grown.size
    exact ⟨h3.row, h3.sets, h3.van, ⟨⟨by have := h3.rng.1; omega, by have := h3.rng.1; omega⟩, ⟨by have := h3.rng.2.1; omega, by have := h3.rng.2.1; omega⟩, fun i hi => ⟨by have := h3.rng.2.2 i hi; omega, by have := h3.rng.2.2 i hi; omega⟩⟩, h3.inj, h3.ne⟩
  have HP2 : Hid (PhAt w X2 w.heap.size #[.slice ta tn tc, .slice na nn nc, .slice la ln lc, .int .i64 st, .slice pa n pc]) := HX1.out.kept (grown_trans hg2 hgb)
  have HB2 : Hid (X2.heap[kb]? = some (.cells #[.int .i64 (tn : Int), .pointer (some ⟨vb, 0, none⟩), .slice (some ⟨fb, 0, none⟩) S S] 58 (0, 0))) := by show _ = _; rw [hX2, hkb]; exact heap_alloc_last w2 _
  have HF2 : Hid (FAt X2 w.heap.size kb tn S fb vb f v m) := hf2
  have HSZ : Hid (w.heap.size < kb ∧ X2.heap.size = kb + 1) := ⟨by have h5 := (Array.getElem?_eq_some_iff.1 HX1.out.box).1; have := hg2.size; omega, by rw [hX2, hkb]; simp⟩
  obtain ⟨k0, k1, k2, k3, k4⟩ := HP2.out.cells
  rw [hX2] at k0 k1 k2 k3 k4
  have HXE := show Hid _ from hX2
  have HKE := show Hid _ from hkb
  clear hF2 hfd hg2 hf2 hgb hX2 hkb HX1
  go_wp2_with (at_make; refine wpList_make_full _ rfl _ _ 35 rfl (w2.heap.size + 1) 24 i0 (.slice none 0 0) 1 Tryd.underlying35 hi0 hz0 hz1 .i64 .i64 _ _ nn rfl rfl (by simp) (by simp) (by rw [hz2]; omega) (by unfold maxLen; omega) (by simp) ?_)
  intro w3 hown hgrow
  rw [← HXE.out] at hgrow
  rw [← HKE.out] at hown
  rw [← HKE.out]
  have hval : ValAt w3 (kb + 1) nn 24 (fun _ => .slice none 0 0) := made_rowK (B := kb + 1) rfl (by simpa [Value.cells] using hown)
  have hnl : NlAt w w3 #[.slice ta tn tc, .slice na nn nc, .slice la ln lc, .int .i64 st, .slice pa n pc] tn S nn kb vb fb (kb + 1) f v m 24 (fun _ => .slice none 0 0) := ⟨grown_trans HP2.out.grown hgrow, (HP2.out.kept hgrow).box, (boxKept HB2.out hgrow).out, HF2.out.kept hgrow, hval, ⟨HSZ.out.1, by omega⟩⟩
  obtain ⟨rb, hrb⟩ : ∃ rb, rb = kb + 1 := ⟨_, rfl⟩
  rw [← hrb] at hnl
  rw [← hrb]
  have HNL := show Hid _ from hnl
  clear hown hgrow hval hnl hrb HXE HKE HP2 HB2 HF2 HSZ k0 k1 k2 k3 k4 hi0 hz0 hz1 hz2
  obtain ⟨k0, k1, k2, k3, k4⟩ := HNL.out.ph.cells
  go_wp2_with fail
  clear k0 k1 k2 k3 k4
  go_loopg [19] nn (fun gk i wr => ∃ (k : Nat) (ua : Nat → Option Addr) (uc : Nat → Nat), k ≤ nn ∧ gk = nn - k ∧ i = .int .i64 k ∧ NlAt w wr #[.slice ta tn tc, .slice na nn nc, .slice la ln lc, .int .i64 st, .slice pa n pc] tn S nn kb vb fb rb f v m 24 (fun i => if i < k then .slice (ua i) (Q i).length (uc i) else .slice none 0 0) ∧ ∀ i, i < k → RowIn wr (ua i) (Q i) w.heap.size)
  case atStart => exact ⟨0, fun _ => none, fun _ => 0, Nat.zero_le _, rfl, rfl, HNL.out, fun i hi => absurd hi (Nat.not_lt_zero _)⟩
  case round =>
    obtain ⟨k, ua, uc, hk, hgk, rfl, hN, hR⟩ := hrel
    have HGK : Hid (gk = nn - k) := hgk
    have HN : Hid (NlAt w wr #[.slice ta tn tc, .slice na nn nc, .slice la ln lc, .int .i64 st, .slice pa n pc] tn S nn kb vb fb rb f v m 24 (fun i => if i < k then .slice (ua i) (Q i).length (uc i) else .slice none 0 0)) := hN
    have HRW : Hid (∀ i, i < k → RowIn wr (ua i) (Q i) w.heap.size) := hR
    clear hgk hN HNL hR
    by_cases hlt : k < nn
    · have hk0 : (0 : Int) ≤ (k : Int) := by omega
      have hk1 : (k : Int) < (nn : Int) := by omega
      have hkd : decide (k < nn) = true := decide_eq_true hlt
      have hj0 : (0 : Int) ≤ (tn : Int) + (k : Int) := by omega
      have hj1 : (tn : Int) + (k : Int) < (S : Int) := by have := HSE.out; omega
      have hj2 : ((tn : Int) + (k : Int)).toNat = tn + k := by omega
      have hjS : tn + k < S := by have := HSE.out; omega
      obtain ⟨k0, k1, k2, k3, k4⟩ := HN.out.ph.cells
      obtain ⟨⟨b0, b1, b2⟩, f0, f1, f2⟩ := box3 HN.out.box
      have r0 := HN.out.fat.row (tn + k) hjS
      obtain ⟨ql, hql⟩ : ∃ q, q = (Q k).length := ⟨_, rfl⟩
      have HQL : Hid (ql = (Q k).length) := hql
      have HMB2 : Hid (Calls Tryd.prog 32 #[.pointer (some ⟨f (tn + k), 0, none⟩)] wr fun e w' => ∃ a c, e = .returned (.slice a ql c) ∧ RowIn w' a (Q k) w.heap.size ∧ wr.grownBy w' none) := by
        have h5 := HN.out.tab HTB.out.1 HTB.out.2
        refine (members_any (f (tn + k)) tn (m (tn + k)) wr (HN.out.fat.sets (tn + k) hjS) h5.1 h5.2).mono ?_
        rintro e w' ⟨a, c, rfl, ho, hg⟩
        rw [← HFD.out] at ho
        refine ⟨a, c, by rw [← HFD.out, ← hql], RowIn.of ho HN.out.grown.size, hg⟩
      clear hql
      go_wp2_with fail
      refine Calls.mono HMB2.out ?_
      rintro e w5 ⟨a5, c5, rfl, hr5, hg5⟩
      have HN5 : Hid (NlAt w w5 #[.slice ta tn tc, .slice na nn nc, .slice la ln lc, .int .i64 st, .slice pa n pc] tn S nn kb vb fb rb f v m 24 (fun i => if i < k then .slice (ua i) (Q i).length (uc i) else .slice none 0 0)) := HN.out.kept hg5
      have HR5 : Hid (RowIn w5 a5 (Q k) w.heap.size ∧ ∀ i, i < k → RowIn w5 (ua i) (Q i) w.heap.size) := ⟨hr5, fun i hi => (HRW.out i hi).kept hg5⟩
      have y0 := HN5.out.row.cell k hlt
      have y1 := HN5.out.row.free k
      rw [if_neg (Nat.lt_irrefl k)] at y0
      clear hg5 hr5 HN HRW HMB2 k0 k1 k2 k3 k4 b0 b1 b2 f0 f1 f2 r0
      go_wp2_with fail
      go_roundg (nn - (k + 1))
      case measure => have := HGK.out; omega
      case rel =>
        have G : w5.grownBy (w5.setCell ⟨rb, k, none⟩ (.slice a5 ql c5)) (some rb) := grown_setCell _ _ _
        have key : ∀ {b : Option Addr} {l : List Int}, RowIn w5 b l w.heap.size → RowIn (w5.setCell ⟨rb, k, none⟩ (.slice a5 ql c5)) b l w.heap.size := fun {b l} h2 => h2.block fun j hj _ ⟨cur, hc⟩ => G.block j hj (by
          intro e
          have : j = rb := by simpa using e
          subst this
          have h3 := HN5.out.row
          unfold ValAt at h3
          rw [h3] at hc
          cases hc)
        refine ⟨k + 1, fun i => if i = k then a5 else ua i, fun i => if i = k then c5 else uc i, by omega, rfl, by go_num, ?_, fun i hi => ?_⟩
        · have h2 := HN5.out.set k (.slice a5 ql c5)
          exact ⟨h2.grown, h2.gbox, h2.box, h2.fat, h2.row.ext fun i _ => by
            unfold put
            by_cases e : i = k
            · subst e; simp [HQL.out]
            · by_cases e2 : i < k
              · have e3 : i < k + 1 := by omega
                simp [e, e2, e3]
              · have e3 : ¬ i < k + 1 := by omega
                simp [e, e2, e3], h2.lo⟩
        · by_cases e : i = k
          · subst e; simp only [if_true]; exact key HR5.out.1
          · simp only [e, if_false]; exact key (HR5.out.2 i (by omega))
    · have hkn : nn = k := by omega
      subst hkn
      have hkd : decide (nn < nn) = false := decide_eq_false (by omega)
      go_wp2_with fail
      go_ret2
      exact ⟨rb, ua, uc, rfl, by have := HN.out.lo; omega, HN.out.row.ext fun i hi => by simp [hi], HRW.out, HN.out.grown⟩

end Go.Proofs.YtdhojilmgnodeaaDoor

/-
  first: Row.
-/
namespace Go.Proofs.YtdhojilmgnodeaaDoor
open Go.RowKit Go.Maps Go.Shelf

attribute [local go_sem] Oper.semAt_some

/-- Is x one of S symbols? -/
def symB (S : Nat) (x : Int) : Bool := decide (0 ≤ x) && decide (x < (S : Int))

theorem isSymbol_any (ta na la pa : Option Addr) (tn nn ln n tc nc lc pc S : Nat) (st x : Int) (w : World) (hS : S = tn + nn) (hz : S ≤ 1024) :
    Calls Tryd.prog 37 #[.agg #[.slice ta tn tc, .slice na nn nc, .slice la ln lc, .int .i64 st, .slice pa n pc], .int .i64 x] w fun e w' => e = .returned (.bool (symB S x)) ∧ w.grownBy w' none := by
  have HSY : Hid (∀ X, Calls Tryd.prog 55 #[.agg #[.slice ta tn tc, .slice na nn nc, .slice la ln lc, .int .i64 st, .slice pa n pc]] X fun e w' => e = .returned (.int .i64 (S : Int)) ∧ X.grownBy w' none) := fun X => symbols_at ta na la pa tn nn ln n tc nc lc pc S st X hS hz
  have HG0 : Hid (w.grownBy (w.alloc (.cells #[.slice ta tn tc, .slice na nn nc, .slice la ln lc, .int .i64 st, .slice pa n pc] 27)) none) := World.grownBy_alloc _ _ none
  clear hS
  by_cases h0 : 0 ≤ x
  · have hd : decide (0 ≤ x) = true := decide_eq_true h0
    go_enter Tryd.func37, Tryd.ntmps37
    go_wp2_with fail
    refine Calls.mono (HSY.out _) ?_
    rintro e w1 ⟨rfl, hg1⟩
    have HG1 : Hid (w.grownBy w1 none) := grown_trans HG0.out hg1
    clear hg1
    go_wp2_with fail
    go_ret
    exact ⟨by unfold symB; rw [hd, Bool.true_and]; rfl, HG1.out⟩
  · have hd : decide (0 ≤ x) = false := decide_eq_false h0
    go_enter Tryd.func37, Tryd.ntmps37
    go_wp2_with fail
    go_ret
    exact ⟨by unfold symB; rw [hd, Bool.false_and]; rfl, HG0.out⟩

section
variable (ta na la pa : Option Addr) (tn nn ln n tc nc lc pc S gb : Nat) (st : Int) (hS : S = tn + nn) (hz : S ≤ 1024)
include hS hz
theorem row1_any (x : Int) (w : World) (hB : w.heap[gb]? = some (.cells #[.slice ta tn tc, .slice na nn nc, .slice la ln lc, .int .i64 st, .slice pa n pc] 27 (0, 0))) :
    Calls Tryd.prog 36 #[.int .i64 x, .pointer (some ⟨gb, 0, none⟩)] w fun e w' => e = .returned (.bool (!symB S x)) ∧ w.grownBy w' none := by
  have HSY : Hid (∀ X, Calls Tryd.prog 37 #[.agg #[.slice ta tn tc, .slice na nn nc, .slice la ln lc, .int .i64 st, .slice pa n pc], .int .i64 x] X fun e w' => e = .returned (.bool (symB S x)) ∧ X.grownBy w' none) := fun X => isSymbol_any ta na la pa tn nn ln n tc nc lc pc S st x X hS hz
  obtain ⟨k0, k1, k2, k3, k4⟩ := PhAt.cells (w := w) ⟨grown_refl _ _, hB⟩
  obtain ⟨b, hb⟩ : ∃ b, b = symB S x := ⟨_, rfl⟩
  rw [← hb] at HSY
  rw [← hb]
  clear hS hz hB hb
  go_enter Tryd.func36, Tryd.ntmps36
  go_wp2_with fail
  refine Calls.mono (HSY.out _) ?_
  rintro e w1 ⟨rfl, hg1⟩
  go_wp2_with fail
  go_ret
  exact ⟨rfl, hg1⟩

set_option maxRecDepth 100000 in
theorem indexFuncI_any (a : Option Addr) (cap : Nat) (l : List Int) (w : World) (hl : IntsAt w a l) (hn : l.length ≤ 17592186044416) (hB : w.heap[gb]? = some (.cells #[.slice ta tn tc, .slice na nn nc, .slice la ln lc, .int .i64 st, .slice pa n pc] 27 (0, 0))) :
    Calls Tryd.prog 54 #[.slice a l.length cap, .func (.func 36) #[] #[.pointer (some ⟨gb, 0, none⟩)]] w fun e w' => (∃ q : Int, e = .returned (.int .i64 q) ∧ -1 ≤ q ∧ (0 ≤ q ↔ ∃ x ∈ l, symB S x = false)) ∧ w.grownBy w' none := by
  have HL : Hid (IntsAt w a l) := hl
  obtain ⟨m, hln⟩ : ∃ m, m = l.length := ⟨_, rfl⟩
  have HLN : Hid (l.length = m) := hln.symm
  rw [← hln] at hn ⊢
  have HB : Hid (w.heap[gb]? = some (.cells #[.slice ta tn tc, .slice na nn nc, .slice la ln lc, .int .i64 st, .slice pa n pc] 27 (0, 0))) := hB
  have HRO : Hid (∀ x X, w.grownBy X none → Calls Tryd.prog 36 #[.int .i64 x, .pointer (some ⟨gb, 0, none⟩)] X fun e w' => e = .returned (.bool (!symB S x)) ∧ X.grownBy w' none) := fun x X hX => row1_any ta na la pa tn nn ln n tc nc lc pc S gb st hS hz x X (boxKept hB hX).out
  clear hl hln hB hS
  go_enter Tryd.func54, Tryd.ntmps54
  go_wp2_with fail
  go_loopg [8] m (fun gk j wr => ∃ k : Nat, k ≤ m ∧ gk = m - k ∧ j = .int .i64 k ∧ w.grownBy wr none ∧ ¬ ∃ x ∈ l.take k, symB S x = false)
  case atStart => exact ⟨0, Nat.zero_le _, rfl, rfl, grown_refl _ _, by simp⟩
  case round =>
    obtain ⟨k, hk, hgk, rfl, hg, hno⟩ := hrel
    have HGK : Hid (gk = m - k) := hgk
    have HG : Hid (w.grownBy wr none) := hg
    have HA : Hid (¬ ∃ x ∈ l.take k, symB S x = false) := hno
    clear hno hg hgk
    by_cases hlt : k < m
    · have hkl : k < l.length := by rw [HLN.out]; exact hlt
      obtain ⟨bl, off, rfl, hc⟩ : ∃ b off, a = some ⟨b, off, none⟩ ∧ wr.cell? ⟨b, off + k, none⟩ = some (.int .i64 (l.getD k 0)) := by
        rcases HL.out.kept HG.out with h | ⟨b, off, e, h⟩
        · rw [h] at hkl; cases hkl
        · exact ⟨b, off, e, h k hkl⟩
      obtain ⟨x, hx⟩ : ∃ x, x = l.getD k 0 := ⟨_, rfl⟩
      have HMM : Hid (x ∈ l ∧ l.take (k + 1) = l.take k ++ [x]) := by
        have e : l.getD k 0 = l[k] := by rw [List.getD_eq_getElem?_getD, List.getElem?_eq_getElem hkl]; rfl
        refine ⟨by rw [hx, e]; exact List.getElem_mem _, by rw [List.take_succ_eq_append_getElem hkl, hx, e]⟩
      rw [← hx] at hc
      have hk0 : (0 : Int) ≤ (k : Int) := by omega
      have hk1 : (k : Int) < (m : Int) := by omega
      have hkd : decide (k < m) = true := decide_eq_true hlt
      have HH := show Hid _ from HRO.out x wr HG.out
      obtain ⟨b, hb⟩ : ∃ b, b = symB S x := ⟨_, rfl⟩
      have HBE : Hid (b = symB S x) := hb
      rw [← hb] at HH
      clear hx hb
      go_wp2_with fail
      refine Calls.mono HH.out ?_
      rintro e w2 ⟨rfl, hg2⟩
      have HG2 : Hid (w.grownBy w2 none) := grown_trans HG.out hg2
      clear HH hg2 hc
      cases b with
      | false =>
        go_wp2_with fail
        go_ret
        exact ⟨⟨k, rfl, by omega, ⟨fun _ => ⟨x, HMM.out.1, HBE.out.symm⟩, fun _ => by omega⟩⟩, HG2.out⟩
      | true =>
        go_wp2_with fail
        go_roundg (m - (k + 1))
        case measure => have := HGK.out; omega
        case rel => exact ⟨k + 1, by omega, rfl, by go_num, HG2.out, by
          rintro ⟨y, hy, h3⟩
          rw [HMM.out.2] at hy
          rcases List.mem_append.1 hy with hy | hy
          · exact HA.out ⟨y, hy, h3⟩
          · simp only [List.mem_singleton] at hy
            rw [hy, ← HBE.out] at h3
            cases h3⟩
    · have hkn : m = k := by omega
      subst hkn
      have hkd : decide (m < m) = false := decide_eq_false (by omega)
      have ht : l.take m = l := List.take_of_length_le (Nat.le_of_eq HLN.out)
      rw [ht] at HA
      go_wp2_with fail
      go_ret
      exact ⟨⟨-1, rfl, by omega, ⟨fun h => absurd h (by omega), fun h => absurd h HA.out⟩⟩, HG.out⟩

theorem containsFuncI_any (a : Option Addr) (cap : Nat) (l : List Int) (w : World) (hl : IntsAt w a l) (hn : l.length ≤ 17592186044416) (hB : w.heap[gb]? = some (.cells #[.slice ta tn tc, .slice na nn nc, .slice la ln lc, .int .i64 st, .slice pa n pc] 27 (0, 0))) (r : Bool) (hr : r = true ↔ ∃ x ∈ l, symB S x = false) :
    Calls Tryd.prog 35 #[.slice a l.length cap, .func (.func 36) #[] #[.pointer (some ⟨gb, 0, none⟩)]] w fun e w' => e = .returned (.bool r) ∧ w.grownBy w' none := by
  have hI := indexFuncI_any ta na la pa tn nn ln n tc nc lc pc S gb st hS hz a cap l w hl hn hB
  have HR : Hid (r = true ↔ ∃ x ∈ l, symB S x = false) := hr
  clear hl hr hB hS
  go_enter Tryd.func35, Tryd.ntmps35
  go_wp2_with fail
  refine hI.mono ?_
  rintro e w2 ⟨⟨q, rfl, h1, h2⟩, hg⟩
  have HQ : Hid (decide (0 ≤ q) = r) := by
    show decide (0 ≤ q) = r
    rw [Bool.eq_iff_iff, decide_eq_true_eq, h2, HR.out]
  clear h2 hI
  go_wp2_with fail
  go_ret
  exact ⟨by rw [← HQ.out]; rfl, hg⟩
end

theorem owns_lowerK {w : World} {base base' e size n : Nat} {v : Value} {xs : List Value} (h : w.ownsRow base e size v n xs) (hb : base' ≤ base) : w.ownsRow base' e size v n xs := by
  refine ⟨h.1, ?_⟩
  rcases h.2 with h | ⟨g, cap, cur, hv, hB, hr⟩
  · exact .inl h
  · exact .inr ⟨g, cap, cur, hv, Nat.le_trans hb hB, hr⟩

/-- The answer of Row. -/
def RowTold (q : Nat) (b : Bool) (w : World) (e : Ending) (y : World) : Prop :=
  ∃ (a : Option Addr) (c : Nat), e = .returned (.tuple #[.slice a (B.mems 1024 q).length c, .bool b, .int .i64 0]) ∧ y.ownsRow w.heap.size 3 1 (.slice a (B.mems 1024 q).length c) (B.mems 1024 q).length ((B.mems 1024 q).map (Value.int .i64)) ∧ w.grownBy y none

set_option maxRecDepth 100000 in
set_option maxHeartbeats 1000000 in
theorem row_bad1 (ta na la pa : Option Addr) (tc nc lc pc : Nat) (ts : List (ByteArray × Int)) (ns : List ByteArray) (lv : List Int) (n : Nat) (L : Nat → Int) (R : Nat → List Int) (ra : Nat → Option Addr) (rc : Nat → Nat) (V : Nat → Int) (st : Int) (w : World) (tn nn ln : Nat) (hlen : ts.length = tn ∧ ns.length = nn ∧ lv.length = ln) (hG : GAt w ta na la pa tc nc lc pc ts ns lv n L R ra rc V) (a : Option Addr) (len cap : Nat) (hv : ¬ validOK ts ns lv st n L R V) (hc : ¬ closedOK ts ns lv st n L R V) : Calls Tryd.prog 17 #[.agg #[.slice ta tn tc, .slice na nn nc, .slice la ln lc, .int .i64 st, .slice pa n pc], .slice a len cap] w fun e y => e = .returned (.tuple #[.slice none 0 0, .bool false, .int .i64 1]) ∧ w.grownBy y none := by
  have HMB : Hid (∀ X, w.grownBy X none → Calls Tryd.prog 27 #[.agg #[.slice ta tn tc, .slice na nn nc, .slice la ln lc, .int .i64 st, .slice pa n pc]] X fun e w' => e = .returned (.bool false) ∧ X.grownBy w' none) := fun X hX => kmay_bad ta na la pa tc nc lc pc ts ns lv n L R ra rc V st X tn nn ln hlen (hG.kept hX) hv hc
  have HG0 : Hid (w.grownBy (w.alloc (.cells #[.slice ta tn tc, .slice na nn nc, .slice la ln lc, .int .i64 st, .slice pa n pc] 27)) none) := World.grownBy_alloc _ _ none
  clear hG hlen hv hc
  go_enter Tryd.func17, Tryd.ntmps17
  go_wp2_with fail
  refine Calls.mono (HMB.out _ HG0.out) ?_
  rintro e w1 ⟨rfl, hg1⟩
  have HG1 : Hid (w.grownBy w1 none) := grown_trans HG0.out hg1
  clear hg1
  go_wp2_with fail
  go_ret3
  exact ⟨rfl, HG1.out⟩

set_option maxRecDepth 100000 in
set_option maxHeartbeats 1000000 in
theorem row_bad2 (ta na la pa : Option Addr) (tc nc lc pc : Nat) (ts : List (ByteArray × Int)) (ns : List ByteArray) (lv : List Int) (n : Nat) (L : Nat → Int) (R : Nat → List Int) (ra : Nat → Option Addr) (rc : Nat → Nat) (V : Nat → Int) (st : Int) (w : World) (tn nn ln : Nat) (hlen : ts.length = tn ∧ ns.length = nn ∧ lv.length = ln) (hG : GAt w ta na la pa tc nc lc pc ts ns lv n L R ra rc V) (a : Option Addr) (cap : Nat) (l : List Int) (hl : IntsAt w a l) (hlen2 : l.length ≤ 17592186044416) (h : validOK ts ns lv st n L R V ∨ closedOK ts ns lv st n L R V) {cl : Bool} (hM : MayOK tn nn n st L R cl) (hx : ∃ x ∈ l, symB (tn + nn) x = false) : Calls Tryd.prog 17 #[.agg #[.slice ta tn tc, .slice na nn nc, .slice la ln lc, .int .i64 st, .slice pa n pc], .slice a l.length cap] w fun e y => e = .returned (.tuple #[.slice none 0 0, .bool false, .int .i64 1]) ∧ w.grownBy y none := by
  have HMB : Hid (∀ X, w.grownBy X none → Calls Tryd.prog 27 #[.agg #[.slice ta tn tc, .slice na nn nc, .slice la ln lc, .int .i64 st, .slice pa n pc]] X fun e w' => e = .returned (.bool true) ∧ X.grownBy w' none) := fun X hX => kmay_ok ta na la pa tc nc lc pc ts ns lv n L R ra rc V st X tn nn ln hlen (hG.kept hX) h
  have HX0 : Hid (PhAt w (w.alloc (.cells #[.slice ta tn tc, .slice na nn nc, .slice la ln lc, .int .i64 st, .slice pa n pc] 27)) w.heap.size #[.slice ta tn tc, .slice na nn nc, .slice la ln lc, .int .i64 st, .slice pa n pc]) := ⟨World.grownBy_alloc _ _ none, heap_alloc_last w _⟩
  have HCF : Hid (∀ X, PhAt w X w.heap.size #[.slice ta tn tc, .slice na nn nc, .slice la ln lc, .int .i64 st, .slice pa n pc] → Calls Tryd.prog 35 #[.slice a l.length cap, .func (.func 36) #[] #[.pointer (some ⟨w.heap.size, 0, none⟩)]] X fun e w' => e = .returned (.bool true) ∧ X.grownBy w' none) := fun X hX => containsFuncI_any ta na la pa tn nn ln n tc nc lc pc (tn + nn) w.heap.size st rfl (by have := hM.tmax; have := hM.nmax; omega) a cap l X (hl.kept hX.grown) hlen2 hX.box true ⟨fun _ => hx, fun _ => rfl⟩
  obtain ⟨m, hm⟩ : ∃ m, m = l.length := ⟨_, rfl⟩
  rw [← hm] at HCF
  rw [← hm]
  clear hG hlen h hM hx hl hlen2 hm
  go_enter Tryd.func17, Tryd.ntmps17
  go_wp2_with fail
  refine Calls.mono (HMB.out _ HX0.out.grown) ?_
  rintro e w1 ⟨rfl, hg1⟩
  have HX1 : Hid (PhAt w w1 w.heap.size #[.slice ta tn tc, .slice na nn nc, .slice la ln lc, .int .i64 st, .slice pa n pc]) := HX0.out.kept hg1
  clear hg1 HX0
  go_wp2_with fail
  refine Calls.mono (HCF.out _ HX1.out) ?_
  rintro e w2 ⟨rfl, hg2⟩
  have HG2 : Hid (w.grownBy w2 none) := grown_trans HX1.out.grown hg2
  clear hg2
  go_wp2_with fail
  go_ret3
  exact ⟨rfl, HG2.out⟩

theorem Found.rowq {tn n : Nat} {L : Nat → Int} {R : Nat → List Int} {v : Nat} {m : Nat → Nat} (h : Found tn n L R v m) {l : List Int} (hl : ∀ x ∈ l, (0 : Int) ≤ x) {b : Bool} {q : Nat} (hb : b = true ↔ RowN n L R l) (hq : ∀ t : Nat, q.testBit t = true ↔ RowB tn n L R l (t : Int)) : rowV v l = b ∧ rowM v m l = q := by
  have h2 := h.row hl
  constructor
  · have h3 := h2.1.trans hb.symm
    cases ha : rowV v l <;> cases hc : b <;> simp_all
  · apply Nat.eq_of_testBit_eq
    intro t
    have h3 := (h2.2 t).trans (hq t).symm
    cases ha : (rowM v m l).testBit t <;> cases hc : q.testBit t <;> simp_all

set_option maxRecDepth 100000 in
set_option maxHeartbeats 2000000 in
theorem row_ok (ta na la pa : Option Addr) (tc nc lc pc : Nat) (ts : List (ByteArray × Int)) (ns : List ByteArray) (lv : List Int) (n : Nat) (L : Nat → Int) (R : Nat → List Int) (ra : Nat → Option Addr) (rc : Nat → Nat) (V : Nat → Int) (st : Int) (w : World) (tn nn ln : Nat) (hlen : ts.length = tn ∧ ns.length = nn ∧ lv.length = ln) (hG : GAt w ta na la pa tc nc lc pc ts ns lv n L R ra rc V) (a : Option Addr) (cap : Nat) (l : List Int) (hl : IntsAt w a l) (hlen2 : l.length ≤ 17592186044416) (h : validOK ts ns lv st n L R V ∨ closedOK ts ns lv st n L R V) {cl : Bool} (hM : MayOK tn nn n st L R cl) (hx : ∀ x ∈ l, (0 : Int) ≤ x ∧ x < ((tn + nn : Nat) : Int)) (hT : B.Tab w) (h0 : 0 < w.heap.size) (b : Bool) (q : Nat) (hb : b = true ↔ RowN n L R l) (hq : ∀ t : Nat, q.testBit t = true ↔ RowB tn n L R l (t : Int)) :
    Calls Tryd.prog 17 #[.agg #[.slice ta tn tc, .slice na nn nc, .slice la ln lc, .int .i64 st, .slice pa n pc], .slice a l.length cap] w fun e y => RowTold q b w e y := by
  have hSz : tn + nn ≤ 1024 := by have := hM.tmax; have := hM.nmax; omega
  have htn : tn ≤ 1024 := by omega
  have HMB : Hid (∀ X, w.grownBy X none → Calls Tryd.prog 27 #[.agg #[.slice ta tn tc, .slice na nn nc, .slice la ln lc, .int .i64 st, .slice pa n pc]] X fun e w' => e = .returned (.bool true) ∧ X.grownBy w' none) := fun X hX => kmay_ok ta na la pa tc nc lc pc ts ns lv n L R ra rc V st X tn nn ln hlen (hG.kept hX) h
  have HFO : Hid (∀ X, w.grownBy X none → Calls Tryd.prog 28 #[.agg #[.slice ta tn tc, .slice na nn nc, .slice la ln lc, .int .i64 st, .slice pa n pc]] X fun e y => FoundTold tn (tn + nn) n L R X e y) := fun X hX => found_ok ta na la pa tc nc lc pc ts ns lv n L R ra rc V st X tn nn ln hlen (hG.kept hX) hM
  have HUN : Hid (∀ X, w.grownBy X none → Calls Tryd.prog 39 #[.agg #[.slice ta tn tc, .slice na nn nc, .slice la ln lc, .int .i64 st, .slice pa n pc], .slice a l.length cap] X fun e y => UnlTold l X e y) := fun X hX => unlike_any ta na la pa a tn nn ln n tc nc lc pc cap (tn + nn) st l X rfl hSz (hl.kept hX) hlen2 hx
  have HX0 : Hid (PhAt w (w.alloc (.cells #[.slice ta tn tc, .slice na nn nc, .slice la ln lc, .int .i64 st, .slice pa n pc] 27)) w.heap.size #[.slice ta tn tc, .slice na nn nc, .slice la ln lc, .int .i64 st, .slice pa n pc]) := ⟨World.grownBy_alloc _ _ none, heap_alloc_last w _⟩
  have HCF : Hid (∀ X, PhAt w X w.heap.size #[.slice ta tn tc, .slice na nn nc, .slice la ln lc, .int .i64 st, .slice pa n pc] → Calls Tryd.prog 35 #[.slice a l.length cap, .func (.func 36) #[] #[.pointer (some ⟨w.heap.size, 0, none⟩)]] X fun e w' => e = .returned (.bool false) ∧ X.grownBy w' none) := fun X hX => containsFuncI_any ta na la pa tn nn ln n tc nc lc pc (tn + nn) w.heap.size st rfl hSz a cap l X (hl.kept hX.grown) hlen2 hX.box false ⟨fun h => (by cases h), fun ⟨x, h1, h2⟩ => by
    have h3 := hx x h1
    have h4 : symB (tn + nn) x = true := by unfold symB; simp; omega
    rw [h4] at h2; cases h2⟩
  have HRQ : Hid (∀ v m, Found tn n L R v m → rowV v (unl l) = b ∧ rowM v m (unl l) = q) := fun v m hf => by
    rw [unl_rowV, unl_rowM]; exact hf.rowq (fun x hx2 => (hx x hx2).1) hb hq
  have HUL : Hid ((unl l).length ≤ 17592186044416 ∧ ∀ x ∈ unl l, (0 : Int) ≤ x ∧ x < ((tn + nn : Nat) : Int)) := ⟨Nat.le_trans (unl_len l) hlen2, fun x hx2 => hx x ((unl_mem l x).1 hx2)⟩
  have HTB : Hid (B.Tab w ∧ 0 < w.heap.size) := ⟨hT, h0⟩
  obtain ⟨m, hm⟩ : ∃ m, m = l.length := ⟨_, rfl⟩
  rw [← hm] at HCF HUN
  rw [← hm]
  obtain ⟨S, hS⟩ : ∃ S, S = tn + nn := ⟨_, rfl⟩
  rw [← hS] at HFO HUL
  obtain ⟨ul, hul⟩ : ∃ u, u = (unl l).length := ⟨_, rfl⟩
  have HULE : Hid (ul = (unl l).length) := hul
  clear hG hlen h hM hx hl hlen2 hm hT h0 hb hq hS hSz hul
  go_enter Tryd.func17, Tryd.ntmps17
  go_wp2_with fail
  refine Calls.mono (HMB.out _ HX0.out.grown) ?_
  rintro e w1 ⟨rfl, hg1⟩
  have HX1 : Hid (PhAt w w1 w.heap.size #[.slice ta tn tc, .slice na nn nc, .slice la ln lc, .int .i64 st, .slice pa n pc]) := HX0.out.kept hg1
  clear hg1 HX0
  go_wp2_with fail
  refine Calls.mono (HCF.out _ HX1.out) ?_
  rintro e w2 ⟨rfl, hg2⟩
  have HX2 : Hid (PhAt w w2 w.heap.size #[.slice ta tn tc, .slice na nn nc, .slice la ln lc, .int .i64 st, .slice pa n pc]) := HX1.out.kept hg2
  clear hg2 HX1
  have HKS : Hid (∀ x, w2.grownBy x none → x.cell? ⟨w.heap.size, 0, none⟩ = some (.slice ta tn tc) ∧ x.cell? ⟨w.heap.size, 1, none⟩ = some (.slice na nn nc) ∧ x.cell? ⟨w.heap.size, 2, none⟩ = some (.slice la ln lc) ∧ x.cell? ⟨w.heap.size, 3, none⟩ = some (.int .i64 st) ∧ x.cell? ⟨w.heap.size, 4, none⟩ = some (.slice pa n pc)) := fun x hx => (HX2.out.kept hx).cells
  have HGc : Hid (w2.grownBy w2.drew none) := grown_drewN _ 1
  go_wp2_with fail
  go_region_held3 (fun x => x.cell? ⟨w.heap.size, 0, none⟩ = some (.slice ta tn tc) ∧ x.cell? ⟨w.heap.size, 1, none⟩ = some (.slice na nn nc) ∧ x.cell? ⟨w.heap.size, 2, none⟩ = some (.slice la ln lc) ∧ x.cell? ⟨w.heap.size, 3, none⟩ = some (.int .i64 st) ∧ x.cell? ⟨w.heap.size, 4, none⟩ = some (.slice pa n pc)) (first | exact HKS.out _ HGc.out | go_keep)
    ((first
      | (go_at_call 28; refine Calls.mono (HFO.out _ (grown_trans HX2.out.grown HGc.out)) ?_; rintro e w3 ⟨vb, fb, f, v, m3, rfl, hF3, hfd, hg3⟩; have HF3 : Hid (FAt w3 w2.drew.heap.size w3.heap.size tn S fb vb f v m3) := hF3; have HFD : Hid (Found tn n L R v m3) := hfd; have HGc : Hid (w2.grownBy w3 none) := grown_trans HGc.out hg3; clear hF3 hfd hg3)
      | (go_at_call 39; refine Calls.mono (HUN.out _ (grown_trans HX2.out.grown HGc.out)) ?_; rintro e w4 ⟨a4, c4, rfl, ho4, hg4⟩; rw [← HULE.out]; have HF4 : Hid (FAt w4 w2.drew.heap.size w3.heap.size tn S fb vb f v m3 ∧ w3.heap.size ≤ w4.heap.size) := ⟨HF3.out.kept hg4, hg4.size⟩; have HI4 : Hid (IntsAt w4 a4 (unl l)) := (RowIn.of ho4 (Nat.zero_le _)).ints; have HGc : Hid (w2.grownBy w4 none) := grown_trans HGc.out hg4; clear ho4 hg4)
      | (go_at_call 38; rw [HULE.out]; refine Calls.mono (ofRow_any _ _ tn S fb vb f v m3 a4 c4 (unl l) _ HF4.out.1 HI4.out HUL.out.1 HUL.out.2 htn HF4.out.2) ?_; rintro e w5 ⟨b5, rfl, hb5, hS5, hg5⟩; have HS5 : Hid (B.SetM w5 (some ⟨b5, 0, none⟩) tn q ∧ rowV v (unl l) = b) := ⟨by { have h7 := (HRQ.out v m3 HFD.out).2; rw [h7] at hS5; exact hS5 }, (HRQ.out v m3 HFD.out).1⟩; have HGc : Hid (w2.grownBy w5 none) := grown_trans HGc.out hg5; clear hb5 hS5 hg5)
      | fail))
  rw [HS5.out.2]
  have HGW : Hid (w.grownBy w5 none) := grown_trans HX2.out.grown HGc.out
  have HTX : Hid (B.Tab w5 ∧ 0 < w5.heap.size) := ⟨Tab_kept HTB.out.1 HGW.out HTB.out.2, Nat.lt_of_lt_of_le HTB.out.2 HGW.out.size⟩
  obtain ⟨Z, hZ⟩ : ∃ Z, Z = B.mems 1024 q := ⟨_, rfl⟩
  have HMB2 := show Hid _ from members_any b5 tn q w5 HS5.out.1 HTX.out.1 HTX.out.2
  rw [← hZ] at HMB2
  obtain ⟨zl, hzl⟩ : ∃ z, z = Z.length := ⟨_, rfl⟩
  rw [← hzl] at HMB2
  have HZE : Hid (Z = B.mems 1024 q ∧ zl = (B.mems 1024 q).length) := ⟨hZ, by rw [hzl, hZ]⟩
  clear hZ hzl HKS
  go_wp2_with fail
  refine Calls.mono HMB2.out ?_
  rintro e w6 ⟨a6, c6, rfl, ho6, hg6⟩
  have HO6 : Hid (w6.ownsRow w.heap.size 3 1 (.slice a6 zl c6) zl (Z.map (Value.int .i64)) ∧ w.grownBy w6 none) := ⟨owns_lowerK ho6 HGW.out.size, grown_trans HGW.out hg6⟩
  clear ho6 hg6
  go_wp2_with fail
  go_ret3
  refine ⟨a6, c6, by rw [← HZE.out.2]; rfl, ?_, HO6.out.2⟩
  have := HO6.out.1
  rw [HZE.out.1, HZE.out.2] at this
  exact this

end Go.Proofs.YtdhojilmgnodeaaDoor
