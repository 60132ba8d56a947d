import Derived.Test.YtdhojilmgnodeaaDoorQmogflcnbbcpe
import Derived.Test.YtdhojilmgnodeaaDoorQfpppnncfiiga

/-
  first: Sets, its rows in blocks of their own.
-/
namespace Go.Proofs.YtdhojilmgnodeaaDoor
open Go.RowKit Go.Maps Go.Shelf

attribute [local go_sem] Oper.semAt_some

/-- Rows of numbers, each in a block of its own. -/
structure RowsO (X : World) (B k : Nat) (ua : Nat → Option Addr) (Q : Nat → List Int) (uc : Nat → Nat) : Prop where
  own : ∀ i, i < k → X.ownsRow B 3 1 (.slice (ua i) (Q i).length (uc i)) (Q i).length ((Q i).map (Value.int .i64))
  sep : ∀ i j, i < j → j < k → (Value.slice (ua i) (Q i).length (uc i)).ownBlock = none ∨ (Value.slice (ua i) (Q i).length (uc i)).ownBlock ≠ (Value.slice (ua j) (Q j).length (uc j)).ownBlock
theorem RowsO.zero (X : World) (B : Nat) (ua : Nat → Option Addr) (Q : Nat → List Int) (uc : Nat → Nat) : RowsO X B 0 ua Q uc := ⟨fun _ h => absurd h (Nat.not_lt_zero _), fun _ _ _ h => absurd h (Nat.not_lt_zero _)⟩
section
variable {X Y : World} {B k : Nat} {ua : Nat → Option Addr} {Q : Nat → List Int} {uc : Nat → Nat}
theorem RowsO.kept (h : RowsO X B k ua Q uc) (hg : X.grownBy Y none) : RowsO Y B k ua Q uc := ⟨fun i hi => (h.own i hi).kept hg (by cases (Value.slice (ua i) (Q i).length (uc i)).ownBlock <;> simp), h.sep⟩
theorem RowsO.set {r N : Nat} {c : Nat → Value} (h : RowsO X B k ua Q uc) (hg : X.grownBy Y (some r)) (hr : ValAt X r N 24 c) : RowsO Y B k ua Q uc := ⟨fun i hi => (h.own i hi).kept hg (owns_nebox (h.own i hi) hr (by decide)), h.sep⟩
theorem RowsO.more {a : Option Addr} {c : Nat} (h : RowsO X B k ua Q uc) (hg : X.grownBy Y none) (ho : Y.ownsRow X.heap.size 3 1 (.slice a (Q k).length c) (Q k).length ((Q k).map (Value.int .i64))) (hB : B ≤ X.heap.size) : RowsO Y B (k + 1) (fun i => if i = k then a else ua i) Q (fun i => if i = k then c else uc i) := by
  refine ⟨fun i hi => ?_, fun i j hij hj => ?_⟩
  · by_cases e : i = k
    · subst e; simp only [if_true]; exact owns_lowerK ho hB
    · simp only [e, if_false]; exact (h.kept hg).own i (by omega)
  · have ei : ¬ i = k := by omega
    simp only [ei, if_false]
    by_cases e : j = k
    · subst e
      simp only [if_true]
      cases hb : (Value.slice (ua i) (Q i).length (uc i)).ownBlock with
      | none => exact .inl rfl
      | some g =>
        right
        intro h2
        have h3 := ((h.own i hij).lt g hb).2
        have h4 := (ho.lt g h2.symm).1
        omega
    · simp only [e, if_false]; exact h.sep i j hij (by omega)
end

/-- The answer of Sets, its rows in blocks of their own. -/
def SetsOwn (nn : Nat) (Q : Nat → List Int) (w : World) (e : Ending) (y : World) : Prop :=
  ∃ (k : Nat) (ua : Nat → Option Addr) (uc : Nat → Nat), e = .returned (.tuple #[.slice (some ⟨k, 0, none⟩) nn nn, .int .i64 0]) ∧ w.heap.size ≤ k ∧ ValAt y k nn 24 (fun i => .slice (ua i) (Q i).length (uc i)) ∧ RowsO y w.heap.size nn ua Q uc ∧ w.grownBy y none

set_option maxRecDepth 100000 in
set_option maxHeartbeats 1000000 in
theorem sets_own (ta na la pa : Option Addr) (tc nc lc pc : Nat) (ts : List (ByteArray × Int)) (ns : List ByteArray) (lv : List Int) (n : Nat) (L : Nat → Int) (R : Nat → List Int) (ra : Nat → Option Addr) (rc : Nat → Nat) (V : Nat → Int) (st : Int) (w : World) (tn nn ln : Nat) (hlen : ts.length = tn ∧ ns.length = nn ∧ lv.length = ln) (hG : GAt w ta na la pa tc nc lc pc ts ns lv n L R ra rc V) (h : validOK ts ns lv st n L R V ∨ closedOK ts ns lv st n L R V) {cl : Bool} (hM : MayOK tn nn n st L R cl) (F : Nat → Bool) (Mk : Nat → Nat) (hF : FOf tn n L R F Mk) (hT : B.Tab w) (h0 : 0 < w.heap.size) (Q : Nat → List Int) (hQ : ∀ i, Q i = B.mems 1024 (Mk i)) :
    Calls Tryd.prog 13 #[.agg #[.slice ta tn tc, .slice na nn nc, .slice la ln lc, .int .i64 st, .slice pa n pc]] w fun e y => SetsOwn nn Q w e y := by
  have HMB : Hid (∀ X, w.grownBy X none → Calls Tryd.prog 27 #[.agg #[.slice ta tn tc, .slice na nn nc, .slice la ln lc, .int .i64 st, .slice pa n pc]] X fun e w' => e = .returned (.bool true) ∧ X.grownBy w' none) := fun X hX => kmay_ok ta na la pa tc nc lc pc ts ns lv n L R ra rc V st X tn nn ln hlen (hG.kept hX) h
  have HFO : Hid (∀ X, w.grownBy X none → Calls Tryd.prog 28 #[.agg #[.slice ta tn tc, .slice na nn nc, .slice la ln lc, .int .i64 st, .slice pa n pc]] X fun e y => FoundTold tn (tn + nn) n L R X e y) := fun X hX => found_ok ta na la pa tc nc lc pc ts ns lv n L R ra rc V st X tn nn ln hlen (hG.kept hX) hM
  obtain ⟨S, hS⟩ : ∃ S, S = tn + nn := ⟨_, rfl⟩
  have HSE : Hid (S = tn + nn) := hS
  rw [← hS] at HFO
  have hnn : nn ≤ 65 := hM.nmax
  have htn : tn ≤ 65 := hM.tmax
  have HX0 : Hid (PhAt w (w.alloc (.cells #[.slice ta tn tc, .slice na nn nc, .slice la ln lc, .int .i64 st, .slice pa n pc] 27)) w.heap.size #[.slice ta tn tc, .slice na nn nc, .slice la ln lc, .int .i64 st, .slice pa n pc]) := ⟨World.grownBy_alloc _ _ none, heap_alloc_last w _⟩
  have HFF : Hid (FOf tn n L R F Mk) := hF
  have HTB : Hid (B.Tab w ∧ 0 < w.heap.size) := ⟨hT, h0⟩
  have HQ : Hid (∀ i, Q i = B.mems 1024 (Mk i)) := hQ
  obtain ⟨i0, hi0, hz0, hz1, hz2⟩ := info_parts infoInts
  clear hG hlen h hM hF hS hT h0 hQ
  go_enter Tryd.func13, Tryd.ntmps13
  go_wp2_with fail
  refine Calls.mono (HMB.out _ HX0.out.grown) ?_
  rintro e w1 ⟨rfl, hg1⟩
  have HX1 : Hid (PhAt w w1 w.heap.size #[.slice ta tn tc, .slice na nn nc, .slice la ln lc, .int .i64 st, .slice pa n pc]) := HX0.out.kept hg1
  clear hg1 HX0
  obtain ⟨k0, k1, k2, k3, k4⟩ := HX1.out.cells
  go_wp2_with fail
  refine Calls.mono (HFO.out _ HX1.out.grown) ?_
  rintro e w2 ⟨vb, fb, f, v, m, rfl, hF2, hfd, hg2⟩
  clear k0 k1 k2 k3 k4
  have HFD : Hid (∀ i, Q i = B.mems 1024 (m (tn + i))) := fun i => by rw [HQ.out, (HFF.out.eq hfd).2]
  obtain ⟨kb, hkb⟩ : ∃ kb, kb = w2.heap.size := ⟨_, rfl⟩
  obtain ⟨X2, hX2⟩ : ∃ X2, X2 = w2.alloc (.cells #[.int .i64 (tn : Int), .pointer (some ⟨vb, 0, none⟩), .slice (some ⟨fb, 0, none⟩) S S] 58) := ⟨_, rfl⟩
  have hgb : w2.grownBy X2 none := by rw [hX2]; exact World.grownBy_alloc _ _ none
  have hf2 : FAt X2 w.heap.size kb tn S fb vb f v m := by
    have h3 := hF2.kept hgb
    have h4 := HX1.out.grown.size
    exact ⟨h3.row, h3.sets, h3.van, ⟨⟨by have := h3.rng.1; omega, by have := h3.rng.1; omega⟩, ⟨by have := h3.rng.2.1; omega, by have := h3.rng.2.1; omega⟩, fun i hi => ⟨by have := h3.rng.2.2 i hi; omega, by have := h3.rng.2.2 i hi; omega⟩⟩, h3.inj, h3.ne⟩
  have HP2 : Hid (PhAt w X2 w.heap.size #[.slice ta tn tc, .slice na nn nc, .slice la ln lc, .int .i64 st, .slice pa n pc]) := HX1.out.kept (grown_trans hg2 hgb)
  have HB2 : Hid (X2.heap[kb]? = some (.cells #[.int .i64 (tn : Int), .pointer (some ⟨vb, 0, none⟩), .slice (some ⟨fb, 0, none⟩) S S] 58 (0, 0))) := by show _ = _; rw [hX2, hkb]; exact heap_alloc_last w2 _
  have HF2 : Hid (FAt X2 w.heap.size kb tn S fb vb f v m) := hf2
  have HSZ : Hid (w.heap.size < kb ∧ X2.heap.size = kb + 1) := ⟨by have h5 := (Array.getElem?_eq_some_iff.1 HX1.out.box).1; have := hg2.size; omega, by rw [hX2, hkb]; simp⟩
  obtain ⟨k0, k1, k2, k3, k4⟩ := HP2.out.cells
  rw [hX2] at k0 k1 k2 k3 k4
  have HXE := show Hid _ from hX2
  have HKE := show Hid _ from hkb
  clear hF2 hfd hg2 hf2 hgb hX2 hkb HX1
  go_wp2_with (at_make; refine wpList_make_full _ rfl _ _ 35 rfl (w2.heap.size + 1) 24 i0 (.slice none 0 0) 1 Tryd.underlying35 hi0 hz0 hz1 .i64 .i64 _ _ nn rfl rfl (by simp) (by simp) (by rw [hz2]; omega) (by unfold maxLen; omega) (by simp) ?_)
  intro w3 hown hgrow
  rw [← HXE.out] at hgrow
  rw [← HKE.out] at hown
  rw [← HKE.out]
  have hval : ValAt w3 (kb + 1) nn 24 (fun _ => .slice none 0 0) := made_rowK (B := kb + 1) rfl (by simpa [Value.cells] using hown)
  have hnl : NlAt w w3 #[.slice ta tn tc, .slice na nn nc, .slice la ln lc, .int .i64 st, .slice pa n pc] tn S nn kb vb fb (kb + 1) f v m 24 (fun _ => .slice none 0 0) := ⟨grown_trans HP2.out.grown hgrow, (HP2.out.kept hgrow).box, (boxKept HB2.out hgrow).out, HF2.out.kept hgrow, hval, ⟨HSZ.out.1, by omega⟩⟩
  obtain ⟨rb, hrb⟩ : ∃ rb, rb = kb + 1 := ⟨_, rfl⟩
  rw [← hrb] at hnl
  rw [← hrb]
  have HNL := show Hid _ from hnl
  clear hown hgrow hval hnl hrb HXE HKE HP2 HB2 HF2 HSZ k0 k1 k2 k3 k4 hi0 hz0 hz1 hz2
  obtain ⟨k0, k1, k2, k3, k4⟩ := HNL.out.ph.cells
  go_wp2_with fail
  clear k0 k1 k2 k3 k4
  go_loopg [19] nn (fun gk i wr => ∃ (k : Nat) (ua : Nat → Option Addr) (uc : Nat → Nat), k ≤ nn ∧ gk = nn - k ∧ i = .int .i64 k ∧ NlAt w wr #[.slice ta tn tc, .slice na nn nc, .slice la ln lc, .int .i64 st, .slice pa n pc] tn S nn kb vb fb rb f v m 24 (fun i => if i < k then .slice (ua i) (Q i).length (uc i) else .slice none 0 0) ∧ RowsO wr w.heap.size k ua Q uc)
  case atStart => exact ⟨0, fun _ => none, fun _ => 0, Nat.zero_le _, rfl, rfl, HNL.out, RowsO.zero _ _ _ _ _⟩
  case round =>
    obtain ⟨k, ua, uc, hk, hgk, rfl, hN, hR⟩ := hrel
    have HGK : Hid (gk = nn - k) := hgk
    have HN : Hid (NlAt w wr #[.slice ta tn tc, .slice na nn nc, .slice la ln lc, .int .i64 st, .slice pa n pc] tn S nn kb vb fb rb f v m 24 (fun i => if i < k then .slice (ua i) (Q i).length (uc i) else .slice none 0 0)) := hN
    have HRW : Hid (RowsO wr w.heap.size k ua Q uc) := hR
    clear hgk hN HNL hR
    by_cases hlt : k < nn
    · have hk0 : (0 : Int) ≤ (k : Int) := by omega
      have hk1 : (k : Int) < (nn : Int) := by omega
      have hkd : decide (k < nn) = true := decide_eq_true hlt
      have hj0 : (0 : Int) ≤ (tn : Int) + (k : Int) := by omega
      have hj1 : (tn : Int) + (k : Int) < (S : Int) := by have := HSE.out; omega
      have hj2 : ((tn : Int) + (k : Int)).toNat = tn + k := by omega
      have hjS : tn + k < S := by have := HSE.out; omega
      obtain ⟨k0, k1, k2, k3, k4⟩ := HN.out.ph.cells
      obtain ⟨⟨b0, b1, b2⟩, f0, f1, f2⟩ := box3 HN.out.box
      have r0 := HN.out.fat.row (tn + k) hjS
      obtain ⟨ql, hql⟩ : ∃ q, q = (Q k).length := ⟨_, rfl⟩
      have HQL : Hid (ql = (Q k).length) := hql
      have HMB2 : Hid (Calls Tryd.prog 32 #[.pointer (some ⟨f (tn + k), 0, none⟩)] wr fun e w' => ∃ a c, e = .returned (.slice a ql c) ∧ w'.ownsRow wr.heap.size 3 1 (.slice a (Q k).length c) (Q k).length ((Q k).map (Value.int .i64)) ∧ wr.grownBy w' none) := by
        have h5 := HN.out.tab HTB.out.1 HTB.out.2
        refine (members_any (f (tn + k)) tn (m (tn + k)) wr (HN.out.fat.sets (tn + k) hjS) h5.1 h5.2).mono ?_
        rintro e w' ⟨a, c, rfl, ho, hg⟩
        rw [← HFD.out] at ho
        refine ⟨a, c, by rw [← HFD.out, ← hql], ho, hg⟩
      clear hql
      go_wp2_with fail
      refine Calls.mono HMB2.out ?_
      rintro e w5 ⟨a5, c5, rfl, hr5, hg5⟩
      have HN5 : Hid (NlAt w w5 #[.slice ta tn tc, .slice na nn nc, .slice la ln lc, .int .i64 st, .slice pa n pc] tn S nn kb vb fb rb f v m 24 (fun i => if i < k then .slice (ua i) (Q i).length (uc i) else .slice none 0 0)) := HN.out.kept hg5
      have HR5 : Hid (RowsO w5 w.heap.size (k + 1) (fun i => if i = k then a5 else ua i) Q (fun i => if i = k then c5 else uc i)) := HRW.out.more hg5 hr5 HN.out.grown.size
      have y0 := HN5.out.row.cell k hlt
      have y1 := HN5.out.row.free k
      rw [if_neg (Nat.lt_irrefl k)] at y0
      clear hg5 hr5 HN HRW HMB2 k0 k1 k2 k3 k4 b0 b1 b2 f0 f1 f2 r0
      go_wp2_with fail
      go_roundg (nn - (k + 1))
      case measure => have := HGK.out; omega
      case rel =>
        have G : w5.grownBy (w5.setCell ⟨rb, k, none⟩ (.slice a5 ql c5)) (some rb) := grown_setCell _ _ _
        refine ⟨k + 1, fun i => if i = k then a5 else ua i, fun i => if i = k then c5 else uc i, by omega, rfl, by go_num, ?_, HR5.out.set G HN5.out.row⟩
        · have h2 := HN5.out.set k (.slice a5 ql c5)
          exact ⟨h2.grown, h2.gbox, h2.box, h2.fat, h2.row.ext fun i _ => by
            unfold put
            by_cases e : i = k
            · subst e; simp [HQL.out]
            · by_cases e2 : i < k
              · have e3 : i < k + 1 := by omega
                simp [e, e2, e3]
              · have e3 : ¬ i < k + 1 := by omega
                simp [e, e2, e3], h2.lo⟩
    · have hkn : nn = k := by omega
      subst hkn
      have hkd : decide (nn < nn) = false := decide_eq_false (by omega)
      go_wp2_with fail
      go_ret2
      exact ⟨rb, ua, uc, rfl, by have := HN.out.lo; omega, HN.out.row.ext fun i hi => by simp [hi], HRW.out, HN.out.grown⟩

end Go.Proofs.YtdhojilmgnodeaaDoor

/-
  first: sameBools and Lists, of what is the same.
-/
namespace Go.Proofs.YtdhojilmgnodeaaDoor
open Go.RowKit Go.Maps Go.Shelf

attribute [local go_sem] Oper.semAt_some

/-- A row of marks, or none. -/
def BlAt (X : World) (a : Option Addr) (N : Nat) (F : Nat → Bool) (B : Nat) : Prop := N = 0 ∨ ∃ k, a = some ⟨k, 0, none⟩ ∧ B ≤ k ∧ ValAt X k N 4 (fun i => .bool (F i))
theorem BlAt.kept {X Y : World} {a : Option Addr} {N : Nat} {F : Nat → Bool} {B : Nat} (h : BlAt X a N F B) (hg : X.grownBy Y none) : BlAt Y a N F B := by
  rcases h with h | ⟨k, e, h1, h2⟩
  · exact .inl h
  · exact .inr ⟨k, e, h1, h2.kept hg⟩

/-- A row of rows of numbers, or none. -/
def LsAt (X : World) (a : Option Addr) (N : Nat) (Q : Nat → List Int) (ua : Nat → Option Addr) (uc : Nat → Nat) : Prop := (N = 0 ∨ ∃ k, a = some ⟨k, 0, none⟩ ∧ ∀ i, i < N → X.cell? ⟨k, i, none⟩ = some (.slice (ua i) (Q i).length (uc i))) ∧ ∀ i, i < N → IntsAt X (ua i) (Q i)
theorem LsAt.kept {X Y : World} {a : Option Addr} {N : Nat} {Q : Nat → List Int} {ua : Nat → Option Addr} {uc : Nat → Nat} (h : LsAt X a N Q ua uc) (hg : X.grownBy Y none) : LsAt Y a N Q ua uc := by
  refine ⟨?_, fun i hi => (h.2 i hi).kept hg⟩
  rcases h.1 with h | ⟨k, e, h1⟩
  · exact .inl h
  · exact .inr ⟨k, e, fun i hi => hg.cell (h1 i hi) (by simp)⟩

set_option maxRecDepth 100000 in
theorem sameBools_any (a1 a2 : Option Addr) (c1 c2 n : Nat) (F : Nat → Bool) (B1 B2 : Nat) (w : World) (h1 : BlAt w a1 n F B1) (h2 : BlAt w a2 n F B2) (hn : n ≤ 1024) :
    Calls Tryd.prog 12 #[.slice a1 n c1, .slice a2 n c2] w fun e y => e = .returned (.bool true) ∧ w.grownBy y none := by
  have H1 : Hid (∀ X, w.grownBy X none → BlAt X a1 n F B1 ∧ BlAt X a2 n F B2) := fun X hX => ⟨h1.kept hX, h2.kept hX⟩
  have hnn : ((n : Int) != (n : Int)) = false := bne_self_eq_false _
  clear h1 h2
  go_enter Tryd.func12, Tryd.ntmps12
  go_wp2_with fail
  go_loopg [5] n (fun gk v5 wr => ∃ (j : Nat), j ≤ n ∧ gk = n - j ∧ v5 = .int .i64 j ∧ w.grownBy wr none)
  case atStart => exact ⟨0, Nat.zero_le _, rfl, rfl, grown_refl _ _⟩
  case round =>
    obtain ⟨j, hj, hgj, rfl, hg⟩ := hrel
    have HGJ : Hid (gk = n - j) := hgj
    have HG : Hid (w.grownBy wr none) := hg
    clear hgj hg
    by_cases hjl : j < n
    · obtain ⟨ab, rfl, hc1⟩ : ∃ ab, a1 = some ⟨ab, 0, none⟩ ∧ wr.cell? ⟨ab, j, none⟩ = some (.bool (F j)) := by
        rcases (H1.out wr HG.out).1 with h | ⟨k, e, _, h⟩
        · omega
        · exact ⟨k, e, h.cell j hjl⟩
      obtain ⟨bb, rfl, hc2⟩ : ∃ ab, a2 = some ⟨ab, 0, none⟩ ∧ wr.cell? ⟨ab, j, none⟩ = some (.bool (F j)) := by
        rcases (H1.out wr HG.out).2 with h | ⟨k, e, _, h⟩
        · omega
        · exact ⟨k, e, h.cell j hjl⟩
      obtain ⟨x, hx⟩ : ∃ x, x = F j := ⟨_, rfl⟩
      rw [← hx] at hc1 hc2
      have hj0 : (0 : Int) ≤ (j : Int) := by omega
      have hj1 : (j : Int) < (n : Int) := by omega
      have hjd : decide (j < n) = true := decide_eq_true hjl
      have hxx : (!(x == x)) = false := by cases x <;> rfl
      clear hx
      cases x with
      | true =>
        go_wp2_with fail
        go_quiet (fail)
        go_wp2_with fail
        go_roundg (n - (j + 1))
        case measure => have := HGJ.out; omega
        case rel => exact ⟨j + 1, by omega, rfl, by go_num, by first | exact HG.out | exact grown_trans HG.out (grown_drewN _ _)⟩
      | false =>
        go_wp2_with fail
        go_quiet (fail)
        go_wp2_with fail
        go_roundg (n - (j + 1))
        case measure => have := HGJ.out; omega
        case rel => exact ⟨j + 1, by omega, rfl, by go_num, by first | exact HG.out | exact grown_trans HG.out (grown_drewN _ _)⟩
    · have hjn : n = j := by omega
      subst hjn
      have hjd : decide (n < n) = false := decide_eq_false (by omega)
      go_wp2_with fail
      go_ret
      exact ⟨rfl, HG.out⟩

set_option maxRecDepth 100000 in
theorem lists_same (a1 a2 : Option Addr) (c1 c2 n : Nat) (Q : Nat → List Int) (u1 u2 : Nat → Option Addr) (k1 k2 : Nat → Nat) (w : World) (h1 : LsAt w a1 n Q u1 k1) (h2 : LsAt w a2 n Q u2 k2) (hn : n ≤ 1024) (hQ : ∀ i, (Q i).length ≤ 1024) :
    Calls Tryd.prog 15 #[.slice a1 n c1, .slice a2 n c2] w fun e y => e = .returned (.bool true) ∧ w.grownBy y none := by
  have H1 : Hid (∀ X, w.grownBy X none → LsAt X a1 n Q u1 k1 ∧ LsAt X a2 n Q u2 k2) := fun X hX => ⟨h1.kept hX, h2.kept hX⟩
  have HQ : Hid (∀ i, (Q i).length ≤ 1024) := hQ
  have hnn : ((n : Int) != (n : Int)) = false := bne_self_eq_false _
  clear h1 h2 hQ
  go_enter Tryd.func15, Tryd.ntmps15
  go_wp2_with fail
  go_loopg [5] n (fun gk v5 wr => ∃ (j : Nat), j ≤ n ∧ gk = n - j ∧ v5 = .int .i64 j ∧ w.grownBy wr none)
  case atStart => exact ⟨0, Nat.zero_le _, rfl, rfl, grown_refl _ _⟩
  case round =>
    obtain ⟨j, hj, hgj, rfl, hg⟩ := hrel
    have HGJ : Hid (gk = n - j) := hgj
    have HG : Hid (w.grownBy wr none) := hg
    clear hgj hg
    by_cases hjl : j < n
    · obtain ⟨ab, rfl, hc1⟩ : ∃ ab, a1 = some ⟨ab, 0, none⟩ ∧ wr.cell? ⟨ab, j, none⟩ = some (.slice (u1 j) (Q j).length (k1 j)) := by
        rcases (H1.out wr HG.out).1.1 with h | ⟨k, e, h⟩
        · omega
        · exact ⟨k, e, h j hjl⟩
      obtain ⟨bb, rfl, hc2⟩ : ∃ ab, a2 = some ⟨ab, 0, none⟩ ∧ wr.cell? ⟨ab, j, none⟩ = some (.slice (u2 j) (Q j).length (k2 j)) := by
        rcases (H1.out wr HG.out).2.1 with h | ⟨k, e, h⟩
        · omega
        · exact ⟨k, e, h j hjl⟩
      have HIN : Hid (∀ X, wr.grownBy X none → Calls Tryd.prog 19 #[.slice (u1 j) (Q j).length (k1 j), .slice (u2 j) (Q j).length (k2 j)] X fun e y => e = .returned (.bool true) ∧ X.grownBy y none) := fun X hX => ints_same _ _ _ _ (Q j) X (((H1.out wr HG.out).1.2 j hjl).kept hX) (((H1.out wr HG.out).2.2 j hjl).kept hX) (Nat.le_trans (HQ.out j) (by decide))
      obtain ⟨ql, hql⟩ : ∃ q, q = (Q j).length := ⟨_, rfl⟩
      rw [← hql] at HIN hc1 hc2
      have hj0 : (0 : Int) ≤ (j : Int) := by omega
      have hj1 : (j : Int) < (n : Int) := by omega
      have hjd : decide (j < n) = true := decide_eq_true hjl
      clear hql
      go_wp2_with fail
      have HUP : Hid (wr.grownBy wr.drew none) := grown_drewN wr 1
      have HKS : Hid (∀ X, wr.grownBy X none → X.cell? ⟨ab, j, none⟩ = some (.slice (u1 j) ql (k1 j)) ∧ X.cell? ⟨bb, j, none⟩ = some (.slice (u2 j) ql (k2 j))) := fun X hX => ⟨hX.cell hc1 (by simp), hX.cell hc2 (by simp)⟩
      go_region_held3 (fun X => X.cell? ⟨ab, j, none⟩ = some (.slice (u1 j) ql (k1 j)) ∧ X.cell? ⟨bb, j, none⟩ = some (.slice (u2 j) ql (k2 j))) (first | exact HKS.out _ HUP.out | exact HKS.out _ HG4.out | go_keep)
        ((first
          | (go_at_call 19; refine Calls.mono (HIN.out _ HUP.out) ?_; rintro e w3 ⟨rfl, hg3⟩; have HG4 : Hid (wr.grownBy w3 none) := grown_trans HUP.out hg3; clear hg3)
          | fail))
      have HG3 : Hid (w.grownBy w3 none) := grown_trans HG.out HG4.out
      clear hc1 hc2 HIN
      go_wp2_with fail
      go_roundg (n - (j + 1))
      case measure => have := HGJ.out; omega
      case rel => exact ⟨j + 1, by omega, rfl, by go_num, HG3.out⟩
    · have hjn : n = j := by omega
      subst hjn
      have hjd : decide (n < n) = false := decide_eq_false (by omega)
      go_wp2_with fail
      go_ret
      exact ⟨rfl, HG.out⟩

end Go.Proofs.YtdhojilmgnodeaaDoor
