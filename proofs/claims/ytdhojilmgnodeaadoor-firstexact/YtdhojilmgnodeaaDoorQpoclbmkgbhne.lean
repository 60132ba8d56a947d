import Derived.Test.YtdhojilmgnodeaaDoorQcedhddoflfbc
import Derived.Test.YtdhojilmgnodeaaDoorQkdhjffbifdei
import Derived.Test.YtdhojilmgnodeaaDoorQkpmjpampekgo

/-
  first: the document's Sets.
-/
namespace Go.Proofs.YtdhojilmgnodeaaDoor
open Go.RowKit Go.Maps Go.Shelf

attribute [local go_sem] Oper.semAt_some

/-- The rows as they are listed. -/
def rowsL (ua : Nat → Option Addr) (uc : Nat → Nat) (Q : Nat → List Int) (k : Nat) : List Value := (List.range k).map fun i => .slice (ua i) (Q i).length (uc i)
theorem rowsL_succ (ua : Nat → Option Addr) (uc : Nat → Nat) (Q : Nat → List Int) (k : Nat) (a : Option Addr) (c : Nat) : rowsL (fun i => if i = k then a else ua i) (fun i => if i = k then c else uc i) Q (k + 1) = rowsL ua uc Q k ++ [.slice a (Q k).length c] := by
  unfold rowsL
  rw [List.range_succ, List.map_append]
  congr 1
  · apply List.map_congr_left
    intro i hi
    have : ¬ i = k := by simp at hi; omega
    simp only [if_neg this]
  · simp
/-- While Sets lists the rows. -/
structure SsAt (w u X : World) (g0 g1 g2 g3 g4 : Value) (kb nb nn tn S : Nat) (F : Nat → Bool) (hs : Value) (rb m : Nat → Nat) (k : Nat) (out : Value) (Q : Nat → List Int) (ua : Nat → Option Addr) (uc : Nat → Nat) : Prop where
  grown : w.grownBy X none
  tb : TbAt u X g0 g1 g2 g3 g4 kb nb nn tn S F hs rb m
  own : X.ownsRow u.heap.size 24 1 out k (rowsL ua uc Q k)
  rows : ∀ i, i < k → RowIn X (ua i) (Q i) w.heap.size
  up : w.heap.size ≤ u.heap.size
section
variable {w u X Y : World} {g0 g1 g2 g3 g4 hs out : Value} {kb nb nn tn S k : Nat} {F : Nat → Bool} {rb m : Nat → Nat} {Q : Nat → List Int} {ua : Nat → Option Addr} {uc : Nat → Nat}
theorem TbAt.off {B n : Nat} {v : Value} {xs : List Value} (h : TbAt u X g0 g1 g2 g3 g4 kb nb nn tn S F hs rb m) (ho : X.ownsRow B 24 1 v n xs) (hg : X.grownBy Y v.ownBlock) (hB : ∀ b, v.ownBlock = some b → u.heap.size ≤ b) : TbAt u Y g0 g1 g2 g3 g4 kb nb nn tn S F hs rb m := by
  have kp : ∀ (b : Nat) (cs : Array Value) (e : TypeId), e ≠ 24 → X.heap[b]? = some (.cells cs e (0, 0)) → Y.heap[b]? = some (.cells cs e (0, 0)) := fun b cs e he hb => by
    refine (hg.block b (Array.getElem?_eq_some_iff.1 hb).1 ?_).trans hb
    rcases owns_nebox ho hb (fun e2 => he e2.symm) with h1 | h1
    · rw [h1]; simp
    · exact fun h2 => h1 h2.symm
  have hgr : u.grownBy Y none := by
    cases hb : v.ownBlock with
    | none => rw [hb] at hg; exact grown_trans h.grown hg
    | some b => rw [hb] at hg; exact grown_at h.grown hg (hB b hb)
  exact ⟨hgr, kp _ _ _ (by decide) h.gbox, kp _ _ _ (by decide) h.box, kp _ _ _ (by decide) h.nul, h.own.kept hg (owns_ne h.own ho (by decide)), fun i hi => kp _ _ _ (by decide) (h.rows i hi), h.lo, h.rlo, h.inj⟩
theorem SsAt.kept (h : SsAt w u X g0 g1 g2 g3 g4 kb nb nn tn S F hs rb m k out Q ua uc) (hg : X.grownBy Y none) : SsAt w u Y g0 g1 g2 g3 g4 kb nb nn tn S F hs rb m k out Q ua uc :=
  ⟨grown_trans h.grown hg, h.tb.kept hg, h.own.kept hg (by cases hx : out.ownBlock <;> simp), fun i hi => (h.rows i hi).kept hg, h.up⟩
theorem SsAt.more (h : SsAt w u X g0 g1 g2 g3 g4 kb nb nn tn S F hs rb m k out Q ua uc) {a : Option Addr} {c : Nat} {v6 : Value} (hr : RowIn X a (Q k) w.heap.size) (ho : Y.ownsRow u.heap.size 24 1 v6 (k + 1) (rowsL ua uc Q k ++ [.slice a (Q k).length c])) (hg : X.grownBy Y out.ownBlock) : SsAt w u Y g0 g1 g2 g3 g4 kb nb nn tn S F hs rb m (k + 1) v6 Q (fun i => if i = k then a else ua i) (fun i => if i = k then c else uc i) := by
  have hB : ∀ b, out.ownBlock = some b → u.heap.size ≤ b := fun b hb => (h.own.lt b hb).1
  have hgr : w.grownBy Y none := by
    cases hb : out.ownBlock with
    | none => rw [hb] at hg; exact grown_trans h.grown hg
    | some b => rw [hb] at hg; exact grown_at h.grown hg (Nat.le_trans h.up (hB b hb))
  have kr : ∀ {a' : Option Addr} {l : List Int}, RowIn X a' l w.heap.size → RowIn Y a' l w.heap.size := fun hr => hr.block fun j hj _ ⟨cur, hc⟩ => hg.block j hj (by
    rcases owns_nebox h.own hc (by decide) with h1 | h1
    · rw [h1]; simp
    · exact fun h2 => h1 h2.symm)
  refine ⟨hgr, h.tb.off h.own hg hB, by rw [rowsL_succ]; exact ho, fun i hi => ?_, h.up⟩
  by_cases e : i = k
  · subst e; simp only [if_true]; exact kr hr
  · simp only [if_neg e]; exact kr (h.rows i (by omega))
end

set_option maxRecDepth 100000 in
set_option maxHeartbeats 2000000 in
theorem rsets_ok (ta na la pa : Option Addr) (tc nc lc pc : Nat) (ts : List (ByteArray × Int)) (ns : List ByteArray) (lv : List Int) (n : Nat) (L : Nat → Int) (R : Nat → List Int) (ra : Nat → Option Addr) (rc : Nat → Nat) (V : Nat → Int) (st : Int) (w : World) (tn nn ln : Nat) (hlen : ts.length = tn ∧ ns.length = nn ∧ lv.length = ln) (hG : GAt w ta na la pa tc nc lc pc ts ns lv n L R ra rc V) (hwf : ∀ t ∈ ts, t.1.size ≤ 140737488355328) (hnz : ∀ s ∈ ns, s.size ≤ 140737488355328) (hok : validOK ts ns lv st n L R V ∨ closedOK ts ns lv st n L R V) {cl : Bool} (hM : MayOK tn nn n st L R cl) (h0 : 0 < nn) (v : Nat) (hv : ∀ i : Nat, v.testBit i = true ↔ Nul n L R (i : Int)) (Q : Nat → List Int) (hQ : ∀ m, Found tn n L R v m → ∀ i, i < nn → listF (fun t => (m (tn + i)).testBit t) tn = Q i) :
    Calls Tryd.prog 14 #[.agg #[.slice ta tn tc, .slice na nn nc, .slice la ln lc, .int .i64 st, .slice pa n pc]] w fun e y => ∃ (a : Option Addr) (c : Nat) (ua : Nat → Option Addr) (uc : Nat → Nat), e = .returned (.tuple #[.slice a nn c, .int .i64 0]) ∧ y.ownsRow w.heap.size 24 1 (.slice a nn c) nn (rowsL ua uc Q nn) ∧ (∀ i, i < nn → RowIn y (ua i) (Q i) w.heap.size) ∧ w.grownBy y none := by
  have HMB : Hid (∀ X, w.grownBy X none → Calls Tryd.prog 30 #[.agg #[.slice ta tn tc, .slice na nn nc, .slice la ln lc, .int .i64 st, .slice pa n pc]] X fun e w' => e = .returned (.bool true) ∧ X.grownBy w' none) := fun X hX => keither_any ta na la pa tc nc lc pc ts ns lv n L R ra rc V st X tn nn ln hlen (hG.kept hX) hwf hnz true ⟨fun _ => hok, fun _ => rfl⟩
  have hnn : nn ≤ 65 := hM.nmax
  have htn : tn ≤ 65 := hM.tmax
  have HTA : Hid (∀ X, w.grownBy X none → Calls Tryd.prog 33 #[.agg #[.slice ta tn tc, .slice na nn nc, .slice la ln lc, .int .i64 st, .slice pa n pc]] X fun e y => TableTold (.slice ta tn tc) (.slice na nn nc) (.slice la ln lc) (.int .i64 st) (.slice pa n pc) tn nn n L R v X e y) := fun X hX => by
    have h1 := hM.p0
    rcases (hG.kept hX).prods with h | ⟨bp, op, rfl, hp⟩
    · omega
    · exact rtable_any ta na la tn nn ln n tc nc lc pc bp op st L R ra rc X (by omega) (by have := hM.pmax; omega) h0 (fun k hk => ⟨(hp k hk).1, (hp k hk).2.1, (hp k hk).2.2.2.1, (hp k hk).2.2.2.2.2⟩) (fun k hk => ⟨by have := hM.left k hk; omega, (hM.left k hk).2⟩) (fun k hk x hx => ⟨by have := hM.right k hk x hx; omega, (hM.right k hk x hx).2⟩) v hv
  have HQ : Hid (∀ m, Found tn n L R v m → ∀ i, i < nn → listF (fun t => (m (tn + i)).testBit t) tn = Q i) := hQ
  have HX0 : Hid (PhAt w (w.alloc (.cells #[.slice ta tn tc, .slice na nn nc, .slice la ln lc, .int .i64 st, .slice pa n pc] 27)) w.heap.size #[.slice ta tn tc, .slice na nn nc, .slice la ln lc, .int .i64 st, .slice pa n pc]) := ⟨World.grownBy_alloc _ _ none, heap_alloc_last w _⟩
  obtain ⟨i1, hi1, hy0, hy1, hy2⟩ := info_parts infoInts
  clear hlen hG hwf hnz hok hM hv hQ
  go_enter Tryd.func14, Tryd.ntmps14
  go_wp2_with fail
  refine Calls.mono (HMB.out _ HX0.out.grown) ?_
  rintro e u ⟨rfl, hg1⟩
  have HX1 : Hid (PhAt w u w.heap.size #[.slice ta tn tc, .slice na nn nc, .slice la ln lc, .int .i64 st, .slice pa n pc]) := HX0.out.kept hg1
  clear hg1 HX0 HMB
  obtain ⟨k0, k1, k2, k3, k4⟩ := HX1.out.cells
  go_wp2_with fail
  refine Calls.mono (HTA.out _ HX1.out.grown) ?_
  rintro e w4 ⟨kb, nb, hb, hc, rb, m, rfl, hT, hF, hm⟩
  have HS4 : Hid (SsAt w u w4 (.slice ta tn tc) (.slice na nn nc) (.slice la ln lc) (.int .i64 st) (.slice pa n pc) kb nb nn tn (tn + nn) (fun i => v.testBit (tn + i)) (.slice (some ⟨hb, 0, none⟩) (tn + nn) hc) rb m 0 (.slice none 0 0) Q (fun _ => none) (fun _ => 0)) := ⟨grown_trans HX1.out.grown hT.grown, hT, World.ownsRow_nil _ _ _ _, fun i hi => absurd hi (Nat.not_lt_zero _), HX1.out.grown.size⟩
  have HQ4 := show Hid _ from HQ.out m hF
  have HPX : Hid (∀ X, w4.grownBy X none → True) := fun _ _ => trivial
  have g0 := (HX1.out.kept hT.grown).cells.1
  clear hT hF hm k0 k1 k2 k3 k4 HQ HPX HX1 HTA
  go_wp2_with fail
  go_loopg [6, 7] nn (fun gk v6 v7 wr => ∃ (k : Nat) (a : Option Addr) (c : Nat) (ua : Nat → Option Addr) (uc : Nat → Nat), k ≤ nn ∧ gk = nn - k ∧ v6 = .slice a k c ∧ v7 = .int .i64 ((tn + k : Nat) : Int) ∧ (SsAt w u wr (.slice ta tn tc) (.slice na nn nc) (.slice la ln lc) (.int .i64 st) (.slice pa n pc) kb nb nn tn (tn + nn) (fun i => v.testBit (tn + i)) (.slice (some ⟨hb, 0, none⟩) (tn + nn) hc) rb m k (.slice a k c) Q ua uc))
  case atStart => exact ⟨0, none, 0, _, _, Nat.zero_le _, rfl, rfl, by simp, HS4.out⟩
  case round =>
    obtain ⟨k, a, c, ua, uc, hk, hgk, rfl, rfl, hS⟩ := hrel
    have HGK : Hid (gk = nn - k) := hgk
    have HS : Hid (SsAt w u wr (.slice ta tn tc) (.slice na nn nc) (.slice la ln lc) (.int .i64 st) (.slice pa n pc) kb nb nn tn (tn + nn) (fun i => v.testBit (tn + i)) (.slice (some ⟨hb, 0, none⟩) (tn + nn) hc) rb m k (.slice a k c) Q ua uc) := hS
    clear hgk hS HS4 g0
    obtain ⟨⟨q0, q5, q6⟩, _⟩ := box7 HS.out.tb.box
    obtain ⟨x, hx⟩ : ∃ x, x = tn + k := ⟨_, rfl⟩
    have HX : Hid (x = tn + k) := hx
    rw [← hx]
    obtain ⟨S, hSS⟩ : ∃ S, S = tn + nn := ⟨_, rfl⟩
    have HSS : Hid (S = tn + nn) := hSS
    by_cases hlt : k < nn
    · have hxS : x < S := by omega
      have d5 : (0 : Int) ≤ (x : Int) := by omega
      have d7 : (x : Int) < (S : Int) := by omega
      have d8 : decide (x < S) = true := decide_eq_true hxS
      have q8 : wr.cell? ⟨hb, x, none⟩ = some (.slice (some ⟨rb x, 0, none⟩) tn tn) := owns_cell HS.out.tb.own (by rw [hSS] at hxS; simp [hxS])
      have HR : Hid (ValAt wr (rb x) tn 4 (fun t => .bool ((m x).testBit t))) := HS.out.tb.rows x (by omega)
      have HQK : Hid (listF (fun t => (m x).testBit t) tn = Q k) := by rw [hx]; exact HQ4.out k hlt
      have HSZ : Hid (u.heap.size ≤ wr.heap.size) := HS.out.tb.grown.size
      rw [← hSS] at q6
      clear hx hSS
      go_wp2_with fail
      refine Calls.mono (rlist_any (rb x) tn _ wr HR.out (by omega)) ?_
      rintro e w6 ⟨a6, c6, rfl, ho6, hg6⟩
      rw [HQK.out] at ho6
      rw [HQK.out]
      have HRI : Hid (RowIn w6 a6 (Q k) w.heap.size) := RowIn.of ho6 HS.out.grown.size
      have HS6 : Hid (SsAt w u w6 (.slice ta tn tc) (.slice na nn nc) (.slice la ln lc) (.int .i64 st) (.slice pa n pc) kb nb nn tn (tn + nn) (fun i => v.testBit (tn + i)) (.slice (some ⟨hb, 0, none⟩) (tn + nn) hc) rb m k (.slice a k c) Q ua uc) := HS.out.kept hg6
      obtain ⟨ql, hql⟩ : ∃ ql, ql = (Q k).length := ⟨_, rfl⟩
      rw [← hql]
      have HFN : Hid (∀ v6 wB, wB.ownsRow u.heap.size 24 1 v6 (k + 1) (rowsL ua uc Q k ++ [.slice a6 ql c6]) → (w6.alloc (.cells #[.slice a6 ql c6] 24)).grownBy wB (Value.slice a k c).ownBlock → (SsAt w u wB (.slice ta tn tc) (.slice na nn nc) (.slice la ln lc) (.int .i64 st) (.slice pa n pc) kb nb nn tn (tn + nn) (fun i => v.testBit (tn + i)) (.slice (some ⟨hb, 0, none⟩) (tn + nn) hc) rb m (k + 1) v6 Q (fun i => if i = k then a6 else ua i) (fun i => if i = k then c6 else uc i))) := fun v6 wB h1 h2 => by
        rw [hql] at h1 h2
        exact (HS6.out.kept (World.grownBy_alloc _ _ none)).more (HRI.out.kept (World.grownBy_alloc _ _ none)) h1 h2
      have HOW : Hid ((w6.alloc (.cells #[.slice a6 ql c6] 24)).ownsRow u.heap.size 24 1 (.slice a k c) k (rowsL ua uc Q k)) := (HS6.out.kept (World.grownBy_alloc _ _ none)).own
      have HBB : Hid (u.heap.size ≤ (w6.alloc (.cells #[.slice a6 ql c6] 24)).heap.size) := (HS6.out.kept (World.grownBy_alloc _ _ none)).tb.grown.size
      have HNW : Hid (∀ j z, [Value.slice a6 ql c6][j]? = some z → (w6.alloc (.cells #[.slice a6 ql c6] 24)).cell? ((⟨w6.heap.size, 0, none⟩ : Addr).add j) = some z) := news_new w6 _ _
      clear ho6 hg6 hql q0 q5 q6 q8 HR HS HQK
      go_wp2_with (at_builtin; refine wpList_append_src rfl (.tmp 26) (.tmp 35) 35 rfl u.heap.size 24 i1 (.slice none 0 0) 1 24 Tryd.underlying35 hi1 hy0 hy1 hy2 rfl (by decide) (.slice a k c) k _ rfl HOW.out (some ⟨w6.heap.size, 0, none⟩) 1 1 [.slice a6 ql c6] rfl (fun h => by cases h) rfl (fun ad e => by cases e; exact HNW.out) (by simp [Value.oneCell']) (by unfold maxLen; omega) (by omega) HBB.out ?_; intro v6 wB hoB hgB; have HY1 := show Hid _ from HFN.out v6 wB hoB hgB; obtain ⟨a7, c7, rfl⟩ := owns_slice hoB; clear hoB hgB)
      go_roundg (nn - (k + 1))
      case measure => have := HGK.out; omega
      case rel => exact ⟨k + 1, a7, c7, _, _, by omega, rfl, rfl, by
        have h7 := HX.out
        subst h7
        rw [IntWalk.wrap64_in _ ⟨by omega, by omega⟩]
        congr 1, HY1.out⟩
    · have hkn : nn = k := by omega
      subst hkn
      have d8 : decide (x < S) = false := decide_eq_false (by omega)
      rw [← hSS] at q6
      clear hx hSS
      go_wp2_with fail
      go_ret2
      exact ⟨a, c, ua, uc, rfl, owns_lowerK HS.out.own HS.out.up, HS.out.rows, HS.out.grown⟩

end Go.Proofs.YtdhojilmgnodeaaDoor

/-
  first: the document's Sets and Row of a grammar that may not be.
-/
namespace Go.Proofs.YtdhojilmgnodeaaDoor
open Go.RowKit Go.Maps Go.Shelf

attribute [local go_sem] Oper.semAt_some

section
variable (ta na la pa : Option Addr) (tc nc lc pc : Nat) (ts : List (ByteArray × Int)) (ns : List ByteArray) (lv : List Int) (n : Nat) (L : Nat → Int) (R : Nat → List Int) (ra : Nat → Option Addr) (rc : Nat → Nat) (V : Nat → Int) (st : Int) (w : World) (tn nn ln : Nat) (hlen : ts.length = tn ∧ ns.length = nn ∧ lv.length = ln) (hG : GAt w ta na la pa tc nc lc pc ts ns lv n L R ra rc V) (hwf : ∀ t ∈ ts, t.1.size ≤ 140737488355328) (hnz : ∀ s ∈ ns, s.size ≤ 140737488355328)
include hlen hG hwf hnz

set_option maxRecDepth 100000 in
theorem rsets_bad (hv : ¬ validOK ts ns lv st n L R V) (hc : ¬ closedOK ts ns lv st n L R V) : Calls Tryd.prog 14 #[.agg #[.slice ta tn tc, .slice na nn nc, .slice la ln lc, .int .i64 st, .slice pa n pc]] w fun e y => e = .returned (.tuple #[.slice none 0 0, .int .i64 1]) ∧ w.grownBy y none := by
  have HMB : Hid (∀ X, w.grownBy X none → Calls Tryd.prog 30 #[.agg #[.slice ta tn tc, .slice na nn nc, .slice la ln lc, .int .i64 st, .slice pa n pc]] X fun e w' => e = .returned (.bool false) ∧ X.grownBy w' none) := fun X hX => keither_any ta na la pa tc nc lc pc ts ns lv n L R ra rc V st X tn nn ln hlen (hG.kept hX) hwf hnz false ⟨fun h => (by cases h), fun h => h.elim (fun h => absurd h hv) (fun h => absurd h hc)⟩
  have HG0 : Hid (w.grownBy (w.alloc (.cells #[.slice ta tn tc, .slice na nn nc, .slice la ln lc, .int .i64 st, .slice pa n pc] 27)) none) := World.grownBy_alloc _ _ none
  clear hG hlen hv hc hwf hnz
  go_enter Tryd.func14, Tryd.ntmps14
  go_wp2_with fail
  refine Calls.mono (HMB.out _ HG0.out) ?_
  rintro e w1 ⟨rfl, hg1⟩
  have HG1 : Hid (w.grownBy w1 none) := grown_trans HG0.out hg1
  clear hg1
  go_wp2_with fail
  go_ret2
  exact ⟨rfl, HG1.out⟩

set_option maxRecDepth 100000 in
set_option maxHeartbeats 1000000 in
theorem rrow_bad1 (a : Option Addr) (M cap : Nat) (hv : ¬ validOK ts ns lv st n L R V) (hc : ¬ closedOK ts ns lv st n L R V) : Calls Tryd.prog 18 #[.agg #[.slice ta tn tc, .slice na nn nc, .slice la ln lc, .int .i64 st, .slice pa n pc], .slice a M cap] w fun e y => e = .returned (.tuple #[.slice none 0 0, .bool false, .int .i64 1]) ∧ w.grownBy y none := by
  have HMB : Hid (∀ X, w.grownBy X none → Calls Tryd.prog 30 #[.agg #[.slice ta tn tc, .slice na nn nc, .slice la ln lc, .int .i64 st, .slice pa n pc]] X fun e w' => e = .returned (.bool false) ∧ X.grownBy w' none) := fun X hX => keither_any ta na la pa tc nc lc pc ts ns lv n L R ra rc V st X tn nn ln hlen (hG.kept hX) hwf hnz false ⟨fun h => (by cases h), fun h => h.elim (fun h => absurd h hv) (fun h => absurd h hc)⟩
  have HG0 : Hid (w.grownBy (w.alloc (.cells #[.slice ta tn tc, .slice na nn nc, .slice la ln lc, .int .i64 st, .slice pa n pc] 27)) none) := World.grownBy_alloc _ _ none
  clear hG hlen hv hc hwf hnz
  go_enter Tryd.func18, Tryd.ntmps18
  go_wp2_with fail
  refine Calls.mono (HMB.out _ HG0.out) ?_
  rintro e w1 ⟨rfl, hg1⟩
  have HG1 : Hid (w.grownBy w1 none) := grown_trans HG0.out hg1
  clear hg1
  go_wp2_with fail
  go_loopg [7, 8] 0 (fun gk v7 v8 wr => ∃ k : Nat, gk = 0 ∧ v7 = .bool false ∧ v8 = .int .i64 k ∧ w.grownBy wr none)
  case atStart => exact ⟨0, rfl, rfl, rfl, HG1.out⟩
  case round =>
    obtain ⟨k, hgk, rfl, rfl, hg⟩ := hrel
    have HG2 : Hid (w.grownBy wr none) := hg
    clear hgk hg HMB HG0 HG1
    by_cases hlt : k < M
    · have hkd : decide (k < M) = true := decide_eq_true hlt
      have hk1 : (k : Int) < (M : Int) := by omega
      go_wp2_with fail
      go_ret3
      exact ⟨rfl, HG2.out⟩
    · have hkd : decide (k < M) = false := decide_eq_false hlt
      go_wp2_with fail
      go_ret3
      exact ⟨rfl, HG2.out⟩
end

end Go.Proofs.YtdhojilmgnodeaaDoor

/-
  first: the document's Row of symbols that are none.
-/
namespace Go.Proofs.YtdhojilmgnodeaaDoor
open Go.RowKit Go.Maps Go.Shelf

attribute [local go_sem] Oper.semAt_some

set_option maxRecDepth 100000 in
set_option maxHeartbeats 2000000 in
theorem rrow_bad2 (ta na la pa a : Option Addr) (tc nc lc pc cap : Nat) (ts : List (ByteArray × Int)) (ns : List ByteArray) (lv : List Int) (n : Nat) (L : Nat → Int) (R : Nat → List Int) (ra : Nat → Option Addr) (rc : Nat → Nat) (V : Nat → Int) (st : Int) (w : World) (tn nn ln : Nat) (hlen : ts.length = tn ∧ ns.length = nn ∧ lv.length = ln) (hG : GAt w ta na la pa tc nc lc pc ts ns lv n L R ra rc V) (hwf : ∀ t ∈ ts, t.1.size ≤ 140737488355328) (hnz : ∀ s ∈ ns, s.size ≤ 140737488355328) (hok : validOK ts ns lv st n L R V ∨ closedOK ts ns lv st n L R V) (htn : tn ≤ 65) (hnn : nn ≤ 65) (l : List Int) (hl : IntsAt w a l) (hll : l.length ≤ 17592186044416) (hbad : ¬ ∀ i, i < l.length → (0 : Int) ≤ l.getD i 0 ∧ l.getD i 0 < (tn : Int) + (nn : Int)) :
    Calls Tryd.prog 18 #[.agg #[.slice ta tn tc, .slice na nn nc, .slice la ln lc, .int .i64 st, .slice pa n pc], .slice a l.length cap] w fun e y => e = .returned (.tuple #[.slice none 0 0, .bool false, .int .i64 1]) ∧ w.grownBy y none := by
  have HMB : Hid (∀ X, w.grownBy X none → Calls Tryd.prog 30 #[.agg #[.slice ta tn tc, .slice na nn nc, .slice la ln lc, .int .i64 st, .slice pa n pc]] X fun e w' => e = .returned (.bool true) ∧ X.grownBy w' none) := fun X hX => keither_any ta na la pa tc nc lc pc ts ns lv n L R ra rc V st X tn nn ln hlen (hG.kept hX) hwf hnz true ⟨fun _ => hok, fun _ => rfl⟩
  have HSY : Hid (∀ X, Calls Tryd.prog 25 #[.agg #[.slice ta tn tc, .slice na nn nc, .slice la ln lc, .int .i64 st, .slice pa n pc]] X fun e y => e = .returned (.int .i64 ((tn : Int) + nn)) ∧ X.grownBy y none) := fun X => symbols_any ta na la _ tn nn ln n tc nc lc pc st X (by omega) (by omega)
  have HL : Hid (∀ X, w.grownBy X none → IntsAt X a l) := fun X hX => hl.kept hX
  have HX0 : Hid (PhAt w (w.alloc (.cells #[.slice ta tn tc, .slice na nn nc, .slice la ln lc, .int .i64 st, .slice pa n pc] 27)) w.heap.size #[.slice ta tn tc, .slice na nn nc, .slice la ln lc, .int .i64 st, .slice pa n pc]) := ⟨World.grownBy_alloc _ _ none, heap_alloc_last w _⟩
  obtain ⟨M, hMM⟩ : ∃ m, m = l.length := ⟨_, rfl⟩
  have HMM : Hid (M = l.length) := hMM
  rw [← hMM] at hll hbad
  rw [← hMM]
  have HBD : Hid (¬ ∀ i, i < M → (0 : Int) ≤ l.getD i 0 ∧ l.getD i 0 < (tn : Int) + (nn : Int)) := hbad
  clear hlen hG hwf hnz hok hl hMM hbad
  go_enter Tryd.func18, Tryd.ntmps18
  go_wp2_with fail
  refine Calls.mono (HMB.out _ HX0.out.grown) ?_
  rintro e w1 ⟨rfl, hg1⟩
  have HX1 : Hid (PhAt w w1 w.heap.size #[.slice ta tn tc, .slice na nn nc, .slice la ln lc, .int .i64 st, .slice pa n pc]) := HX0.out.kept hg1
  clear hg1 HX0 HMB
  go_wp2_with fail
  go_loopg [7, 8] (M + 1) (fun gk v7 v8 wr => ∃ (k : Nat) (b : Bool), k ≤ M ∧ gk = M - k + (if b = true then 1 else 0) ∧ v7 = .bool b ∧ v8 = .int .i64 k ∧ (b = true → ∀ i, i < k → (0 : Int) ≤ l.getD i 0 ∧ l.getD i 0 < (tn : Int) + (nn : Int)) ∧ PhAt w wr w.heap.size #[.slice ta tn tc, .slice na nn nc, .slice la ln lc, .int .i64 st, .slice pa n pc])
  case atStart => exact ⟨0, true, Nat.zero_le _, rfl, rfl, rfl, fun _ i hi => absurd hi (Nat.not_lt_zero _), HX1.out⟩
  case round =>
    obtain ⟨k, b, hk, hgk, rfl, rfl, hall, hP⟩ := hrel
    have HP : Hid (PhAt w wr w.heap.size #[.slice ta tn tc, .slice na nn nc, .slice la ln lc, .int .i64 st, .slice pa n pc]) := hP
    cases b with
    | false =>
      clear hgk hall hP HX1
      by_cases hlt : k < M
      · have hkd : decide (k < M) = true := decide_eq_true hlt
        have hk1 : (k : Int) < (M : Int) := by omega
        go_wp2_with fail
        go_ret3
        exact ⟨rfl, HP.out.grown⟩
      · have hkd : decide (k < M) = false := decide_eq_false hlt
        go_wp2_with fail
        go_ret3
        exact ⟨rfl, HP.out.grown⟩
    | true =>
    have HGK : Hid (gk = M - k + 1) := hgk
    have HAL : Hid (∀ i, i < k → (0 : Int) ≤ l.getD i 0 ∧ l.getD i 0 < (tn : Int) + (nn : Int)) := hall rfl
    clear hgk hall hP HX1
    by_cases hlt : k < M
    · have hkl : k < l.length := by rw [← HMM.out]; exact hlt
      obtain ⟨ab, ao, rfl, hc⟩ : ∃ ab ao, a = some ⟨ab, ao, none⟩ ∧ ∀ X, w.grownBy X none → X.cell? ⟨ab, ao + k, none⟩ = some (.int .i64 (l.getD k 0)) := by
        rcases HL.out wr HP.out.grown with h | ⟨ab, ao, e, h⟩
        · rw [h] at hkl; cases hkl
        · refine ⟨ab, ao, e, fun X hX => ?_⟩
          rcases HL.out X hX with h | ⟨ab', ao', e', h⟩
          · rw [h] at hkl; cases hkl
          · rw [e] at e'; cases e'; exact h k hkl
      have HAN : Hid ((0 : Int) ≤ l.getD k 0 ∧ l.getD k 0 < (tn : Int) + (nn : Int) → ∀ i, i < k + 1 → (0 : Int) ≤ l.getD i 0 ∧ l.getD i 0 < (tn : Int) + (nn : Int)) := fun h i hi => by
        by_cases e : i = k
        · rw [e]; exact h
        · exact HAL.out i (by omega)
      obtain ⟨x, hxe⟩ : ∃ x, x = l.getD k 0 := ⟨_, rfl⟩
      have HXE : Hid (x = l.getD k 0) := hxe
      simp only [← hxe] at hc
      have HCX : Hid (∀ X, w.grownBy X none → X.cell? ⟨ab, ao + k, none⟩ = some (.int .i64 x)) := hc
      have hk0 : (0 : Int) ≤ (k : Int) := by omega
      have hk1 : (k : Int) < (M : Int) := by omega
      have hkd : decide (k < M) = true := decide_eq_true hlt
      have HU : Hid (wr.grownBy wr.drew none) := grown_drewN wr 1
      obtain ⟨k0, k1, k2, k3, k4⟩ := HP.out.cells
      have c0 := hc wr HP.out.grown
      have HKS : Hid (∀ X, wr.grownBy X none → (X.cell? ⟨w.heap.size, 0, none⟩ = some (.slice ta tn tc) ∧ X.cell? ⟨w.heap.size, 1, none⟩ = some (.slice na nn nc) ∧ X.cell? ⟨w.heap.size, 2, none⟩ = some (.slice la ln lc) ∧ X.cell? ⟨w.heap.size, 3, none⟩ = some (.int .i64 st) ∧ X.cell? ⟨w.heap.size, 4, none⟩ = some (.slice pa n pc)) ∧ X.cell? ⟨ab, ao + k, none⟩ = some (.int .i64 x)) := fun X hX => ⟨(HP.out.kept hX).cells, HCX.out X (grown_trans HP.out.grown hX)⟩
      clear hc hxe hkl
      by_cases hx2 : (0 : Int) ≤ x
      · have hx0 : decide ((0 : Int) ≤ x) = true := decide_eq_true hx2
        by_cases hx3 : x < (tn : Int) + (nn : Int)
        · have hx1 : decide (x < (tn : Int) + (nn : Int)) = true := decide_eq_true hx3
          have HA2 := show Hid _ from HAN.out (by rw [← HXE.out]; exact ⟨hx2, hx3⟩)
          clear HAN
          go_wp2_with fail
          go_region_held3 (fun X => (X.cell? ⟨w.heap.size, 0, none⟩ = some (.slice ta tn tc) ∧ X.cell? ⟨w.heap.size, 1, none⟩ = some (.slice na nn nc) ∧ X.cell? ⟨w.heap.size, 2, none⟩ = some (.slice la ln lc) ∧ X.cell? ⟨w.heap.size, 3, none⟩ = some (.int .i64 st) ∧ X.cell? ⟨w.heap.size, 4, none⟩ = some (.slice pa n pc)) ∧ X.cell? ⟨ab, ao + k, none⟩ = some (.int .i64 x)) (first | exact HKS.out _ HU.out | exact HKS.out _ HG3.out | go_keep)
            ((first
              | (go_at_call 25; refine Calls.mono (HSY.out _) ?_; rintro e w3 ⟨rfl, hg3⟩; have HG3 : Hid (wr.grownBy w3 none) := grown_trans HU.out hg3; clear hg3)
              | fail))
          go_wp2_with fail
          go_roundg (M - (k + 1) + 1)
          case measure => have := HGK.out; omega
          case rel => exact ⟨k + 1, true, by omega, rfl, rfl, by go_num, fun _ => HA2.out, HP.out.kept HG3.out⟩
        · have hx1 : decide (x < (tn : Int) + (nn : Int)) = false := decide_eq_false hx3
          go_wp2_with fail
          go_region_held3 (fun X => (X.cell? ⟨w.heap.size, 0, none⟩ = some (.slice ta tn tc) ∧ X.cell? ⟨w.heap.size, 1, none⟩ = some (.slice na nn nc) ∧ X.cell? ⟨w.heap.size, 2, none⟩ = some (.slice la ln lc) ∧ X.cell? ⟨w.heap.size, 3, none⟩ = some (.int .i64 st) ∧ X.cell? ⟨w.heap.size, 4, none⟩ = some (.slice pa n pc)) ∧ X.cell? ⟨ab, ao + k, none⟩ = some (.int .i64 x)) (first | exact HKS.out _ HU.out | exact HKS.out _ HG3.out | go_keep)
            ((first
              | (go_at_call 25; refine Calls.mono (HSY.out _) ?_; rintro e w3 ⟨rfl, hg3⟩; have HG3 : Hid (wr.grownBy w3 none) := grown_trans HU.out hg3; clear hg3)
              | fail))
          go_wp2_with fail
          go_roundg (M - (k + 1))
          case measure => have := HGK.out; omega
          case rel => exact ⟨k + 1, false, by omega, rfl, rfl, by go_num, fun h => (by cases h), HP.out.kept HG3.out⟩
      · have hx0 : decide ((0 : Int) ≤ x) = false := decide_eq_false hx2
        go_wp2_with fail
        go_quiet (fail)
        go_wp2_with fail
        go_roundg (M - (k + 1))
        case measure => have := HGK.out; omega
        case rel => exact ⟨k + 1, false, by omega, rfl, rfl, by go_num, fun h => (by cases h), HP.out.kept (grown_drewN _ _)⟩
    · exfalso
      exact HBD.out fun i hi => HAL.out i (by omega)

end Go.Proofs.YtdhojilmgnodeaaDoor

/-
  first: Nullable, Sets and Row of both sides, told in one form.
-/
namespace Go.Proofs.YtdhojilmgnodeaaDoor
open Go.RowKit Go.Maps Go.Shelf

def NulT (N : Nat) (F : Nat → Bool) (ec : Int) (X : World) (e : Ending) (y : World) : Prop := ∃ (a : Option Addr) (c : Nat), e = .returned (.tuple #[.slice a N c, .int .i64 ec]) ∧ BlAt y a N F X.heap.size ∧ X.grownBy y none
/-- Rows of numbers in blocks of their own, from B on. -/
def LoAt (y : World) (B : Nat) (a : Option Addr) (N : Nat) (Q : Nat → List Int) (ua : Nat → Option Addr) (uc : Nat → Nat) : Prop := (N = 0 ∨ ∃ k, a = some ⟨k, 0, none⟩ ∧ B ≤ k ∧ ValAt y k N 24 (fun i => .slice (ua i) (Q i).length (uc i))) ∧ RowsO y B N ua Q uc
def SetT (N : Nat) (Q : Nat → List Int) (ec : Int) (X : World) (e : Ending) (y : World) : Prop := ∃ (a : Option Addr) (c : Nat) (ua : Nat → Option Addr) (uc : Nat → Nat), e = .returned (.tuple #[.slice a N c, .int .i64 ec]) ∧ LoAt y X.heap.size a N Q ua uc ∧ X.grownBy y none
def RSetT (N : Nat) (Q : Nat → List Int) (ec : Int) (X : World) (e : Ending) (y : World) : Prop := ∃ (a : Option Addr) (c : Nat) (ua : Nat → Option Addr) (uc : Nat → Nat), e = .returned (.tuple #[.slice a N c, .int .i64 ec]) ∧ LsAt y a N Q ua uc ∧ X.grownBy y none
def RowT (q : List Int) (b : Bool) (ec : Int) (X : World) (e : Ending) (y : World) : Prop := ∃ (a : Option Addr) (c : Nat), e = .returned (.tuple #[.slice a q.length c, .bool b, .int .i64 ec]) ∧ y.ownsRow X.heap.size 3 1 (.slice a q.length c) q.length (q.map (Value.int .i64)) ∧ X.grownBy y none
theorem LoAt.kept {y z : World} {B : Nat} {a : Option Addr} {N : Nat} {Q : Nat → List Int} {ua : Nat → Option Addr} {uc : Nat → Nat} (h : LoAt y B a N Q ua uc) (hg : y.grownBy z none) : LoAt z B a N Q ua uc := by
  refine ⟨?_, h.2.kept hg⟩
  rcases h.1 with h | ⟨k, e, h1, h2⟩
  · exact .inl h
  · exact .inr ⟨k, e, h1, h2.kept hg⟩
theorem LoAt.ls {y : World} {B : Nat} {a : Option Addr} {N : Nat} {Q : Nat → List Int} {ua : Nat → Option Addr} {uc : Nat → Nat} (h : LoAt y B a N Q ua uc) : LsAt y a N Q ua uc := by
  refine ⟨?_, fun i hi => (RowIn.of (h.2.own i hi) (Nat.zero_le _)).ints⟩
  rcases h.1 with h | ⟨k, e, _, h2⟩
  · exact .inl h
  · exact .inr ⟨k, e, fun i hi => h2.cell i hi⟩

theorem nul_tellV {tn nn n : Nat} {st : Int} {L : Nat → Int} {R : Nat → List Int} {cl : Bool} (hM : MayOK tn nn n st L R cl) : ∃ v : Nat, ∀ i : Nat, v.testBit i = true ↔ Nul n L R (i : Int) := by
  obtain ⟨v, _, h⟩ := exists_mask (fun i => Nul n L R (i : Int)) (tn + nn)
  refine ⟨v, fun i => (h i).trans ⟨fun h => h.2, fun h => ⟨?_, h⟩⟩⟩
  generalize hj : (i : Int) = j at h
  cases h with
  | prod k hk _ => have := (hM.left k hk).2; omega
theorem mems_tn {tn m : Nat} (ht : tn ≤ 65) (h : ∀ t : Nat, m.testBit t = true → t < tn) : B.mems tn m = B.mems 1024 m := by
  have := B.mems_skip m tn (1024 - tn) (fun s h1 _ => by
    cases hb : m.testBit s with
    | false => rfl
    | true => have := h s hb; omega)
  rw [show tn + (1024 - tn) = 1024 by omega] at this
  exact this.symm
theorem vanB_row {tn nn n : Nat} {st : Int} {L : Nat → Int} {R : Nat → List Int} {cl : Bool} (hM : MayOK tn nn n st L R cl) {v : Nat} (hv : ∀ i : Nat, v.testBit i = true ↔ Nul n L R (i : Int)) (l : List Int) (hl : ∀ x ∈ l, (0 : Int) ≤ x) : vanB tn (fun i => v.testBit (tn + i)) l = true ↔ RowN n L R l := by
  unfold vanB RowN
  rw [List.all_eq_true]
  have key : ∀ x : Int, 0 ≤ x → (((decide ((tn : Int) ≤ x) && v.testBit (tn + (x - tn).toNat)) = true) ↔ Nul n L R x) := fun x hx => by
    rw [Bool.and_eq_true, decide_eq_true_eq]
    constructor
    · rintro ⟨h1, h2⟩
      have e : tn + (x - tn).toNat = x.toNat := by omega
      rw [e] at h2
      have := (hv _).1 h2
      rwa [Int.toNat_of_nonneg hx] at this
    · intro h
      have h1 : (tn : Int) ≤ x := by
        cases h with
        | prod k hk _ => exact (hM.left k hk).1
      have e : tn + (x - tn).toNat = x.toNat := by omega
      rw [e]
      refine ⟨h1, (hv _).2 ?_⟩
      rwa [Int.toNat_of_nonneg hx]
  exact ⟨fun h x hx => (key x (hl x hx)).1 (h x hx), fun h x hx => (key x (hl x hx)).2 (h x hx)⟩

section
variable (ts : List (ByteArray × Int)) (ns : List ByteArray) (lv : List Int) (n : Nat) (L : Nat → Int) (R : Nat → List Int) (V : Nat → Int) (st : Int) (tn nn ln : Nat) (hlen : ts.length = tn ∧ ns.length = nn ∧ lv.length = ln) (hts : ∀ t ∈ ts, t.1.size ≤ 140737488355328) (hns : ∀ s ∈ ns, s.size ≤ 140737488355328)
/-- The grammar at these addresses. -/
def GHere (X : World) (ta na la pa : Option Addr) (tc nc lc pc : Nat) : Prop := ∃ ra rc, GAt X ta na la pa tc nc lc pc ts ns lv n L R ra rc V
theorem GHere.kept {X Y : World} {ta na la pa : Option Addr} {tc nc lc pc : Nat} (h : GHere ts ns lv n L R V X ta na la pa tc nc lc pc) (hg : X.grownBy Y none) : GHere ts ns lv n L R V Y ta na la pa tc nc lc pc := by
  obtain ⟨ra, rc, h⟩ := h
  exact ⟨ra, rc, h.kept hg⟩
include hlen hts hns
/-- What both sides tell of a grammar. -/
theorem told_sets : ∃ (N : Nat) (F : Nat → Bool) (Q : Nat → List Int) (ec : Int), N ≤ 65 ∧ (∀ i, (Q i).length ≤ 1024) ∧
    (∀ X ta na la pa tc nc lc pc, GHere ts ns lv n L R V X ta na la pa tc nc lc pc → B.Tab X → 0 < X.heap.size →
      Calls Tryd.prog 10 #[.agg #[.slice ta tn tc, .slice na nn nc, .slice la ln lc, .int .i64 st, .slice pa n pc]] X (NulT N F ec X) ∧
      Calls Tryd.prog 11 #[.agg #[.slice ta tn tc, .slice na nn nc, .slice la ln lc, .int .i64 st, .slice pa n pc]] X (NulT N F ec X) ∧
      Calls Tryd.prog 13 #[.agg #[.slice ta tn tc, .slice na nn nc, .slice la ln lc, .int .i64 st, .slice pa n pc]] X (SetT N Q ec X) ∧
      Calls Tryd.prog 14 #[.agg #[.slice ta tn tc, .slice na nn nc, .slice la ln lc, .int .i64 st, .slice pa n pc]] X (RSetT N Q ec X)) := by
  by_cases hok : validOK ts ns lv st n L R V ∨ closedOK ts ns lv st n L R V
  · obtain ⟨rV, hV⟩ := boolOf (validOK ts ns lv st n L R V)
    obtain ⟨rC, hC⟩ := boolOf (closedOK ts ns lv st n L R V)
    have hM : MayOK tn nn n st L R rC := may_of hlen hV hC (by rcases hok with h | h; · rw [hV.2 h]; rfl
                                                               · rw [hC.2 h]; simp)
    obtain ⟨F, Mk, hF⟩ := FOf.exists tn n L R
    obtain ⟨v, hv⟩ := nul_tellV hM
    refine ⟨nn, F, fun i => B.mems 1024 (Mk i), 0, hM.nmax, fun i => mems_short _, fun X ta na la pa tc nc lc pc ⟨ra, rc, hG⟩ hT h0 => ⟨?_, ?_, ?_, ?_⟩⟩
    · refine (nullable_ok ta na la pa tc nc lc pc ts ns lv n L R ra rc V st X tn nn ln hlen hG hok hM F hF.nul).mono ?_
      rintro e y ⟨k, rfl, h1, h2, h3⟩
      exact ⟨_, _, rfl, .inr ⟨k, rfl, h1, h2⟩, h3⟩
    · refine (rnullable_ok ta na la pa tc nc lc pc ts ns lv n L R ra rc V st X tn nn ln hlen hG hts hns hok hM F hF.nul).mono ?_
      rintro e y ⟨k, rfl, h1, h2, h3⟩
      exact ⟨_, _, rfl, .inr ⟨k, rfl, h1, h2⟩, h3⟩
    · refine (sets_own ta na la pa tc nc lc pc ts ns lv n L R ra rc V st X tn nn ln hlen hG hok hM F Mk hF hT h0 _ (fun _ => rfl)).mono ?_
      rintro e y ⟨k, ua, uc, rfl, h1, h2, h3, h4⟩
      exact ⟨_, _, ua, uc, rfl, ⟨.inr ⟨k, rfl, h1, h2⟩, h3⟩, h4⟩
    · refine (rsets_ok ta na la pa tc nc lc pc ts ns lv n L R ra rc V st X tn nn ln hlen hG hts hns hok hM hM.n0 v hv (fun i => B.mems 1024 (Mk i)) (fun m hf i hi => ?_)).mono ?_
      · rw [(hF.eq hf).2 i, listF_mems tn (fun _ _ => rfl)]
        exact mems_tn hM.tmax (fun t ht => by have := ((hF.beg i t).1 ht).bound; omega)
      · rintro e y ⟨a, c, ua, uc, rfl, h1, h2, h3⟩
        refine ⟨a, c, ua, uc, rfl, ⟨?_, fun i hi => (h2 i hi).ints⟩, h3⟩
        rcases h1.2 with ⟨h', h2⟩ | ⟨g, cap, cur, hv, _⟩
        · exact .inl h2
        · simp only [Value.slice.injEq] at hv
          obtain ⟨rfl, _, _⟩ := hv
          refine .inr ⟨g, rfl, fun i hi => owns_cell h1 ?_⟩
          unfold rowsL
          rw [List.getElem?_map, List.getElem?_range hi]
          rfl
  · have hv : ¬ validOK ts ns lv st n L R V := fun h => hok (.inl h)
    have hc : ¬ closedOK ts ns lv st n L R V := fun h => hok (.inr h)
    refine ⟨0, fun _ => false, fun _ => [], 1, by decide, fun i => by simp, fun X ta na la pa tc nc lc pc ⟨ra, rc, hG⟩ hT h0 => ⟨?_, ?_, ?_, ?_⟩⟩
    · refine (nullable_bad ta na la pa tc nc lc pc ts ns lv n L R ra rc V st X tn nn ln hlen hG hv hc).mono ?_
      rintro e y ⟨rfl, h3⟩
      exact ⟨_, _, rfl, .inl rfl, h3⟩
    · refine (rnullable_bad ta na la pa tc nc lc pc ts ns lv n L R ra rc V st X tn nn ln hlen hG hts hns hv hc).mono ?_
      rintro e y ⟨rfl, h3⟩
      exact ⟨_, _, rfl, .inl rfl, h3⟩
    · refine (sets_bad ta na la pa tc nc lc pc ts ns lv n L R ra rc V st X tn nn ln hlen hG hv hc).mono ?_
      rintro e y ⟨rfl, h3⟩
      exact ⟨_, _, fun _ => none, fun _ => 0, rfl, ⟨.inl rfl, RowsO.zero _ _ _ _ _⟩, h3⟩
    · refine (rsets_bad ta na la pa tc nc lc pc ts ns lv n L R ra rc V st X tn nn ln hlen hG hts hns hv hc).mono ?_
      rintro e y ⟨rfl, h3⟩
      exact ⟨_, _, fun _ => none, fun _ => 0, rfl, ⟨.inl rfl, fun i hi => absurd hi (Nat.not_lt_zero _)⟩, h3⟩

/-- What both sides tell of a row. -/
theorem told_row (l : List Int) (hll : l.length ≤ 17592186044416) : ∃ (q : List Int) (b : Bool) (ec : Int), q.length ≤ 1024 ∧
    (∀ X ta na la pa tc nc lc pc a cap, GHere ts ns lv n L R V X ta na la pa tc nc lc pc → B.Tab X → 0 < X.heap.size → IntsAt X a l →
      Calls Tryd.prog 17 #[.agg #[.slice ta tn tc, .slice na nn nc, .slice la ln lc, .int .i64 st, .slice pa n pc], .slice a l.length cap] X (RowT q b ec X) ∧
      Calls Tryd.prog 18 #[.agg #[.slice ta tn tc, .slice na nn nc, .slice la ln lc, .int .i64 st, .slice pa n pc], .slice a l.length cap] X (RowT q b ec X)) := by
  by_cases hok : validOK ts ns lv st n L R V ∨ closedOK ts ns lv st n L R V
  · obtain ⟨rV, hV⟩ := boolOf (validOK ts ns lv st n L R V)
    obtain ⟨rC, hC⟩ := boolOf (closedOK ts ns lv st n L R V)
    have hM : MayOK tn nn n st L R rC := may_of hlen hV hC (by rcases hok with h | h; · rw [hV.2 h]; rfl
                                                               · rw [hC.2 h]; simp)
    by_cases hx : ∀ x ∈ l, (0 : Int) ≤ x ∧ x < ((tn + nn : Nat) : Int)
    · obtain ⟨v, hv⟩ := nul_tellV hM
      obtain ⟨b, hb⟩ := boolOf (RowN n L R l)
      obtain ⟨q, hq0, hq1⟩ := exists_mask (fun t => RowB tn n L R l (t : Int)) 65
      have hq : ∀ t : Nat, q.testBit t = true ↔ RowB tn n L R l (t : Int) := fun t => (hq1 t).trans ⟨fun h => h.2, fun h => ⟨by have := h.bound; have := hM.tmax; omega, h⟩⟩
      refine ⟨B.mems 1024 q, b, 0, mems_short _, fun X ta na la pa tc nc lc pc a cap ⟨ra, rc, hG⟩ hT h0 hl => ⟨?_, ?_⟩⟩
      · refine (row_ok ta na la pa tc nc lc pc ts ns lv n L R ra rc V st X tn nn ln hlen hG a cap l hl hll hok hM hx hT h0 b q hb hq).mono ?_
        rintro e y ⟨a', c', rfl, h1, h2⟩
        exact ⟨a', c', rfl, h1, h2⟩
      · refine (rrow_ok ta na la pa a tc nc lc pc cap ts ns lv n L R ra rc V st X tn nn ln hlen hG hts hns hok hM hM.n0 v hv l hl hll hx (B.mems 1024 q) (fun m hf => ?_)).mono ?_
        · rw [(hf.rowq (fun x h => (hx x h).1) hb hq).2, listF_mems tn (fun _ _ => rfl)]
          exact mems_tn hM.tmax (fun t ht => by have := ((hq t).1 ht).bound; omega)
        · rintro e y ⟨a', c', rfl, h1, h2⟩
          have e1 : vanB tn (fun i => v.testBit (tn + i)) l = b := by
            have := (vanB_row hM hv l (fun x h => (hx x h).1)).trans hb.symm
            cases ha : vanB tn (fun i => v.testBit (tn + i)) l <;> cases hb : b <;> simp_all
          rw [e1]
          exact ⟨a', c', rfl, h1, h2⟩
    · have hx1 : ∃ x ∈ l, symB (tn + nn) x = false := by
        apply Classical.byContradiction
        intro h
        apply hx
        intro x hm
        have h2 : symB (tn + nn) x = true := by
          cases hs : symB (tn + nn) x with
          | true => rfl
          | false => exact absurd ⟨x, hm, hs⟩ h
        unfold symB at h2
        simpa using h2
      have hx2 : ¬ ∀ i, i < l.length → (0 : Int) ≤ l.getD i 0 ∧ l.getD i 0 < (tn : Int) + (nn : Int) := fun h => hx fun x hm => by
        obtain ⟨i, hi, e⟩ := List.getElem_of_mem hm
        have := h i hi
        rw [List.getD_eq_getElem?_getD, List.getElem?_eq_getElem hi] at this
        simp only [Option.getD_some] at this
        rw [e] at this
        omega
      refine ⟨[], false, 1, by simp, fun X ta na la pa tc nc lc pc a cap ⟨ra, rc, hG⟩ hT h0 hl => ⟨?_, ?_⟩⟩
      · refine (row_bad2 ta na la pa tc nc lc pc ts ns lv n L R ra rc V st X tn nn ln hlen hG a cap l hl hll hok hM hx1).mono ?_
        rintro e y ⟨rfl, h2⟩
        exact ⟨_, _, rfl, World.ownsRow_nil _ _ _ _, h2⟩
      · refine (rrow_bad2 ta na la pa a tc nc lc pc cap ts ns lv n L R ra rc V st X tn nn ln hlen hG hts hns hok hM.tmax hM.nmax l hl hll hx2).mono ?_
        rintro e y ⟨rfl, h2⟩
        exact ⟨_, _, rfl, World.ownsRow_nil _ _ _ _, h2⟩
  · have hv : ¬ validOK ts ns lv st n L R V := fun h => hok (.inl h)
    have hc : ¬ closedOK ts ns lv st n L R V := fun h => hok (.inr h)
    refine ⟨[], false, 1, by simp, fun X ta na la pa tc nc lc pc a cap ⟨ra, rc, hG⟩ hT h0 hl => ⟨?_, ?_⟩⟩
    · refine (row_bad1 ta na la pa tc nc lc pc ts ns lv n L R ra rc V st X tn nn ln hlen hG a l.length cap hv hc).mono ?_
      rintro e y ⟨rfl, h2⟩
      exact ⟨_, _, rfl, World.ownsRow_nil _ _ _ _, h2⟩
    · refine (rrow_bad1 ta na la pa tc nc lc pc ts ns lv n L R ra rc V st X tn nn ln hlen hG hts hns a l.length cap hv hc).mono ?_
      rintro e y ⟨rfl, h2⟩
      exact ⟨_, _, rfl, World.ownsRow_nil _ _ _ _, h2⟩
end

end Go.Proofs.YtdhojilmgnodeaaDoor
