import Derived.Test.YtdhojilmgnodeaaDoorQndkeojbeldic
import Derived.Test.YtdhojilmgnodeaaDoorQboebkefnlkgn
import Derived.Test.YtdhojilmgnodeaaDoorQolfdolefocof

/-
  first: the document's List, Either, Nullable.
-/
namespace Go.Proofs.YtdhojilmgnodeaaDoor
open Go.RowKit Go.Maps Go.Shelf

attribute [local go_sem] Oper.semAt_some

/-- The numbers below k that are so. -/
def listF (f : Nat → Bool) (k : Nat) : List Int := ((List.range k).filter f).map fun i : Nat => (i : Int)
theorem listF_succ (f : Nat → Bool) (k : Nat) : listF f (k + 1) = listF f k ++ (if f k = true then [(k : Int)] else []) := by
  unfold listF
  rw [List.range_succ, List.filter_append, List.map_append]
  cases h : f k <;> simp only [List.filter_cons, h, List.filter_nil] <;> rfl
theorem listF_len (f : Nat → Bool) (k : Nat) : (listF f k).length ≤ k := by
  unfold listF
  rw [List.length_map]
  have := List.length_filter_le f (List.range k)
  rwa [List.length_range] at this
theorem listF_mems {f : Nat → Bool} {m : Nat} : ∀ k, (∀ i, i < k → f i = m.testBit i) → listF f k = B.mems k m
  | 0, _ => rfl
  | k + 1, h => by rw [listF_succ, B.mems_succ, listF_mems k (fun i hi => h i (by omega)), h k (by omega)]

set_option maxRecDepth 100000 in
set_option maxHeartbeats 1000000 in
theorem rlist_any (kb n : Nat) (f : Nat → Bool) (w : World) (hB : ValAt w kb n 4 (fun i => .bool (f i))) (hn : n ≤ 1024) :
    Calls Tryd.prog 34 #[.slice (some ⟨kb, 0, none⟩) n n] w fun e y => BothTold (listF f n) w e y := by
  have HB : Hid (∀ X, w.grownBy X none → ValAt X kb n 4 (fun i => .bool (f i))) := fun X hX => hB.kept hX
  obtain ⟨i0, hi0, hz0, hz1, hz2⟩ := info_parts infoIntK
  clear hB
  go_enter Tryd.func34, Tryd.ntmps34
  go_wp2_with fail
  go_loopg [3, 4] n (fun gk v3 v4 wr => ∃ (k : Nat) (a' : Option Addr) (c' : Nat), k ≤ n ∧ gk = n - k ∧ v3 = .slice a' (listF f k).length c' ∧ v4 = .int .i64 k ∧ w.grownBy wr none ∧ wr.ownsRow w.heap.size 3 1 (.slice a' (listF f k).length c') (listF f k).length ((listF f k).map (Value.int .i64)))
  case atStart => exact ⟨0, none, 0, Nat.zero_le _, rfl, rfl, rfl, grown_refl _ _, World.ownsRow_nil _ _ _ _⟩
  case round =>
    obtain ⟨k, a', c', hk, hgk, rfl, rfl, hg, ho⟩ := hrel
    have HGK : Hid (gk = n - k) := hgk
    have HG : Hid (w.grownBy wr none) := hg
    obtain ⟨ol, hol⟩ : ∃ o, o = (listF f k).length := ⟨_, rfl⟩
    have HOL : Hid (ol = (listF f k).length) := hol
    have holb : ol ≤ 1024 := by rw [hol]; exact Nat.le_trans (listF_len f k) (by omega)
    rw [← hol] at ho
    rw [← hol]
    have HO := show Hid _ from ho
    clear hgk hg ho hol
    by_cases hlt : k < n
    · have hk0 : (0 : Int) ≤ (k : Int) := by omega
      have hk1 : (k : Int) < (n : Int) := by omega
      have hkd : decide (k < n) = true := decide_eq_true hlt
      have b0 := (HB.out wr HG.out).cell k hlt
      have HS := show Hid _ from listF_succ f k
      obtain ⟨fk, hfk⟩ : ∃ c, c = f k := ⟨_, rfl⟩
      rw [← hfk] at b0 HS
      clear hfk
      cases fk with
      | false =>
        have HS2 : Hid (listF f (k + 1) = listF f k) := by show _ = _; rw [HS.out]; simp
        clear HS
        go_wp2_with fail
        go_roundg (n - (k + 1))
        case measure => have := HGK.out; omega
        case rel => exact ⟨k + 1, a', c', by omega, rfl, by rw [HS2.out, ← HOL.out], by go_num, HG.out, by rw [HS2.out, ← HOL.out]; exact HO.out⟩
      | true =>
        have HS2 : Hid (listF f (k + 1) = listF f k ++ [(k : Int)]) := by show _ = _; rw [HS.out]; simp
        have HOW : Hid ((wr.alloc (.cells #[.int .i64 (k : Int)] 3)).ownsRow w.heap.size 3 1 (.slice a' ol c') ol ((listF f k).map (Value.int .i64))) := keep0 HO.out (World.grownBy_alloc _ _ none)
        have HGA : Hid (w.grownBy (wr.alloc (.cells #[.int .i64 (k : Int)] 3)) none) := grown_trans HG.out (World.grownBy_alloc _ _ none)
        have HF6 : Hid (∀ v6 wB, wB.ownsRow w.heap.size 3 1 v6 (ol + 1) ((listF f k).map (Value.int .i64) ++ [.int .i64 (k : Int)]) → (wr.alloc (.cells #[.int .i64 (k : Int)] 3)).grownBy wB (Value.slice a' ol c').ownBlock → ∃ a c, v6 = .slice a (listF f (k + 1)).length c ∧ w.grownBy wB none ∧ wB.ownsRow w.heap.size 3 1 (.slice a (listF f (k + 1)).length c) (listF f (k + 1)).length ((listF f (k + 1)).map (Value.int .i64))) := by
          intro v6 wB ho hg
          obtain ⟨a, c, rfl⟩ := owns_slice ho
          have e1 : (listF f (k + 1)).length = ol + 1 := by rw [HS2.out, List.length_append, ← HOL.out]; rfl
          refine ⟨a, c, by rw [e1], ?_, ?_⟩
          · cases hv : (Value.slice a' ol c').ownBlock with
            | none => rw [hv] at hg; exact grown_trans HGA.out hg
            | some q => rw [hv] at hg; exact grown_at HGA.out hg (HOW.out.lt q hv).1
          · rw [e1, HS2.out, List.map_append]
            exact ho
        have HNW : Hid (∀ j u, [Value.int .i64 (k : Int)][j]? = some u → (wr.alloc (.cells #[.int .i64 (k : Int)] 3)).cell? ((⟨wr.heap.size, 0, none⟩ : Addr).add j) = some u) := news_new wr _ _
        have HBB : Hid (w.heap.size ≤ (wr.alloc (.cells #[.int .i64 (k : Int)] 3)).heap.size) := HGA.out.size
        clear HS
        go_wp2_with (at_builtin; refine wpList_append_src rfl (.tmp 15) (.tmp 17) 24 rfl w.heap.size 3 i0 (.int .i64 0) 1 8 Tryd.underlying24 hi0 hz0 hz1 hz2 rfl (by decide) (.slice a' ol c') ol ((listF f k).map (Value.int .i64)) rfl HOW.out (some ⟨wr.heap.size, 0, none⟩) 1 1 [.int .i64 (k : Int)] rfl (fun h => by cases h) rfl (fun ad e => by cases e; exact HNW.out) (by simp [Value.oneCell']) (by unfold maxLen; omega) (by omega) HBB.out ?_; intro v6 wB hoB hgB; obtain ⟨a6, c6, rfl, y2, y3⟩ := HF6.out v6 wB hoB hgB; have HY2 := show Hid _ from y2; have HY3 := show Hid _ from y3; clear hoB hgB y2 y3)
        go_roundg (n - (k + 1))
        case measure => have := HGK.out; omega
        case rel => exact ⟨k + 1, a6, c6, by omega, rfl, rfl, by go_num, HY2.out, HY3.out⟩
    · have hkn : n = k := by omega
      subst hkn
      have hkd : decide (n < n) = false := decide_eq_false (by omega)
      go_wp2_with fail
      go_ret
      have h2 := HO.out
      rw [HOL.out] at h2
      exact ⟨a', c', by rw [← HOL.out]; rfl, h2, HG.out⟩

end Go.Proofs.YtdhojilmgnodeaaDoor

/-
  first: the document's Either and Nullable.
-/
namespace Go.Proofs.YtdhojilmgnodeaaDoor
open Go.RowKit Go.Maps Go.Shelf

attribute [local go_sem] Oper.semAt_some

set_option maxRecDepth 100000 in
theorem keither_any (ta na la pa : Option Addr) (tc nc lc pc : Nat) (ts : List (ByteArray × Int)) (ns : List ByteArray) (lv : List Int) (n : Nat) (L : Nat → Int) (R : Nat → List Int) (ra : Nat → Option Addr) (rc : Nat → Nat) (V : Nat → Int) (st : Int) (w : World) (tn nn ln : Nat) (hlen : ts.length = tn ∧ ns.length = nn ∧ lv.length = ln) (hG : GAt w ta na la pa tc nc lc pc ts ns lv n L R ra rc V) (hwf : ∀ t ∈ ts, t.1.size ≤ 140737488355328) (hnz : ∀ s ∈ ns, s.size ≤ 140737488355328) (r : Bool) (hr : r = true ↔ validOK ts ns lv st n L R V ∨ closedOK ts ns lv st n L R V) :
    Calls Tryd.prog 30 #[.agg #[.slice ta tn tc, .slice na nn nc, .slice la ln lc, .int .i64 st, .slice pa n pc]] w fun e w' => e = .returned (.bool r) ∧ w.grownBy w' none := by
  obtain ⟨rV, hrV⟩ := boolOf (validOK ts ns lv st n L R V)
  obtain ⟨rC, hrC⟩ := boolOf (closedOK ts ns lv st n L R V)
  have HV : Hid (∀ Y, w.grownBy Y none → Calls Tryd.prog 23 #[.agg #[.slice ta tn tc, .slice na nn nc, .slice la ln lc, .int .i64 st, .slice pa n pc]] Y fun e w' => e = .returned (.bool rV) ∧ Y.grownBy w' none) := fun Y hY => by
    have := rvalid_any ta na la pa tc nc lc pc st ts ns lv n L R ra rc V Y (hG.kept hY) hwf hnz rV hrV
    rwa [hlen.1, hlen.2.1, hlen.2.2] at this
  have HC : Hid (∀ Y, w.grownBy Y none → Calls Tryd.prog 24 #[.agg #[.slice ta tn tc, .slice na nn nc, .slice la ln lc, .int .i64 st, .slice pa n pc]] Y fun e w' => e = .returned (.bool rC) ∧ Y.grownBy w' none) := fun Y hY => by
    have := rclosed_any ta na la pa tc nc lc pc st ts ns lv n L R ra rc V Y (hG.kept hY) hwf hnz rC hrC
    rwa [hlen.1, hlen.2.1, hlen.2.2] at this
  have hre : r = (rV || rC) := by
    rw [Bool.eq_iff_iff, hr, Bool.or_eq_true, hrV, hrC]
  have HX0 : Hid (PhAt w (w.alloc (.cells #[.slice ta tn tc, .slice na nn nc, .slice la ln lc, .int .i64 st, .slice pa n pc] 27)) w.heap.size #[.slice ta tn tc, .slice na nn nc, .slice la ln lc, .int .i64 st, .slice pa n pc]) := ⟨World.grownBy_alloc _ _ none, heap_alloc_last w _⟩
  clear hG hlen hr hrV hrC hwf hnz
  subst hre
  cases rV
  · go_enter Tryd.func30, Tryd.ntmps30
    go_wp2_with fail
    refine Calls.mono (HV.out _ HX0.out.grown) ?_
    rintro e w1 ⟨rfl, hg1⟩
    have HX1 : Hid (PhAt w w1 w.heap.size #[.slice ta tn tc, .slice na nn nc, .slice la ln lc, .int .i64 st, .slice pa n pc]) := HX0.out.kept hg1
    obtain ⟨k0, k1, k2, k3, k4⟩ := HX1.out.cells
    clear hg1 HX0
    go_wp2_with fail
    refine Calls.mono (HC.out w1 HX1.out.grown) ?_
    rintro e w2 ⟨rfl, hg2⟩
    have HG2 : Hid (w.grownBy w2 none) := grown_trans HX1.out.grown hg2
    clear hg2 HX1 HC HV
    go_wp2_with fail
    go_ret
    exact ⟨by simp, HG2.out⟩
  · go_enter Tryd.func30, Tryd.ntmps30
    go_wp2_with fail
    refine Calls.mono (HV.out _ HX0.out.grown) ?_
    rintro e w1 ⟨rfl, hg1⟩
    have HX1 : Hid (PhAt w w1 w.heap.size #[.slice ta tn tc, .slice na nn nc, .slice la ln lc, .int .i64 st, .slice pa n pc]) := HX0.out.kept hg1
    obtain ⟨k0, k1, k2, k3, k4⟩ := HX1.out.cells
    clear hg1 HX0
    go_wp2_with fail
    refine Calls.mono (HC.out w1 HX1.out.grown) ?_
    rintro e w2 ⟨rfl, hg2⟩
    have HG2 : Hid (w.grownBy w2 none) := grown_trans HX1.out.grown hg2
    clear hg2 HX1 HC HV
    go_wp2_with fail
    go_ret
    exact ⟨by simp, HG2.out⟩

section
variable (ta na la pa : Option Addr) (tc nc lc pc : Nat) (ts : List (ByteArray × Int)) (ns : List ByteArray) (lv : List Int) (n : Nat) (L : Nat → Int) (R : Nat → List Int) (ra : Nat → Option Addr) (rc : Nat → Nat) (V : Nat → Int) (st : Int) (w : World) (tn nn ln : Nat) (hlen : ts.length = tn ∧ ns.length = nn ∧ lv.length = ln) (hG : GAt w ta na la pa tc nc lc pc ts ns lv n L R ra rc V) (hwf : ∀ t ∈ ts, t.1.size ≤ 140737488355328) (hnz : ∀ s ∈ ns, s.size ≤ 140737488355328)
include hlen hG

theorem rnull_ok {cl : Bool} (hM : MayOK tn nn n st L R cl) (F : Nat → Bool) (hF : ∀ i : Nat, F i = true ↔ Nul n L R ((tn + i : Nat) : Int)) : Calls Tryd.prog 31 #[.agg #[.slice ta tn tc, .slice na nn nc, .slice la ln lc, .int .i64 st, .slice pa n pc]] w fun e y => ∃ k, e = .returned (.slice (some ⟨k, 0, none⟩) nn nn) ∧ w.heap.size ≤ k ∧ ValAt y k nn 4 (fun i => .bool (F i)) ∧ w.grownBy y none := by
  have h0 := hM.p0
  rcases hG.prods with h | ⟨bp, op, rfl, hp⟩
  · omega
  · exact rnull_any ta na la tn nn ln n tc nc lc pc bp op st L R ra rc w (by have := hM.tmax; have := hM.nmax; omega) (by have := hM.pmax; omega) (fun k hk => ⟨(hp k hk).1, (hp k hk).2.1, (hp k hk).2.2.2.1, (hp k hk).2.2.2.2.2⟩) (fun k hk => ⟨by have := hM.left k hk; omega, (hM.left k hk).2⟩) (fun k hk x hx => ⟨by have := hM.right k hk x hx; omega, (hM.right k hk x hx).2⟩) F hF

include hwf hnz
set_option maxRecDepth 100000 in
theorem rnullable_bad (hv : ¬ validOK ts ns lv st n L R V) (hc : ¬ closedOK ts ns lv st n L R V) : Calls Tryd.prog 11 #[.agg #[.slice ta tn tc, .slice na nn nc, .slice la ln lc, .int .i64 st, .slice pa n pc]] w fun e y => e = .returned (.tuple #[.slice none 0 0, .int .i64 1]) ∧ w.grownBy y none := by
  have HMB : Hid (∀ X, w.grownBy X none → Calls Tryd.prog 30 #[.agg #[.slice ta tn tc, .slice na nn nc, .slice la ln lc, .int .i64 st, .slice pa n pc]] X fun e w' => e = .returned (.bool false) ∧ X.grownBy w' none) := fun X hX => keither_any ta na la pa tc nc lc pc ts ns lv n L R ra rc V st X tn nn ln hlen (hG.kept hX) hwf hnz false ⟨fun h => (by cases h), fun h => h.elim (fun h => absurd h hv) (fun h => absurd h hc)⟩
  have HG0 : Hid (w.grownBy (w.alloc (.cells #[.slice ta tn tc, .slice na nn nc, .slice la ln lc, .int .i64 st, .slice pa n pc] 27)) none) := World.grownBy_alloc _ _ none
  clear hG hlen hv hc hwf hnz
  go_enter Tryd.func11, Tryd.ntmps11
  go_wp2_with fail
  refine Calls.mono (HMB.out _ HG0.out) ?_
  rintro e w1 ⟨rfl, hg1⟩
  have HG1 : Hid (w.grownBy w1 none) := grown_trans HG0.out hg1
  clear hg1
  go_wp2_with fail
  go_ret2
  exact ⟨rfl, HG1.out⟩

set_option maxRecDepth 100000 in
theorem rnullable_ok (h : validOK ts ns lv st n L R V ∨ closedOK ts ns lv st n L R V) {cl : Bool} (hM : MayOK tn nn n st L R cl) (F : Nat → Bool) (hF : ∀ i : Nat, F i = true ↔ Nul n L R ((tn + i : Nat) : Int)) :
    Calls Tryd.prog 11 #[.agg #[.slice ta tn tc, .slice na nn nc, .slice la ln lc, .int .i64 st, .slice pa n pc]] w fun e y => ∃ k, e = .returned (.tuple #[.slice (some ⟨k, 0, none⟩) nn nn, .int .i64 0]) ∧ w.heap.size ≤ k ∧ ValAt y k nn 4 (fun i => .bool (F i)) ∧ w.grownBy y none := by
  have HMB : Hid (∀ X, w.grownBy X none → Calls Tryd.prog 30 #[.agg #[.slice ta tn tc, .slice na nn nc, .slice la ln lc, .int .i64 st, .slice pa n pc]] X fun e w' => e = .returned (.bool true) ∧ X.grownBy w' none) := fun X hX => keither_any ta na la pa tc nc lc pc ts ns lv n L R ra rc V st X tn nn ln hlen (hG.kept hX) hwf hnz true ⟨fun _ => h, fun _ => rfl⟩
  have HNU : Hid (∀ X, w.grownBy X none → Calls Tryd.prog 31 #[.agg #[.slice ta tn tc, .slice na nn nc, .slice la ln lc, .int .i64 st, .slice pa n pc]] X fun e y => ∃ k, e = .returned (.slice (some ⟨k, 0, none⟩) nn nn) ∧ X.heap.size ≤ k ∧ ValAt y k nn 4 (fun i => .bool (F i)) ∧ X.grownBy y none) := fun X hX => rnull_ok ta na la pa tc nc lc pc ts ns lv n L R ra rc V st X tn nn ln hlen (hG.kept hX) hM F hF
  have HX0 : Hid (PhAt w (w.alloc (.cells #[.slice ta tn tc, .slice na nn nc, .slice la ln lc, .int .i64 st, .slice pa n pc] 27)) w.heap.size #[.slice ta tn tc, .slice na nn nc, .slice la ln lc, .int .i64 st, .slice pa n pc]) := ⟨World.grownBy_alloc _ _ none, heap_alloc_last w _⟩
  clear hG hlen hwf hnz h hM hF
  go_enter Tryd.func11, Tryd.ntmps11
  go_wp2_with fail
  refine Calls.mono (HMB.out _ HX0.out.grown) ?_
  rintro e w1 ⟨rfl, hg1⟩
  have HX1 : Hid (PhAt w w1 w.heap.size #[.slice ta tn tc, .slice na nn nc, .slice la ln lc, .int .i64 st, .slice pa n pc]) := HX0.out.kept hg1
  clear hg1 HX0
  obtain ⟨k0, k1, k2, k3, k4⟩ := HX1.out.cells
  go_wp2_with fail
  refine Calls.mono (HNU.out _ HX1.out.grown) ?_
  rintro e w2 ⟨k, rfl, hk, hb, hg2⟩
  have HB : Hid (w.heap.size ≤ k ∧ ValAt w2 k nn 4 (fun i => .bool (F i)) ∧ w.grownBy w2 none) := ⟨Nat.le_trans HX1.out.grown.size hk, hb, grown_trans HX1.out.grown hg2⟩
  clear hk hb hg2 HX1 HMB HNU
  go_wp2_with fail
  go_ret2
  exact ⟨k, rfl, HB.out.1, HB.out.2.1, HB.out.2.2⟩
end

end Go.Proofs.YtdhojilmgnodeaaDoor

/-
  first: the document's lay.
-/
namespace Go.Proofs.YtdhojilmgnodeaaDoor
open Go.RowKit Go.Maps Go.Shelf

attribute [local go_sem] Oper.semAt_some

section
variable {f g h t : Nat}
theorem lay_no (hb : h.testBit t = false) : f ||| h % 2 ^ (t + 1) = f ||| h % 2 ^ t := by
  apply Nat.eq_of_testBit_eq
  intro u
  simp only [Nat.testBit_or, Nat.testBit_mod_two_pow]
  by_cases e : u = t
  · subst e; simp [hb]
  · have : decide (u < t + 1) = decide (u < t) := by simp; omega
    rw [this]
theorem lay_in (hb : f.testBit t = true) : f ||| h % 2 ^ (t + 1) = f ||| h % 2 ^ t := by
  apply Nat.eq_of_testBit_eq
  intro u
  simp only [Nat.testBit_or, Nat.testBit_mod_two_pow]
  by_cases e : u = t
  · subst e; simp [hb]
  · have : decide (u < t + 1) = decide (u < t) := by simp; omega
    rw [this]
theorem lay_set (hb : h.testBit t = true) (u : Nat) : (f ||| h % 2 ^ (t + 1)).testBit u = if u = t then true else (f ||| h % 2 ^ t).testBit u := by
  simp only [Nat.testBit_or, Nat.testBit_mod_two_pow]
  by_cases e : u = t
  · subst e; simp [hb]
  · have : decide (u < t + 1) = decide (u < t) := by simp; omega
    rw [this, if_neg e]
theorem lay_at : (f ||| h % 2 ^ t).testBit t = f.testBit t := by
  simp [Nat.testBit_or, Nat.testBit_mod_two_pow]
/-- All of one in another. -/
def Le (f g : Nat) : Prop := ∀ i, f.testBit i = true → g.testBit i = true
theorem Le.or (hl : Le f g) (h : Nat) : Le f (g ||| h) := fun i hi => by rw [Nat.testBit_or, hl i hi]; rfl
theorem Le.eq (hl : Le f g) : g ||| f = g := by
  apply Nat.eq_of_testBit_eq
  intro u
  rw [Nat.testBit_or]
  cases hf : f.testBit u with
  | false => simp
  | true => rw [hl u hf]; rfl
theorem Le.ne (hl : Le f g) (h1 : g.testBit t = false) {x : Nat} (h2 : x.testBit t = true) : x ≠ f := fun e => by
  subst e
  rw [hl t h2] at h1
  cases h1
end

set_option maxRecDepth 100000 in
set_option maxHeartbeats 2000000 in
theorem rlay_any (kb nb hb tn nn S hc tb : Nat) (ta a : Option Addr) (tc cap : Nat) (v : Nat) (rb m : Nat → Nat) (f : Nat) (l : List Int) (w : World) (hS : S = tn + nn) (hz : S ≤ 1024)
    (hbx : w.cell? ⟨kb, 0, none⟩ = some (.slice ta tn tc) ∧ w.cell? ⟨kb, 5, none⟩ = some (.slice (some ⟨nb, 0, none⟩) nn nn) ∧ w.cell? ⟨kb, 6, none⟩ = some (.slice (some ⟨hb, 0, none⟩) S hc)) (hkt : kb ≠ tb)
    (hnu : ValAt w nb nn 4 (fun i => .bool (v.testBit (tn + i)))) (hnt : nb ≠ tb)
    (hha : ∀ i, i < S → w.cell? ⟨hb, i, none⟩ = some (.slice (some ⟨rb i, 0, none⟩) tn tn)) (hht : hb ≠ tb)
    (hrw : ∀ i, i < S → ValAt w (rb i) tn 4 (fun t => .bool ((m i).testBit t)))
    (hto : ValAt w tb tn 4 (fun t => .bool (f.testBit t)))
    (hme : ∀ i, i < S → rb i = tb → m i = f) (hm : ∀ i, i < S → m i < 2 ^ tn) (hv : ∀ i, i < tn → v.testBit i = false)
    (hl : ∀ X, w.grownBy X (some tb) → IntsAt X a l) (hll : l.length ≤ 17592186044416) (hin : ∀ x ∈ l, (0 : Int) ≤ x ∧ x < (S : Int)) :
    Calls Tryd.prog 53 #[.pointer (some ⟨kb, 0, none⟩), .slice a l.length cap, .slice (some ⟨tb, 0, none⟩) tn tn] w fun e y => e = .returned (.bool (decide (f ||| rowM v m l ≠ f))) ∧ ValAt y tb tn 4 (fun t => .bool ((f ||| rowM v m l).testBit t)) ∧ w.grownBy y (some tb) := by
  have HBX : Hid (∀ X, w.grownBy X (some tb) → X.cell? ⟨kb, 0, none⟩ = some (.slice ta tn tc) ∧ X.cell? ⟨kb, 5, none⟩ = some (.slice (some ⟨nb, 0, none⟩) nn nn) ∧ X.cell? ⟨kb, 6, none⟩ = some (.slice (some ⟨hb, 0, none⟩) S hc)) := fun X hX => ⟨hX.cell hbx.1 (by simpa using hkt), hX.cell hbx.2.1 (by simpa using hkt), hX.cell hbx.2.2 (by simpa using hkt)⟩
  have HNU : Hid (∀ X, w.grownBy X (some tb) → ValAt X nb nn 4 (fun i => .bool (v.testBit (tn + i)))) := fun X hX => hnu.at hX hnt
  have HHA : Hid (∀ X, w.grownBy X (some tb) → ∀ i, i < S → X.cell? ⟨hb, i, none⟩ = some (.slice (some ⟨rb i, 0, none⟩) tn tn)) := fun X hX i hi => hX.cell (hha i hi) (by simpa using hht)
  have HRW : Hid (∀ X, w.grownBy X (some tb) → ∀ i, i < S → rb i ≠ tb → ValAt X (rb i) tn 4 (fun t => .bool ((m i).testBit t))) := fun X hX i hi hne => (hrw i hi).at hX hne
  have HME : Hid (∀ i, i < S → rb i = tb → m i = f) := hme
  have HMT : Hid (∀ i, i < S → m i < 2 ^ tn) := hm
  have HVT : Hid (∀ i, i < tn → v.testBit i = false) := hv
  have HL : Hid (∀ X, w.grownBy X (some tb) → IntsAt X a l) := hl
  have HIN : Hid (∀ k, k < l.length → (0 : Int) ≤ l.getD k 0 ∧ l.getD k 0 < (S : Int)) := fun k hk => by
    rw [List.getD_eq_getElem?_getD, List.getElem?_eq_getElem hk]; exact hin _ (List.getElem_mem hk)
  have HDR : Hid (∀ k, k < l.length → l.drop k = l.getD k 0 :: l.drop (k + 1)) := fun k hk => by
    rw [List.getD_eq_getElem?_getD, List.getElem?_eq_getElem hk, List.drop_eq_getElem_cons hk]; rfl
  obtain ⟨M, hM⟩ : ∃ m, m = l.length := ⟨_, rfl⟩
  have HM : Hid (M = l.length) := hM
  rw [← hM] at hll
  rw [← hM]
  have HTO : Hid (ValAt w tb tn 4 (fun t => .bool (f.testBit t))) := hto
  obtain ⟨T, hT⟩ : ∃ T, T = f ||| rowM v m l := ⟨_, rfl⟩
  have HT : Hid (T = f ||| rowM v m l) := hT
  rw [← hT]
  have htn : tn ≤ 1024 := by omega
  clear hbx hkt hnu hnt hha hht hrw hto hme hm hv hl hin hM hT
  go_enter Tryd.func53, Tryd.ntmps53
  go_wp2_with fail
  go_loopg [7, 8] M (fun gk v7 v8 wr => ∃ (k f' : Nat), k ≤ M ∧ gk = M - k ∧ v7 = .bool (decide (f' ≠ f)) ∧ v8 = .int .i64 k ∧ Le f f' ∧ f' ||| rowM v m (l.drop k) = T ∧ w.grownBy wr (some tb) ∧ ValAt wr tb tn 4 (fun t => .bool (f'.testBit t)))
  case atStart => exact ⟨0, f, Nat.zero_le _, rfl, by simp, rfl, fun _ h => h, by rw [HT.out]; rfl, grown_some _ (grown_refl _ _), HTO.out⟩
  case round =>
    obtain ⟨k, f', hk, hgk, rfl, rfl, hle, hrow, hg, hV⟩ := hrel
    have HGK : Hid (gk = M - k) := hgk
    have HLE : Hid (Le f f') := hle
    have HRO : Hid (f' ||| rowM v m (l.drop k) = T) := hrow
    have HG : Hid (w.grownBy wr (some tb)) := hg
    have HV : Hid (ValAt wr tb tn 4 (fun t => .bool (f'.testBit t))) := hV
    clear hgk hle hrow hg hV HTO
    obtain ⟨b, hbd⟩ : ∃ b, b = decide (f' ≠ f) := ⟨_, rfl⟩
    have HBD : Hid (b = decide (f' ≠ f)) := hbd
    rw [← hbd]
    clear hbd
    by_cases hlt : k < M
    · have hkl : k < l.length := by rw [← HM.out]; exact hlt
      obtain ⟨ab, ao, rfl, hc⟩ : ∃ ab ao, a = some ⟨ab, ao, none⟩ ∧ wr.cell? ⟨ab, ao + k, none⟩ = some (.int .i64 (l.getD k 0)) := by
        rcases HL.out wr HG.out with h | ⟨ab, ao, e, h⟩
        · rw [h] at hkl; cases hkl
        · exact ⟨ab, ao, e, h k hkl⟩
      have hx := HIN.out k hkl
      have hdr := HDR.out k hkl
      obtain ⟨xs, hxs⟩ : ∃ xs : Nat, l.getD k 0 = (xs : Int) := ⟨(l.getD k 0).toNat, by omega⟩
      have hro := HRO.out
      rw [hdr, hxs] at hro
      simp only [rowM, Int.toNat_natCast] at hro
      rw [← Nat.or_assoc] at hro
      have HRN : Hid (f' ||| m xs ||| (if v.testBit xs = true then rowM v m (l.drop (k + 1)) else 0) = T) := hro
      have HCR : Hid (∀ X, w.grownBy X (some tb) → X.cell? ⟨ab, ao + k, none⟩ = some (.int .i64 (xs : Int))) := fun X hX => by
        rcases HL.out X hX with h | ⟨ab', ao', e, h⟩
        · rw [h] at hkl; cases hkl
        · cases e; rw [← hxs]; exact h k hkl
      rw [hxs] at hc hx
      clear hdr hxs hro hkl
      have hxS : xs < S := by omega
      have hk0 : (0 : Int) ≤ (k : Int) := by omega
      have hk1 : (k : Int) < (M : Int) := by omega
      have hkd : decide (k < M) = true := decide_eq_true hlt
      have hx0 : (0 : Int) ≤ (xs : Int) := by omega
      have hx1 : (xs : Int) < (S : Int) := by omega
      have k6 := (HBX.out wr HG.out).2.2
      have h0 := HHA.out wr HG.out xs hxS
      obtain ⟨R, hR⟩ : ∃ R, R = rb xs := ⟨_, rfl⟩
      rw [← hR] at h0
      -- what is read there
      obtain ⟨hh, HHE, HRD⟩ : ∃ hh, Hid (f' ||| hh % 2 ^ tn = f' ||| m xs) ∧ Hid (∀ X t, t < tn → w.grownBy X (some tb) → ValAt X tb tn 4 (fun u => .bool ((f' ||| hh % 2 ^ t).testBit u)) → X.cell? ⟨R, t, none⟩ = some (.bool (hh.testBit t))) := by
        by_cases e : rb xs = tb
        · refine ⟨f', ?_, fun X t ht hX hv => ?_⟩
          · show _ = _
            rw [HME.out xs hxS e, HLE.out.eq]
            apply Nat.eq_of_testBit_eq
            intro u
            rw [Nat.testBit_or, Nat.testBit_mod_two_pow]
            cases f'.testBit u <;> simp
          · rw [hR, e, hv.cell t ht, lay_at]
        · refine ⟨m xs, ?_, fun X t ht hX hv => ?_⟩
          · show _ = _
            rw [Nat.mod_eq_of_lt (HMT.out xs hxS)]
          · rw [hR]
            exact (HRW.out X hX xs hxS e).cell t ht
      clear hR hx
      go_wp2_with fail
      go_quiet (fail)
      go_wp2_with fail
      go_loopg [7, 10] tn (fun gk v7 v10 wr => ∃ t : Nat, t ≤ tn ∧ gk = tn - t ∧ v7 = .bool (decide ((f' ||| hh % 2 ^ t) ≠ f)) ∧ v10 = .int .i64 t ∧ w.grownBy wr (some tb) ∧ ValAt wr tb tn 4 (fun u => .bool ((f' ||| hh % 2 ^ t).testBit u)))
      case atStart => exact ⟨0, Nat.zero_le _, rfl, by rw [HBD.out]; simp [Nat.mod_one], rfl, grown_two HG.out (grown_some _ (grown_drewN _ _)), by simpa [Nat.mod_one] using HV.out.kept (grown_drewN _ _)⟩
      case round =>
        obtain ⟨t, ht, hgi, rfl, rfl, hg2, hV2⟩ := hrel
        have HGI : Hid (gk = tn - t) := hgi
        have HG2 : Hid (w.grownBy wr (some tb)) := hg2
        have HV2 : Hid (ValAt wr tb tn 4 (fun u => .bool ((f' ||| hh % 2 ^ t).testBit u))) := hV2
        clear hgi hg2 hV2 hc k6 h0 HV HG HBD HRO
        by_cases htl : t < tn
        · have ht0 : (0 : Int) ≤ (t : Int) := by omega
          have ht1 : (t : Int) < (tn : Int) := by omega
          have htd : decide (t < tn) = true := decide_eq_true htl
          have r0 := HRD.out wr t htl HG2.out HV2.out
          have y0 := HV2.out.cell t htl
          have y1 := HV2.out.free t
          rw [lay_at] at y0
          have HA := show Hid _ from (lay_no (f := f') (h := hh) (t := t))
          have HB := show Hid _ from (lay_in (f := f') (h := hh) (t := t))
          have HC := show Hid _ from (lay_set (f := f') (h := hh) (t := t))
          have HN := show Hid _ from (fun h x hx => HLE.out.ne (t := t) h (x := x) hx)
          obtain ⟨bh, hbh⟩ : ∃ c, c = hh.testBit t := ⟨_, rfl⟩
          obtain ⟨bf, hbf⟩ : ∃ c, c = f'.testBit t := ⟨_, rfl⟩
          rw [← hbh] at r0 HA HC
          rw [← hbf] at y0 HB HN
          obtain ⟨dn, hdn⟩ : ∃ c, c = decide ((f' ||| hh % 2 ^ t) ≠ f) := ⟨_, rfl⟩
          have HDN : Hid (dn = decide ((f' ||| hh % 2 ^ t) ≠ f)) := hdn
          rw [← hdn]
          clear hbh hbf hdn
          cases bh with
          | false =>
            have HE := show Hid _ from HA.out rfl
            clear HA HB HC HN
            go_wp2_with fail
            go_roundg (tn - (t + 1))
            case measure => have := HGI.out; omega
            case rel => exact ⟨t + 1, by omega, rfl, by rw [HE.out, HDN.out], by go_num, HG2.out, by rw [HE.out]; exact HV2.out⟩
          | true =>
            cases bf with
            | true =>
              have HE := show Hid _ from HB.out rfl
              clear HA HB HC HN
              go_wp2_with fail
              go_roundg (tn - (t + 1))
              case measure => have := HGI.out; omega
              case rel => exact ⟨t + 1, by omega, rfl, by rw [HE.out, HDN.out], by go_num, HG2.out, by rw [HE.out]; exact HV2.out⟩
            | false =>
              have HE := show Hid _ from HC.out rfl
              have HD : Hid ((f' ||| hh % 2 ^ (t + 1)) ≠ f) := HN.out rfl _ (by rw [HE.out, if_pos rfl])
              clear HA HB HC HN
              go_wp2_with fail
              go_roundg (tn - (t + 1))
              case measure => have := HGI.out; omega
              case rel => exact ⟨t + 1, by omega, rfl, by rw [decide_eq_true HD.out], by go_num, grown_two HG2.out (grown_setCell _ _ _), (HV2.out.set t (.bool true)).ext fun u _ => by
                unfold put
                rw [HE.out]
                by_cases e : u = t
                · rw [if_pos e, if_pos e]
                · rw [if_neg e, if_neg e]⟩
        · have htn2 : tn = t := by omega
          subst htn2
          have htd : decide (tn < tn) = false := decide_eq_false (by omega)
          rw [HHE.out] at HV2
          rw [HHE.out]
          have HLN : Hid (Le f (f' ||| m xs)) := HLE.out.or _
          obtain ⟨f1, hf1⟩ : ∃ c, c = f' ||| m xs := ⟨_, rfl⟩
          rw [← hf1] at HRN HV2 HLN
          rw [← hf1]
          obtain ⟨dn, hdn⟩ : ∃ c, c = decide (f1 ≠ f) := ⟨_, rfl⟩
          have HDN : Hid (dn = decide (f1 ≠ f)) := hdn
          rw [← hdn]
          clear hf1 hdn HHE HRD HLE
          have c0 := HCR.out wr HG2.out
          obtain ⟨k0, k5, k6⟩ := HBX.out wr HG2.out
          by_cases hxt : xs < tn
          · have hd : decide ((xs : Int) < (tn : Int)) = true := decide_eq_true (by omega)
            have hd2 : decide (xs < tn) = true := decide_eq_true hxt
            have hro := HRN.out
            rw [HVT.out xs hxt] at hro
            simp only [Bool.false_eq_true, if_false, Nat.or_zero] at hro
            subst hro
            go_wp2_with fail
            go_quiet (fail)
            go_wp2_with fail
            go_ret
            exact ⟨by rw [HDN.out]; rfl, HV2.out.kept (grown_drewN _ _), grown_two HG2.out (grown_some _ (grown_drewN _ _))⟩
          · have hd : decide ((xs : Int) < (tn : Int)) = false := decide_eq_false (by omega)
            have hd2 : decide (xs < tn) = false := decide_eq_false hxt
            obtain ⟨s, hs⟩ : ∃ s, xs = tn + s := ⟨xs - tn, by omega⟩
            have hsn : s < nn := by omega
            have b0 := (HNU.out wr HG2.out).cell s hsn
            have d1 : (xs : Int) - (tn : Int) = (s : Int) := by omega
            have d3 : IntKind.i64.wrap (s : Int) = (s : Int) := by rw [IntKind.wrap_i64]; omega
            have d5 : (0 : Int) ≤ (s : Int) := by omega
            have d7 : (s : Int) < (nn : Int) := by omega
            rw [← hs] at b0
            clear hs
            obtain ⟨nv, hnv⟩ : ∃ c, c = v.testBit xs := ⟨_, rfl⟩
            rw [← hnv] at b0 HRN
            clear hnv
            cases nv with
            | false =>
              have hro := HRN.out
              simp only [Bool.false_eq_true, if_false, Nat.or_zero] at hro
              subst hro
              go_wp2_with fail
              go_quiet (fail)
              go_wp2_with fail
              go_ret
              exact ⟨by rw [HDN.out]; rfl, HV2.out.kept (grown_drewN _ _), grown_two HG2.out (grown_some _ (grown_drewN _ _))⟩
            | true =>
              have hro := HRN.out
              rw [if_pos rfl] at hro
              have HRX : Hid (f1 ||| rowM v m (l.drop (k + 1)) = T) := hro
              clear hro HRN
              go_wp2_with fail
              go_quiet (fail)
              go_wp2_with fail
              go_roundg (M - (k + 1))
              case measure => have := HGK.out; omega
              case rel => exact ⟨k + 1, f1, by omega, rfl, by rw [HDN.out], by go_num, HLN.out, HRX.out, grown_two HG2.out (grown_some _ (grown_drewN _ _)), HV2.out.kept (grown_drewN _ _)⟩
    · have hkn : M = k := by omega
      subst hkn
      have hkd : decide (M < M) = false := decide_eq_false (by omega)
      have hro := HRO.out
      rw [HM.out, List.drop_length] at hro
      simp only [rowM, Nat.or_zero] at hro
      subst hro
      go_wp2_with fail
      go_ret
      exact ⟨by rw [HBD.out]; rfl, HV.out, HG.out⟩

end Go.Proofs.YtdhojilmgnodeaaDoor

/-
  first: the document's Table, its first part.
-/
namespace Go.Proofs.YtdhojilmgnodeaaDoor
open Go.RowKit Go.Maps Go.Shelf

attribute [local go_sem] Oper.semAt_some

theorem upd_selfT (m : Nat → Nat) (k : Nat) : upd m k (m k) = m := by
  funext i
  unfold upd
  split
  · rename_i h; rw [h]
  · rfl
/-- While Table lays its rows: the boxes and the first k rows. -/
structure TbAt (w X : World) (g0 g1 g2 g3 g4 : Value) (kb nb nn tn k : Nat) (F : Nat → Bool) (hs : Value) (rb m : Nat → Nat) : Prop where
  grown : w.grownBy X none
  gbox : X.heap[w.heap.size]? = some (.cells #[g0, g1, g2, g3, g4] 27 (0, 0))
  box : X.heap[kb]? = some (.cells #[g0, g1, g2, g3, g4, .slice (some ⟨nb, 0, none⟩) nn nn, hs] 67 (0, 0))
  nul : ValAt X nb nn 4 (fun i => .bool (F i))
  own : X.ownsRow (kb + 1) 30 1 hs k ((List.range k).map fun i => .slice (some ⟨rb i, 0, none⟩) tn tn)
  rows : ∀ i, i < k → ValAt X (rb i) tn 4 (fun t => .bool ((m i).testBit t))
  lo : w.heap.size < nb ∧ nb < kb
  rlo : ∀ i, i < k → kb < rb i
  inj : ∀ i j, i < k → j < k → rb i = rb j → i = j
section
variable {w X Y : World} {g0 g1 g2 g3 g4 hs : Value} {kb nb nn tn k : Nat} {F : Nat → Bool} {rb m : Nat → Nat}
theorem TbAt.ph (h : TbAt w X g0 g1 g2 g3 g4 kb nb nn tn k F hs rb m) : PhAt w X w.heap.size #[g0, g1, g2, g3, g4] := ⟨h.grown, h.gbox⟩
theorem TbAt.kept (h : TbAt w X g0 g1 g2 g3 g4 kb nb nn tn k F hs rb m) (hg : X.grownBy Y none) : TbAt w Y g0 g1 g2 g3 g4 kb nb nn tn k F hs rb m :=
  ⟨grown_trans h.grown hg, (boxKept h.gbox hg).out, (boxKept h.box hg).out, h.nul.kept hg, h.own.kept hg (by cases hx : hs.ownBlock <;> simp), fun i hi => (h.rows i hi).kept hg, h.lo, h.rlo, h.inj⟩
theorem box7 {x : World} {b : Nat} {v0 v1 v2 v3 v4 v5 v6 : Value} {t : TypeId} (h : x.heap[b]? = some (.cells #[v0, v1, v2, v3, v4, v5, v6] t (0, 0))) : (x.cell? ⟨b, 0, none⟩ = some v0 ∧ x.cell? ⟨b, 5, none⟩ = some v5 ∧ x.cell? ⟨b, 6, none⟩ = some v6) ∧ x.frozen? ⟨b, 6, none⟩ = false := by
  refine ⟨⟨?_, ?_, ?_⟩, frozen_of_row _ _ _ _ _ h⟩ <;> rw [cell_of_row _ _ _ _ _ _ h] <;> rfl
theorem tb_made (hg : w.grownBy X none) (hb : X.heap[w.heap.size]? = some (.cells #[g0, g1, g2, g3, g4] 27 (0, 0))) (hn : ValAt X nb nn 4 (fun i => .bool (F i))) (hlo : w.heap.size < nb) (tn : Nat) (rb m : Nat → Nat) :
    TbAt w (X.alloc (.cells #[g0, g1, g2, g3, g4, .slice (some ⟨nb, 0, none⟩) nn nn, .slice none 0 0] 67)) g0 g1 g2 g3 g4 X.heap.size nb nn tn 0 F (.slice none 0 0) rb m :=
  ⟨grown_trans hg (World.grownBy_alloc _ _ none), (boxKept hb (World.grownBy_alloc _ _ none)).out, heap_alloc_last X _, hn.kept (World.grownBy_alloc _ _ none), World.ownsRow_nil _ _ _ _, fun _ hi => absurd hi (Nat.not_lt_zero _), ⟨hlo, hn.lt⟩, fun _ hi => absurd hi (Nat.not_lt_zero _), fun _ _ hi => absurd hi (Nat.not_lt_zero _)⟩
/-- One row more. -/
theorem TbAt.more (h : TbAt w X g0 g1 g2 g3 g4 kb nb nn tn k F hs rb m) {r q : Nat} {hs' : Value} (hr : ValAt X r tn 4 (fun t => .bool (q.testBit t))) (hk : kb < r) (hne : ∀ i, i < k → rb i ≠ r) (hg : X.grownBy Y hs.ownBlock)
    (ho : Y.ownsRow (kb + 1) 30 1 hs' (k + 1) (((List.range k).map fun i => .slice (some ⟨rb i, 0, none⟩) tn tn) ++ [.slice (some ⟨r, 0, none⟩) tn tn])) :
    TbAt w (Y.setCell ⟨kb, 6, none⟩ hs') g0 g1 g2 g3 g4 kb nb nn tn (k + 1) F hs' (upd rb k r) (upd m k q) := by
  have hkb : kb < Y.heap.size := Nat.lt_of_lt_of_le (Array.getElem?_eq_some_iff.1 h.box).1 hg.size
  have G : Y.grownBy (Y.setCell ⟨kb, 6, none⟩ hs') (some kb) := grown_setCell _ _ _
  have kp : ∀ (b : Nat) (cs : Array Value) (e : TypeId), e ≠ 30 → X.heap[b]? = some (.cells cs e (0, 0)) → Y.heap[b]? = some (.cells cs e (0, 0)) := fun b cs e he hb => by
    refine (hg.block b (Array.getElem?_eq_some_iff.1 hb).1 ?_).trans hb
    rcases owns_nebox h.own hb (fun e2 => he e2.symm) with h1 | h1
    · rw [h1]; simp
    · exact fun h2 => h1 h2.symm
  have kq : ∀ (b : Nat) (cs : Array Value) (e : TypeId), e ≠ 30 → b ≠ kb → X.heap[b]? = some (.cells cs e (0, 0)) → (Y.setCell ⟨kb, 6, none⟩ hs').heap[b]? = some (.cells cs e (0, 0)) := fun b cs e he hne hb => by
    have h1 := kp b cs e he hb
    exact (G.block b (Array.getElem?_eq_some_iff.1 h1).1 (by simpa using hne)).trans h1
  have e1 : (List.range (k + 1)).map (fun i => Value.slice (some ⟨upd rb k r i, 0, none⟩) tn tn) = ((List.range k).map fun i => Value.slice (some ⟨rb i, 0, none⟩) tn tn) ++ [.slice (some ⟨r, 0, none⟩) tn tn] := by
    rw [List.range_succ, List.map_append]
    congr 1
    · apply List.map_congr_left
      intro i hi
      rw [upd_other _ _ (by simp at hi; omega)]
    · simp [upd_same]
  have hgr : w.grownBy Y none := by
    cases hb : hs.ownBlock with
    | none => rw [hb] at hg; exact grown_trans h.grown hg
    | some b => rw [hb] at hg; exact grown_at h.grown hg (by have := (h.own.lt b hb).1; have := h.lo; omega)
  refine ⟨grown_at hgr G (by have := h.lo; omega), kq _ _ _ (by decide) (by have := h.lo; omega) h.gbox, ?_, kq _ _ _ (by decide) (by have := h.lo; omega) h.nul, ?_, ?_, h.lo, ?_, ?_⟩
  · have h1 := kp kb _ _ (by decide) h.box
    rw [heap_setCell_same _ _ _ _ _ _ h1]
    rfl
  · rw [e1]
    exact owns_box ho
  · intro i hi
    by_cases e : i = k
    · subst e
      rw [upd_same, upd_same]
      exact kq _ _ _ (by decide) (by omega) hr
    · rw [upd_other _ _ e, upd_other _ _ e]
      exact kq _ _ _ (by decide) (by have := h.rlo i (by omega); omega) (h.rows i (by omega))
  · intro i hi
    by_cases e : i = k
    · subst e; rw [upd_same]; exact hk
    · rw [upd_other _ _ e]; exact h.rlo i (by omega)
  · intro i j hi hj hij
    by_cases e : i = k
    · subst e
      by_cases e2 : j = i
      · exact e2.symm
      · rw [upd_same, upd_other _ _ e2] at hij
        exact absurd hij.symm (hne j (by omega))
    · by_cases e2 : j = k
      · subst e2
        rw [upd_same, upd_other _ _ e] at hij
        exact absurd hij (hne i (by omega))
      · rw [upd_other _ _ e, upd_other _ _ e2] at hij
        exact h.inj i j (by omega) (by omega) hij
/-- A row that is none of these is written. -/
theorem TbAt.at (h : TbAt w X g0 g1 g2 g3 g4 kb nb nn tn k F hs rb m) {r : Nat} {cs : Array Value} (hr : X.heap[r]? = some (.cells cs 4 (0, 0))) (hk : kb < r) (hne : ∀ i, i < k → rb i ≠ r) (hg : X.grownBy Y (some r)) : TbAt w Y g0 g1 g2 g3 g4 kb nb nn tn k F hs rb m :=
  have hl := h.lo
  ⟨grown_at h.grown hg (by omega), (hg.block _ (Array.getElem?_eq_some_iff.1 h.gbox).1 (by simp; omega)).trans h.gbox, (hg.block _ (Array.getElem?_eq_some_iff.1 h.box).1 (by simp; omega)).trans h.box, h.nul.at hg (by omega), h.own.kept hg (owns_nebox h.own hr (by decide)), fun i hi => (h.rows i hi).at hg (hne i hi), h.lo, h.rlo, h.inj⟩
theorem TbAt.boxIn (h : TbAt w X g0 g1 g2 g3 g4 kb nb nn tn k F hs rb m) (hg : X.grownBy Y hs.ownBlock) : Y.heap[kb]? = some (.cells #[g0, g1, g2, g3, g4, .slice (some ⟨nb, 0, none⟩) nn nn, hs] 67 (0, 0)) := by
  refine (hg.block kb (Array.getElem?_eq_some_iff.1 h.box).1 ?_).trans h.box
  rcases owns_nebox h.own h.box (by decide) with h1 | h1
  · rw [h1]; simp
  · exact fun h2 => h1 h2.symm
end

theorem tab_step {tn S n : Nat} {L : Nat → Int} {R : Nat → List Int} {v : Nat} {m : Nat → Nat} (hs : Sound tn n L R v m) (hvv : ∀ i : Nat, v.testBit i = true ↔ Nul n L R (i : Int)) {k : Nat} (hk : k < n) (hL0 : (0 : Int) ≤ L k) {x : Nat} (hx : (L k).toNat = x) (hxS : x < S) (hR : ∀ y ∈ R k, (0 : Int) ≤ y) (hm : rowM v m (R k) < 2 ^ tn) (ht : tn ≤ 1024) :
    Sound tn n L R v (upd m x (m x ||| rowM v m (R k))) ∧ (m x ||| rowM v m (R k) = m x → upd m x (m x ||| rowM v m (R k)) = m ∧ ClosedAt L R v m k) ∧ sumC m S ≤ sumC (upd m x (m x ||| rowM v m (R k))) S ∧ (m x ||| rowM v m (R k) ≠ m x → sumC m S < sumC (upd m x (m x ||| rowM v m (R k))) S) := by
  have hcl : rowV v (R k) = true → v.testBit (L k).toNat = true := fun h => by
    rw [hvv, Int.toNat_of_nonneg hL0]
    refine .prod k hk fun y hy => ?_
    have h1 := (hvv _).1 (List.all_eq_true.1 h y hy)
    rwa [Int.toNat_of_nonneg (hR y hy)] at h1
  have h1 := sound_step hs hk hL0 hR
  have e1 : (if rowV v (R k) = true then v ||| 2 ^ (L k).toNat else v) = v := by
    split
    · rename_i h
      apply Nat.eq_of_testBit_eq
      intro i
      rw [Nat.testBit_or, Nat.testBit_two_pow]
      by_cases e : (L k).toNat = i
      · rw [← e, hcl h]; rfl
      · simp [e]
    · rfl
  rw [e1, hx] at h1
  have h2 := sumC_upd m x (m x ||| rowM v m (R k)) S hxS
  have h3 := cnt_or (m x) (rowM v m (R k))
  refine ⟨h1, fun h => ⟨by rw [h, upd_selfT], hcl, fun t ht => ?_⟩, by omega, fun h => ?_⟩
  · rw [hx, ← h, Nat.testBit_or, ht]; simp
  · have : B.cnt (m x ||| rowM v m (R k)) ≠ B.cnt (m x) := fun e => h (cnt_or_same ht hm e)
    omega

theorem tab_lay {w X : World} {ta : Option Addr} {tc : Nat} {g1 g2 g3 g4 : Value} {kb nb nn tn S hb hc : Nat} {v : Nat} {rb m : Nat → Nat} (h : TbAt w X (.slice ta tn tc) g1 g2 g3 g4 kb nb nn tn S (fun i => v.testBit (tn + i)) (.slice (some ⟨hb, 0, none⟩) S hc) rb m) (hS : S = tn + nn) (hz : S ≤ 1024) (hm : ∀ i, i < S → m i < 2 ^ tn) (hv : ∀ i, i < tn → v.testBit i = false)
    (a : Option Addr) (l : List Int) (cap : Nat) (hl : ∀ Z, w.grownBy Z none → IntsAt Z a l) (hll : l.length ≤ 17592186044416) (hin : ∀ x ∈ l, (0 : Int) ≤ x ∧ x < (S : Int)) (x : Nat) (hx : x < S) :
    Calls Tryd.prog 53 #[.pointer (some ⟨kb, 0, none⟩), .slice a l.length cap, .slice (some ⟨rb x, 0, none⟩) tn tn] X fun e y => e = .returned (.bool (decide (m x ||| rowM v m l ≠ m x))) ∧ TbAt w y (.slice ta tn tc) g1 g2 g3 g4 kb nb nn tn S (fun i => v.testBit (tn + i)) (.slice (some ⟨hb, 0, none⟩) S hc) rb (upd m x (m x ||| rowM v m l)) ∧ X.grownBy y (some (rb x)) := by
  have hlo := h.lo
  have hr := h.rlo x hx
  have hrow := h.rows x hx
  have hne := owns_nebox h.own hrow (by decide)
  have hhb : hb ≠ rb x := by
    rcases hne with h1 | h1
    · simp [Value.ownBlock] at h1
    · intro e; apply h1; simp [Value.ownBlock, e]
  refine (rlay_any kb nb hb tn nn S hc (rb x) ta a tc cap v rb m (m x) l X hS hz (box7 h.box).1 (by omega) h.nul (by omega) (fun i hi => owns_cell h.own (by simp [hi])) hhb h.rows hrow (fun i hi e => by rw [h.inj i x hi hx e]) hm hv (fun Z hZ => hl Z (grown_at h.grown hZ (by omega))) hll hin).mono fun e y ⟨q1, q2, q3⟩ => ⟨q1, ?_, q3⟩
  refine ⟨grown_at h.grown q3 (by omega), (q3.block _ (Array.getElem?_eq_some_iff.1 h.gbox).1 (by simp; omega)).trans h.gbox, (q3.block _ (Array.getElem?_eq_some_iff.1 h.box).1 (by simp; omega)).trans h.box, h.nul.at q3 (by omega), h.own.kept q3 hne, fun i hi => ?_, h.lo, h.rlo, h.inj⟩
  by_cases e : i = x
  · subst e; rw [upd_same]; exact q2
  · rw [upd_other _ _ e]
    exact (h.rows i hi).at q3 fun e2 => e (h.inj i x hi hx e2)

end Go.Proofs.YtdhojilmgnodeaaDoor
