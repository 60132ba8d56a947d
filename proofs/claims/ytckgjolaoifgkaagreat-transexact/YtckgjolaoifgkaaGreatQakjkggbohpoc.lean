import Derived.Test.YtckgjolaoifgkaaGreatQmmejlbfgfgao
import Derived.Deep.RegionHeld3
import Derived.Test.YtckgjolaoifgkaaGreatQbldfmkfimjpl

/-
  hasAdded of any grammar.
-/
namespace Go.Proofs.YtckgjolaoifgkaaGreat
open Go.RowKit Go.Maps Go.Shelf

/-- Are the first nonterminal and production 0 the added ones? -/
structure addedOK (ts : List (ByteArray × Int)) (ns : List ByteArray) (st : Int) (n : Nat) (L : Nat → Int) (R : Nat → List Int) (V : Nat → Int) : Prop where
  nn : 0 < ns.length
  name : ns.getD 0 ⟨#[]⟩ = ⟨#[]⟩
  pn : 0 < n
  left : L 0 = ts.length
  right : R 0 = [st]
  level : V 0 = 0

attribute [local go_sem] Oper.semAt_some

set_option maxRecDepth 100000 in
set_option maxHeartbeats 1000000 in
theorem hasAdded_look (bn on bp op : Nat) (ta la ra : Option Addr) (tn nn ln pn tc nc lc pc rc : Nat) (st L0 V0 : Int) (R0 : List Int) (w : World) (hn : w.cell? ⟨bn, on, none⟩ = some (.string ⟨#[]⟩)) (h0 : 0 < nn) (hp : 0 < pn)
    (p0 : w.cell? ⟨bp, op, none⟩ = some (.int .i64 L0)) (p1 : w.cell? ⟨bp, op + 1, none⟩ = some (.slice ra R0.length rc)) (p2 : w.cell? ⟨bp, op + 2, none⟩ = some (.int .i64 V0)) (hR : IntsAt w ra R0) (hRl : R0.length ≤ 17592186044416) (r : Bool) (hr : r = true ↔ (L0 = tn ∧ R0 = [st] ∧ V0 = 0)) :
    Calls Tryz.prog 48 #[.agg #[.slice ta tn tc, .slice (some ⟨bn, on, none⟩) nn nc, .slice la ln lc, .int .i64 st, .slice (some ⟨bp, op, none⟩) pn pc]] w fun e w' => e = .returned (.bool r) ∧ w.grownBy w' none := by
  have HSP : Hid (∀ W a, w.grownBy W none → IntsAt W a [st] → Calls Tryz.prog 54 #[.agg #[.int .i64 L0, .slice ra R0.length rc, .int .i64 V0], .agg #[.int .i64 tn, .slice a 1 1, .int .i64 0]] W fun e w' => e = .returned (.bool r) ∧ W.grownBy w' none) := fun W a hg ha =>
    sameProd_any L0 tn V0 0 ra a rc 1 R0 [st] W (hR.kept hg) ha hRl r hr
  have hd : decide (0 < (nn : Int)) = true := decide_eq_true (by omega)
  have hd' : decide (0 < nn) = true := decide_eq_true h0
  have hd2 : decide (0 < (pn : Int)) = true := decide_eq_true (by omega)
  have hd2' : decide (0 < pn) = true := decide_eq_true hp
  obtain ⟨W, hW⟩ : ∃ W, W = w.alloc (.cells #[.slice ta tn tc, .slice (some ⟨bn, on, none⟩) nn nc, .slice la ln lc, .int .i64 st, .slice (some ⟨bp, op, none⟩) pn pc] 27) := ⟨_, rfl⟩
  have HW := show Hid _ from hW
  have hgW : w.grownBy W none := by rw [hW]; exact World.grownBy_alloc w _ none
  have hbox : W.heap[w.heap.size]? = some (.cells #[.slice ta tn tc, .slice (some ⟨bn, on, none⟩) nn nc, .slice la ln lc, .int .i64 st, .slice (some ⟨bp, op, none⟩) pn pc] 27 (0, 0)) := by rw [hW]; exact heap_alloc_last w _
  have HGW := show Hid _ from hgW
  have b0 : W.cell? ⟨w.heap.size, 0, none⟩ = some (.slice ta tn tc) := by rw [cell_of_row _ _ _ _ _ _ hbox]; rfl
  have b1 : W.cell? ⟨w.heap.size, 1, none⟩ = some (.slice (some ⟨bn, on, none⟩) nn nc) := by rw [cell_of_row _ _ _ _ _ _ hbox]; rfl
  have b3 : W.cell? ⟨w.heap.size, 3, none⟩ = some (.int .i64 st) := by rw [cell_of_row _ _ _ _ _ _ hbox]; rfl
  have b4 : W.cell? ⟨w.heap.size, 4, none⟩ = some (.slice (some ⟨bp, op, none⟩) pn pc) := by rw [cell_of_row _ _ _ _ _ _ hbox]; rfl
  have n0 : W.cell? ⟨bn, on, none⟩ = some (.string ⟨#[]⟩) := hgW.cell hn (by simp)
  have q0 : W.cell? ⟨bp, op, none⟩ = some (.int .i64 L0) := hgW.cell p0 (by simp)
  have q1 : W.cell? ⟨bp, op + 1, none⟩ = some (.slice ra R0.length rc) := hgW.cell p1 (by simp)
  have q2 : W.cell? ⟨bp, op + 2, none⟩ = some (.int .i64 V0) := hgW.cell p2 (by simp)
  have hgA : W.grownBy (W.alloc (.cells #[.int .i64 st] 3)).drew none := grown_trans (World.grownBy_alloc W _ none) (grown_drewN _ 1)
  have HKP : Hid (∀ w1, (W.alloc (.cells #[.int .i64 st] 3)).drew.grownBy w1 none → w1.cell? ⟨w.heap.size, 0, none⟩ = some (.slice ta tn tc) ∧ w1.cell? ⟨w.heap.size, 1, none⟩ = some (.slice (some ⟨bn, on, none⟩) nn nc) ∧ w1.cell? ⟨w.heap.size, 3, none⟩ = some (.int .i64 st) ∧ w1.cell? ⟨w.heap.size, 4, none⟩ = some (.slice (some ⟨bp, op, none⟩) pn pc) ∧ w1.cell? ⟨bn, on, none⟩ = some (.string ⟨#[]⟩) ∧ w1.cell? ⟨bp, op, none⟩ = some (.int .i64 L0) ∧ w1.cell? ⟨bp, op + 1, none⟩ = some (.slice ra R0.length rc) ∧ w1.cell? ⟨bp, op + 2, none⟩ = some (.int .i64 V0)) := fun w1 h1 => by
    have hg := grown_trans hgA h1
    exact ⟨hg.cell b0 (by simp), hg.cell b1 (by simp), hg.cell b3 (by simp), hg.cell b4 (by simp), hg.cell n0 (by simp), hg.cell q0 (by simp), hg.cell q1 (by simp), hg.cell q2 (by simp)⟩
  have HC := show Hid _ from HSP.out (W.alloc (.cells #[.int .i64 st] 3)).drew (some ⟨W.heap.size, 0, none⟩) (grown_trans hgW hgA) (.inr ⟨W.heap.size, 0, rfl, fun i hi => by
    have : i = 0 := by simp at hi; omega
    subst this
    show (W.alloc (.cells #[.int .i64 st] 3)).cell? _ = _
    rw [cell_of_row _ _ _ _ _ _ (heap_alloc_last W _)]; rfl⟩)
  have HGA : Hid (w.grownBy (W.alloc (.cells #[.int .i64 st] 3)).drew none) := grown_trans hgW hgA
  clear hn p0 p1 p2 hR hr hW hgW hbox hgA HSP
  go_enter Tryz.func48, Tryz.ntmps48
  go_wp2_with fail
  rw [← HW.out]
  generalize w.heap.size = gb at *
  go_region_held3 (fun w' => w'.cell? ⟨gb, 0, none⟩ = some (.slice ta tn tc) ∧ w'.cell? ⟨gb, 1, none⟩ = some (.slice (some ⟨bn, on, none⟩) nn nc) ∧ w'.cell? ⟨gb, 3, none⟩ = some (.int .i64 st) ∧ w'.cell? ⟨gb, 4, none⟩ = some (.slice (some ⟨bp, op, none⟩) pn pc) ∧ w'.cell? ⟨bn, on, none⟩ = some (.string ⟨#[]⟩) ∧ w'.cell? ⟨bp, op, none⟩ = some (.int .i64 L0) ∧ w'.cell? ⟨bp, op + 1, none⟩ = some (.slice ra R0.length rc) ∧ w'.cell? ⟨bp, op + 2, none⟩ = some (.int .i64 V0)) (first | go_keep | exact HKP.out _ hg1) ((go_at_call 54; refine Calls.mono HC.out ?_; rintro e w1 ⟨rfl, hg1⟩))
  all_goals go_wp2_with fail
  all_goals go_ret
  all_goals exact ⟨rfl, grown_trans HGA.out (by first | exact hg1 | exact grown_trans hg1 (grown_drewN _ 1))⟩

set_option maxRecDepth 100000 in
set_option maxHeartbeats 1000000 in
theorem hasAdded_nons (ta na la pa : Option Addr) (tn ln pn tc nc lc pc : Nat) (st : Int) (w : World) :
    Calls Tryz.prog 48 #[.agg #[.slice ta tn tc, .slice na 0 nc, .slice la ln lc, .int .i64 st, .slice pa pn pc]] w fun e w' => e = .returned (.bool false) ∧ w.grownBy w' none := by
  go_enter Tryz.func48, Tryz.ntmps48
  go_wp2_with fail
  go_quiet (fail)
  go_wp2
  go_ret
  exact ⟨by first | rfl | simp, grown_trans (World.grownBy_alloc _ _ none) (grown_drewN _ _)⟩

set_option maxRecDepth 100000 in
set_option maxHeartbeats 1000000 in
theorem hasAdded_prods (bn on : Nat) (ta la pa : Option Addr) (tn nn ln tc nc lc pc : Nat) (st : Int) (w : World) (hn : w.cell? ⟨bn, on, none⟩ = some (.string ⟨#[]⟩)) (h0 : 0 < nn) :
    Calls Tryz.prog 48 #[.agg #[.slice ta tn tc, .slice (some ⟨bn, on, none⟩) nn nc, .slice la ln lc, .int .i64 st, .slice pa 0 pc]] w fun e w' => e = .returned (.bool false) ∧ w.grownBy w' none := by
  have hc' : ∀ o, (w.alloc o).cell? ⟨bn, on, none⟩ = some (.string ⟨#[]⟩) := fun o => (World.grownBy_alloc w o none).cell hn (by simp)
  have hc2 : ∀ o, (w.alloc o).drew.cell? ⟨bn, on, none⟩ = some (.string ⟨#[]⟩) := fun o => hc' o
  have hd : decide (0 < (nn : Int)) = true := decide_eq_true (by omega)
  have hd' : decide (0 < nn) = true := decide_eq_true h0
  clear hn
  go_enter Tryz.func48, Tryz.ntmps48
  go_wp2_with fail
  go_quiet (fail)
  go_wp2
  go_ret
  exact ⟨by first | rfl | simp, grown_trans (World.grownBy_alloc _ _ none) (grown_drewN _ _)⟩

theorem hasAdded_any {w : World} {ta na la pa : Option Addr} {tc nc lc pc : Nat} {ts : List (ByteArray × Int)} {ns : List ByteArray} {lv : List Int} {n : Nat} {L : Nat → Int} {R : Nat → List Int} {ra : Nat → Option Addr} {rc : Nat → Nat} {V : Nat → Int} (st : Int) (hG : GAt w ta na la pa tc nc lc pc ts ns lv n L R ra rc V) (r : Bool) (hr : r = true ↔ addedOK ts ns st n L R V) :
    Calls Tryz.prog 48 #[.agg #[.slice ta ts.length tc, .slice na ns.length nc, .slice la lv.length lc, .int .i64 st, .slice pa n pc]] w fun e w' => e = .returned (.bool r) ∧ w.grownBy w' none := by
  have no : ¬ addedOK ts ns st n L R V → r = false := fun h => Bool.eq_false_iff.2 fun hh => h (hr.1 hh)
  by_cases h0 : ns.length = 0
  · rw [no (fun h => by have := h.nn; omega), h0]
    exact hasAdded_nons ta na la pa _ _ _ _ _ _ _ st w
  · obtain ⟨bn, on, rfl, hns⟩ : ∃ b off, na = some ⟨b, off, none⟩ ∧ ∀ i, i < ns.length → w.cell? ⟨b, off + i, none⟩ = some (.string (ns.getD i ⟨#[]⟩)) := by
      rcases hG.nons with h | h
      · rw [h] at h0; simp at h0
      · exact h
    have hc := hns 0 (by omega)
    by_cases hs : ns.getD 0 ⟨#[]⟩ = ⟨#[]⟩
    · rw [hs] at hc
      by_cases hp : n = 0
      · subst hp
        rw [no (fun h => by have := h.pn; omega)]
        exact hasAdded_prods bn on ta la pa _ _ _ _ _ _ _ st w hc (by omega)
      · obtain ⟨bp, op, rfl, hps⟩ : ∃ b off, pa = some ⟨b, off, none⟩ ∧ ∀ k, k < n → w.cell? ⟨b, off + k * 3, none⟩ = some (.int .i64 (L k)) ∧ w.cell? ⟨b, off + k * 3 + 1, none⟩ = some (.slice (ra k) (R k).length (rc k)) ∧ w.cell? ⟨b, off + k * 3 + 2, none⟩ = some (.int .i64 (V k)) ∧ IntsAt w (ra k) (R k) ∧ (ra k = none → rc k = 0) ∧ (R k).length ≤ 17592186044416 := by
          rcases hG.prods with h | h
          · exact absurd h hp
          · exact h
        obtain ⟨p0, p1, p2, p3, _, p5⟩ := hps 0 (by omega)
        simp only [Nat.zero_mul, Nat.add_zero] at p0 p1 p2
        refine hasAdded_look bn on bp op ta la (ra 0) ts.length ns.length lv.length n tc nc lc pc (rc 0) st (L 0) (V 0) (R 0) w hc (by omega) (by omega) p0 p1 p2 p3 p5 r ?_
        rw [hr]
        exact ⟨fun h => ⟨h.left, h.right, h.level⟩, fun ⟨h1, h2, h3⟩ => ⟨by omega, hs, by omega, h1, h2, h3⟩⟩
    · rw [no (fun h => hs h.name)]
      refine hasAdded_no bn on ta la pa _ _ _ _ _ _ _ _ st (ns.getD 0 ⟨#[]⟩) w hc (by omega) ?_
      apply Nat.pos_of_ne_zero
      intro hz
      apply hs
      cases hh : ns.getD 0 ⟨#[]⟩ with
      | mk d =>
        rw [hh] at hz
        have : d.size = 0 := hz
        rw [Array.eq_empty_of_size_eq_zero this]

end Go.Proofs.YtckgjolaoifgkaaGreat

/-
  Closed, of any grammar: the program's and the document's.
-/
namespace Go.Proofs.YtckgjolaoifgkaaGreat
open Go.RowKit Go.Maps Go.Shelf

attribute [local go_sem] Oper.semAt_some

/-- All that holds asks of a grammar with the added ones. -/
structure holds1OK (ts : List (ByteArray × Int)) (ns : List ByteArray) (lv : List Int) (st : Int) (n : Nat) (L : Nat → Int) (R : Nat → List Int) (V : Nat → Int) : Prop where
  syms : (ts.length : Int) - 1 + (ns.length - 1 : Nat) ≤ 64
  cnt : n - 1 ≤ 96
  terms : termsOK ts lv.length
  nons : (∀ s ∈ ns.drop 1, isNameB s = true) ∧ (ns.drop 1).Nodup
  levels : ∀ j, j < lv.length → levelOK ts lv j
  prods : ∀ i, i < n - 1 → prodOK ts.length ns.length lv.length 1 (L (1 + i)) (R (1 + i)) (V (1 + i))
  lefts : (leftsTo (fun i => L (1 + i)) (n - 1)).length = ns.length - 1
  start : isNonI ts.length ns.length 1 st

theorem nons1_idx (ns : List ByteArray) : ((∀ s ∈ ns.drop 1, isNameB s = true) ∧ (ns.drop 1).Nodup) ↔ ∀ i, 1 ≤ i → i < ns.length → nonAt ns 1 i := by
  have eD : ∀ i, (ns.drop 1).getD i ⟨#[]⟩ = ns.getD (1 + i) ⟨#[]⟩ := fun i => by rw [Nat.add_comm]; simp [List.getD]
  rw [nonsOK_idx]
  constructor
  · intro h i h1 hi
    obtain ⟨a, b⟩ := h (i - 1) (Nat.zero_le _) (by simp; omega)
    rw [eD, show 1 + (i - 1) = i by omega] at a
    refine ⟨a, fun k hk1 hk => ?_⟩
    have := b (k - 1) (Nat.zero_le _) (by omega)
    rw [eD, eD, show 1 + (k - 1) = k by omega, show 1 + (i - 1) = i by omega] at this
    exact this
  · intro h i _ hi
    have hi' : 1 + i < ns.length := by simp at hi; omega
    obtain ⟨a, b⟩ := h (1 + i) (by omega) hi'
    refine ⟨by rw [eD]; exact a, fun k _ hk => ?_⟩
    rw [eD, eD]
    exact b (1 + k) (by omega) (by omega)

theorem fits_holds1 (ts : List (ByteArray × Int)) (ns : List ByteArray) (lv : List Int) (st : Int) (n : Nat) (L : Nat → Int) (R : Nat → List Int) (V : Nat → Int) (hn : 0 < ns.length) : fitsOK 1 ts ns lv st n L R V ↔ holds1OK ts ns lv st n L R V := by
  constructor
  · intro h
    refine ⟨by have := h.syms; omega, by have := h.pn; omega, (termsOK_idx _ _).2 h.terms, (nons1_idx _).2 h.nons, h.levels, fun i hi => h.prods (1 + i) (by omega) (by omega), ?_, h.start⟩
    have := h.lefts
    omega
  · intro h
    have ht := (termsOK_idx _ _).1 h.terms
    have h1 := h.syms
    have h2 := ht.1.1
    have h3 := levels_few ht.1.1 ht.1.2 h.levels
    have h4 := h.start
    unfold isNonI at h4
    have h5 := h.lefts
    have h6 := leftsTo_le (fun i => L (1 + i)) (n - 1)
    have h7 := h.cnt
    refine ⟨by omega, by omega, by omega, by omega, by omega, by omega, ht, h.levels, (nons1_idx _).1 h.nons, fun i hi1 hi => ?_, by omega, h.start⟩
    have := h.prods (i - 1) (by omega)
    rw [show 1 + (i - 1) = i by omega] at this
    exact this

theorem ProdsAt.kept {w w' : World} {a : Option Addr} {n : Nat} {L : Nat → Int} {R : Nat → List Int} {ra : Nat → Option Addr} {rc : Nat → Nat} {V : Nat → Int} (h : ProdsAt w a n L R ra rc V) (hg : w.grownBy w' none) : ProdsAt w' a n L R ra rc V := by
  rcases h with h | ⟨b, off, e, hc⟩
  · exact .inl h
  · refine .inr ⟨b, off, e, fun k hk => ?_⟩
    obtain ⟨h1, h2, h3, h4, h5⟩ := hc k hk
    exact ⟨hg.cell h1 (by simp), hg.cell h2 (by simp), hg.cell h3 (by simp), h4.kept hg, h5⟩

/-- A list from its second one on. -/
theorem strs_drop {w : World} {b off : Nat} {ns : List ByteArray} (h : StrsAt w (some ⟨b, off, none⟩) ns) : StrsAt w (some ⟨b, off + 1, none⟩) (ns.drop 1) := by
  rcases h with h | ⟨b', off', e, hc⟩
  · left; rw [h]; rfl
  · simp only [Option.some.injEq, Addr.mk.injEq, and_true] at e
    obtain ⟨rfl, rfl⟩ := e
    refine .inr ⟨b, off + 1, rfl, fun i hi => ?_⟩
    have := hc (1 + i) (by simp at hi; omega)
    rw [show off + (1 + i) = off + 1 + i by omega] at this
    rw [this, Nat.add_comm 1 i]
    simp [List.getD]
theorem prods_drop {w : World} {b off n : Nat} {L : Nat → Int} {R : Nat → List Int} {ra : Nat → Option Addr} {rc : Nat → Nat} {V : Nat → Int} (h : ProdsAt w (some ⟨b, off, none⟩) n L R ra rc V) : ProdsAt w (some ⟨b, off + 3, none⟩) (n - 1) (fun i => L (1 + i)) (fun i => R (1 + i)) (fun i => ra (1 + i)) (fun i => rc (1 + i)) (fun i => V (1 + i)) := by
  rcases h with h | ⟨b', off', e, hc⟩
  · left; rw [h]
  · simp only [Option.some.injEq, Addr.mk.injEq, and_true] at e
    obtain ⟨rfl, rfl⟩ := e
    refine .inr ⟨b, off + 3, rfl, fun i hi => ?_⟩
    have := hc (1 + i) (by omega)
    rw [show off + (1 + i) * 3 = off + 3 + i * 3 by omega] at this
    exact this

set_option maxRecDepth 100000 in
set_option maxHeartbeats 1000000 in
theorem holds_one (ta na la pa : Option Addr) (tc nc lc pc : Nat) (ts : List (ByteArray × Int)) (ns : List ByteArray) (lv : List Int) (n : Nat) (L : Nat → Int) (R : Nat → List Int) (ra : Nat → Option Addr) (rc : Nat → Nat) (V : Nat → Int) (st : Int) (w : World) (hG : GAt w ta na la pa tc nc lc pc ts ns lv n L R ra rc V) (h0n : 0 < ns.length) (h0p : 0 < n) (r : Bool) (hr : r = true ↔ holds1OK ts ns lv st n L R V) :
    Calls Tryz.prog 49 #[.agg #[.slice ta ts.length tc, .slice na ns.length nc, .slice la lv.length lc, .int .i64 st, .slice pa n pc], .int .i64 1] w fun e w' => e = .returned (.bool r) ∧ w.grownBy w' none := by
  have htl := hG.tlen
  have hnl := hG.nlen
  have hpl := hG.plen
  have hnc := hG.ncap
  have hpc := hG.pcap
  have HG : Hid (GAt w ta na la pa tc nc lc pc ts ns lv n L R ra rc V) := hG
  have HRR : Hid (r = true ↔ holds1OK ts ns lv st n L R V) := hr
  have HRF : Hid (¬ holds1OK ts ns lv st n L R V → r = false) := fun hno => Bool.eq_false_iff.2 fun hh => hno (hr.1 hh)
  have HX0 : Hid (∀ q, PhAt w ((w.alloc (.cells #[.slice ta ts.length tc, .slice na ns.length nc, .slice la lv.length lc, .int .i64 st, .slice pa n pc] 27)).drewN q) w.heap.size #[.slice ta ts.length tc, .slice na ns.length nc, .slice la lv.length lc, .int .i64 st, .slice pa n pc]) := fun q => (PhAt.mk (World.grownBy_alloc _ _ none) (heap_alloc_last w _)).kept (grown_drewN _ q)
  obtain ⟨bn, on, hna⟩ : ∃ b off, na = some ⟨b, off, none⟩ := by
    rcases hG.nons with h | ⟨b, off, e, _⟩
    · rw [h] at h0n; simp at h0n
    · exact ⟨b, off, e⟩
  obtain ⟨bp, op, hpa⟩ : ∃ b off, pa = some ⟨b, off, none⟩ := by
    rcases hG.prods with h | ⟨b, off, e, _⟩
    · omega
    · exact ⟨b, off, e⟩
  obtain ⟨na1, nc1, hsn, hN1⟩ : ∃ na1 nc1, (∀ W, (Instr.slice 23 (.slice na ns.length nc) (some (.int .i64 1)) none none).run Tryz.prog W = .ok (.slice na1 (ns.length - 1) nc1) W) ∧ StrsAt w na1 (ns.drop 1) := by
    have hS := hG.nons
    subst hna
    by_cases hc1 : nc = 1
    · refine ⟨some ⟨bn, on, none⟩, 0, fun W => ?_, .inl (List.drop_eq_nil_of_le (by omega))⟩
      have hl : ns.length = 1 := by omega
      rw [hl, hc1]
      go_simp
    · refine ⟨some ⟨bn, on + 1, none⟩, nc - 1, fun W => ?_, strs_drop hS⟩
      have h1 : (1 : Int) ≤ ns.length := by omega
      have h2 : (ns.length : Int) ≤ nc := by omega
      have h3 : 1 < nc := by omega
      generalize ns.length = N at *
      go_simp
  obtain ⟨pa1, pc1, hsp, hP1⟩ : ∃ pa1 pc1, (∀ W, (Instr.slice 25 (.slice pa n pc) (some (.int .i64 1)) none none).run Tryz.prog W = .ok (.slice pa1 (n - 1) pc1) W) ∧ ProdsAt w pa1 (n - 1) (fun i => L (1 + i)) (fun i => R (1 + i)) (fun i => ra (1 + i)) (fun i => rc (1 + i)) (fun i => V (1 + i)) := by
    have hS := hG.prods
    subst hpa
    by_cases hc1 : pc = 1
    · refine ⟨some ⟨bp, op, none⟩, 0, fun W => ?_, .inl (by omega)⟩
      have hl : n = 1 := by omega
      rw [hl, hc1]
      go_simp
    · refine ⟨some ⟨bp, op + 3, none⟩, pc - 1, fun W => ?_, prods_drop hS⟩
      have h1 : (1 : Int) ≤ n := by omega
      have h2 : (n : Int) ≤ pc := by omega
      have h3 : 1 < pc := by omega
      go_simp
  have HN1 : Hid (StrsAt w na1 (ns.drop 1)) := hN1
  have HP1 : Hid (ProdsAt w pa1 (n - 1) (fun i => L (1 + i)) (fun i => R (1 + i)) (fun i => ra (1 + i)) (fun i => rc (1 + i)) (fun i => V (1 + i))) := hP1
  obtain ⟨nn1, hnn1⟩ : ∃ nn1, nn1 = ns.length - 1 := ⟨_, rfl⟩
  obtain ⟨n1, hn1⟩ : ∃ n1, n1 = n - 1 := ⟨_, rfl⟩
  have HNP : Hid (ns.length - 1 = nn1 ∧ n - 1 = n1 ∧ (ns.drop 1).length = nn1) := ⟨hnn1.symm, hn1.symm, by simp [hnn1]⟩
  rw [← hnn1] at hsn
  rw [← hn1] at hsp
  have hb1 : nn1 ≤ 17592186044416 := by omega
  have hb2 : n1 ≤ 17592186044416 := by omega
  clear hN1 hP1 hnn1 hn1 hna hpa
  obtain ⟨tn, htn⟩ : ∃ tn, tn = ts.length := ⟨_, rfl⟩
  obtain ⟨nn, hnn⟩ : ∃ nn, nn = ns.length := ⟨_, rfl⟩
  obtain ⟨ln, hln⟩ : ∃ ln, ln = lv.length := ⟨_, rfl⟩
  have HTN : Hid (ts.length = tn ∧ ns.length = nn ∧ lv.length = ln) := ⟨htn.symm, hnn.symm, hln.symm⟩
  rw [← htn] at htl HX0 ⊢
  rw [← hnn] at hnl hnc h0n hsn HX0 ⊢
  rw [← hln] at HX0 ⊢
  clear hG hr htn hnn hln
  go_enter Tryz.func49, Tryz.ntmps49
  go_wp2_with fail
  go_quiet (fail)
  have HX := HX0.out nq
  generalize (w.alloc (.cells #[.slice ta tn tc, .slice na nn nc, .slice la ln lc, .int .i64 st, .slice pa n pc] 27)).drewN nq = W at *
  have HXH : Hid (PhAt w W w.heap.size #[.slice ta tn tc, .slice na nn nc, .slice la ln lc, .int .i64 st, .slice pa n pc]) := HX
  obtain ⟨m0, m1, m2, m3, m4⟩ := HX.cells
  clear HX HX0 hsn hsp
  by_cases hlim : 64 < (tn : Int) - 1 + nn1
  · have hd : decide (64 < (tn : Int) - 1 + nn1) = true := decide_eq_true hlim
    have hf : r = false := HRF.out fun h => by have h1 := h.syms; rw [HTN.out.1, HNP.out.1] at h1; omega
    go_wp2_with fail
    go_ret
    exact ⟨by first | rfl | (rw [hf]; rfl), HXH.out.grown⟩
  · have hd : decide (64 < (tn : Int) - 1 + nn1) = false := decide_eq_false hlim
    by_cases hlp : 96 < n1
    · have hd2 : decide (96 < (n1 : Int)) = true := decide_eq_true (by omega)
      have hf : r = false := HRF.out fun h => by have h1 := h.cnt; rw [HNP.out.2.1] at h1; omega
      go_wp2_with fail
      go_ret
      exact ⟨by first | rfl | (rw [hf]; rfl), HXH.out.grown⟩
    · have hd2 : decide (96 < (n1 : Int)) = false := decide_eq_false (by omega)
      have hnn65 : nn1 ≤ 65 := by omega
      have htn65 : tn ≤ 65 := by omega
      have hn96 : n1 ≤ 96 := by omega
      obtain ⟨rT, hrT⟩ := boolOf (termsOK ts ln)
      have HTT : Hid (Calls Tryz.prog 55 #[.agg #[.slice ta tn tc, .slice na nn nc, .slice la ln lc, .int .i64 st, .slice pa n pc]] W fun e w' => e = .returned (.bool rT) ∧ W.grownBy w' none) := by
        have := termsHold_any ta na la pa nn ln n tc nc lc pc st ts W (HG.out.kept HXH.out.grown).terms (by rw [HTN.out.1]; exact htn65) HG.out.tcap rT hrT
        rwa [HTN.out.1] at this
      have HRT : Hid (rT = true ↔ termsOK ts ln) := hrT
      have HLM : Hid (¬ 64 < (tn : Int) - 1 + nn1) := hlim
      clear hrT hlim hlp
      cases rT with
      | false =>
        have hf : r = false := HRF.out fun h => by have h1 := h.terms; rw [HTN.out.2.2] at h1; have := HRT.out.2 h1; cases this
        go_wp2_with fail
        refine HTT.out.mono ?_
        rintro e w2 ⟨rfl, hg2⟩
        have HG2 : Hid (w.grownBy w2 none) := grown_trans HXH.out.grown hg2
        clear hg2 m0 m1 m2 m3 m4
        go_wp2_with fail
        go_ret
        exact ⟨by first | rfl | (rw [hf]; rfl), HG2.out⟩
      | true =>
        go_wp2_with fail
        refine HTT.out.mono ?_
        rintro e w2 ⟨rfl, hg2⟩
        have HX2 : Hid (PhAt w w2 w.heap.size #[.slice ta tn tc, .slice na nn nc, .slice la ln lc, .int .i64 st, .slice pa n pc]) := HXH.out.kept hg2
        clear hg2 m0 m1 m2 m3 m4 HTT HXH
        have HNH : Hid (Calls Tryz.prog 56 #[.slice na1 nn1 nc1] w2 fun e w' => ∃ r, e = .returned (.bool r) ∧ (r = true ↔ (∀ s ∈ ns.drop 1, isNameB s = true) ∧ (ns.drop 1).Nodup) ∧ w2.grownBy w' none) := by
          have := nonsHold_any na1 nc1 (ns.drop 1) w2 (HN1.out.kept HX2.out.grown) (by rw [HNP.out.2.2]; exact hnn65)
          rwa [HNP.out.2.2] at this
        go_wp2_with fail
        refine HNH.out.mono ?_
        rintro e w3 ⟨rN, rfl, hrN, hg3⟩
        have HRN : Hid (rN = true ↔ (∀ s ∈ ns.drop 1, isNameB s = true) ∧ (ns.drop 1).Nodup) := hrN
        have HX3 : Hid (PhAt w w3 w.heap.size #[.slice ta tn tc, .slice na nn nc, .slice la ln lc, .int .i64 st, .slice pa n pc]) := HX2.out.kept hg3
        clear hrN hg3 HNH HX2
        cases rN with
        | false =>
          have hf : r = false := HRF.out fun h => by have := HRN.out.2 h.nons; cases this
          have HGE : Hid (w.grownBy w3 none) := HX3.out.grown
          clear HX3
          go_wp2_with fail
          go_ret
          exact ⟨by first | rfl | (rw [hf]; rfl), HGE.out⟩
        | true =>
          obtain ⟨rL, hrL⟩ := boolOf (∀ j, j < lv.length → levelOK ts lv j)
          have HLH : Hid (Calls Tryz.prog 57 #[.agg #[.slice ta tn tc, .slice na nn nc, .slice la ln lc, .int .i64 st, .slice pa n pc]] w3 fun e w' => e = .returned (.bool rL) ∧ w3.grownBy w' none) := by
            have := levelsHold_any ta na la pa nn n tc nc lc pc st ts lv w3 (HG.out.kept HX3.out.grown).terms (HG.out.kept HX3.out.grown).levels (by rw [HTN.out.1]; exact htn65) HG.out.llen rL hrL
            rwa [HTN.out.1, HTN.out.2.2] at this
          have HRL : Hid (rL = true ↔ ∀ j, j < lv.length → levelOK ts lv j) := hrL
          clear hrL
          obtain ⟨m0, m1, m2, m3, m4⟩ := HX3.out.cells
          go_wp2_with fail
          refine HLH.out.mono ?_
          rintro e w4 ⟨rfl, hg4⟩
          have HX4 : Hid (PhAt w w4 w.heap.size #[.slice ta tn tc, .slice na nn nc, .slice la ln lc, .int .i64 st, .slice pa n pc]) := HX3.out.kept hg4
          clear hg4 HLH HX3 m0 m1 m2 m3 m4
          cases rL with
          | false =>
            have hf : r = false := HRF.out fun h => by have := HRL.out.2 h.levels; cases this
            have HGE : Hid (w.grownBy w4 none) := HX4.out.grown
            clear HX4
            go_wp2_with fail
            go_ret
            exact ⟨by first | rfl | (rw [hf]; rfl), HGE.out⟩
          | true =>
            obtain ⟨rP, hrP⟩ := boolOf (∀ i, i < n1 → prodOK tn nn ln 1 (L (1 + i)) (R (1 + i)) (V (1 + i)))
            have HPH : Hid (Calls Tryz.prog 58 #[.agg #[.slice ta tn tc, .slice na nn nc, .slice la ln lc, .int .i64 st, .slice pa n pc], .slice pa1 n1 pc1, .int .i64 1] w4 fun e w' => e = .returned (.bool rP) ∧ w4.grownBy w' none) :=
              prodsHold_any ta na la pa pa1 tn nn ln n tc nc lc pc n1 pc1 1 st (fun i => L (1 + i)) (fun i => R (1 + i)) (fun i => ra (1 + i)) (fun i => rc (1 + i)) (fun i => V (1 + i)) w4 (by have := HP1.out.kept HX4.out.grown; rw [HNP.out.2.1] at this; exact this) (by omega) (by omega) (by omega) (by omega) rP hrP
            have HRP : Hid (rP = true ↔ ∀ i, i < n1 → prodOK tn nn ln 1 (L (1 + i)) (R (1 + i)) (V (1 + i))) := hrP
            clear hrP
            obtain ⟨m0, m1, m2, m3, m4⟩ := HX4.out.cells
            go_wp2_with fail
            refine HPH.out.mono ?_
            rintro e w5 ⟨rfl, hg5⟩
            have HX5 : Hid (PhAt w w5 w.heap.size #[.slice ta tn tc, .slice na nn nc, .slice la ln lc, .int .i64 st, .slice pa n pc]) := HX4.out.kept hg5
            clear hg5 HPH HX4 m0 m1 m2 m3 m4
            cases rP with
            | false =>
              have hf : r = false := HRF.out fun h => by have h1 := h.prods; rw [HTN.out.1, HTN.out.2.1, HTN.out.2.2, HNP.out.2.1] at h1; have := HRP.out.2 h1; cases this
              have HGE : Hid (w.grownBy w5 none) := HX5.out.grown
              clear HX5
              go_wp2_with fail
              go_ret
              exact ⟨by first | rfl | (rw [hf]; rfl), HGE.out⟩
            | true =>
              have HLF : Hid (Calls Tryz.prog 59 #[.slice pa1 n1 pc1] w5 fun e w' => ∃ a' c', e = .returned (.slice a' (leftsTo (fun i => L (1 + i)) n1).length c') ∧ w'.ownsRow w5.heap.size 3 1 (.slice a' (leftsTo (fun i => L (1 + i)) n1).length c') (leftsTo (fun i => L (1 + i)) n1).length ((leftsTo (fun i => L (1 + i)) n1).map (Value.int .i64)) ∧ w5.grownBy w' none) := lefts_any pa1 n1 pc1 (fun i => L (1 + i)) (fun i => R (1 + i)) (fun i => ra (1 + i)) (fun i => rc (1 + i)) (fun i => V (1 + i)) w5 (by have := HP1.out.kept HX5.out.grown; rw [HNP.out.2.1] at this; exact this) (by omega)
              have hML := leftsTo_le (fun i => L (1 + i)) n1
              obtain ⟨M, hM⟩ : ∃ M, M = (leftsTo (fun i => L (1 + i)) n1).length := ⟨_, rfl⟩
              have HMM : Hid ((leftsTo (fun i => L (1 + i)) n1).length = M) := hM.symm
              rw [← hM] at hML HLF
              clear hM
              go_wp2_with fail
              refine HLF.out.mono ?_
              rintro e w6 ⟨a', c', rfl, _, hg6⟩
              have HX6 : Hid (PhAt w w6 w.heap.size #[.slice ta tn tc, .slice na nn nc, .slice la ln lc, .int .i64 st, .slice pa n pc]) := HX5.out.kept hg6
              clear hg6 HLF HX5
              obtain ⟨m0, m1, m2, m3, m4⟩ := HX6.out.cells
              by_cases hMn : M = nn1
              · have hb : ((M : Int) == (nn1 : Int)) = true := beq_iff_eq.2 (by omega)
                have HMN : Hid (M = nn1) := hMn
                have HIN := isNonOf_any ta na la pa tn nn ln n tc nc lc pc 1 st st w6 (by omega) (by omega) (by omega)
                have HFIN : Hid ((decide ((tn : Int) + (1 : Nat) ≤ st) && decide (st < (tn : Int) + nn)) = r) := by
                  show (decide ((tn : Int) + (1 : Nat) ≤ st) && decide (st < (tn : Int) + nn)) = r
                  rw [Bool.eq_iff_iff, HRR.out, Bool.and_eq_true, decide_eq_true_eq, decide_eq_true_eq]
                  obtain ⟨t1, t2, t3⟩ := HTN.out
                  constructor
                  · intro hs
                    exact ⟨by rw [t1, HNP.out.1]; have := HLM.out; omega, by rw [HNP.out.2.1]; exact hn96, by rw [t3]; exact HRT.out.1 (by first | rfl | trivial), HRN.out.1 (by first | rfl | trivial), HRL.out.1 (by first | rfl | trivial), by rw [t1, t2, t3, HNP.out.2.1]; exact HRP.out.1 (by first | rfl | trivial), by rw [HNP.out.1, HNP.out.2.1, HMM.out]; exact HMN.out, by rw [t1, t2]; exact hs⟩
                  · intro h
                    have h1 := h.start
                    rw [t1, t2] at h1
                    exact h1
                clear hMn
                go_wp2_with fail
                refine HIN.mono ?_
                rintro e w7 ⟨rfl, hg7⟩
                rw [HFIN.out]
                have HGE : Hid (w.grownBy w7 none) := grown_trans HX6.out.grown hg7
                clear hg7 HIN m0 m1 m2 m3 m4
                go_wp2_with fail
                go_ret
                exact ⟨rfl, HGE.out⟩
              · have hb : ((M : Int) == (nn1 : Int)) = false := beq_eq_false_iff_ne.2 (by omega)
                have hf : r = false := HRF.out fun h => by have h1 := h.lefts; rw [HNP.out.1, HNP.out.2.1, HMM.out] at h1; exact hMn h1
                have HGE : Hid (w.grownBy w6 none) := HX6.out.grown
                clear hMn HX6
                go_wp2_with fail
                go_ret
                exact ⟨by first | rfl | (rw [hf]; rfl), HGE.out⟩

/-- Is a grammar closed? -/
def closedOK (ts : List (ByteArray × Int)) (ns : List ByteArray) (lv : List Int) (st : Int) (n : Nat) (L : Nat → Int) (R : Nat → List Int) (V : Nat → Int) : Prop := addedOK ts ns st n L R V ∧ fitsOK 1 ts ns lv st n L R V

set_option maxRecDepth 100000 in
set_option maxHeartbeats 1000000 in
theorem closed_any (ta na la pa : Option Addr) (tc nc lc pc : Nat) (ts : List (ByteArray × Int)) (ns : List ByteArray) (lv : List Int) (n : Nat) (L : Nat → Int) (R : Nat → List Int) (ra : Nat → Option Addr) (rc : Nat → Nat) (V : Nat → Int) (st : Int) (w : World) (hG : GAt w ta na la pa tc nc lc pc ts ns lv n L R ra rc V) (r : Bool) (hr : r = true ↔ closedOK ts ns lv st n L R V) :
    Calls Tryz.prog 40 #[.agg #[.slice ta ts.length tc, .slice na ns.length nc, .slice la lv.length lc, .int .i64 st, .slice pa n pc]] w fun e w' => e = .returned (.bool r) ∧ w.grownBy w' none := by
  obtain ⟨rA, hrA⟩ := boolOf (addedOK ts ns st n L R V)
  obtain ⟨rF, hrF⟩ := boolOf (fitsOK 1 ts ns lv st n L R V)
  have HA : Hid (∀ W, w.grownBy W none → Calls Tryz.prog 48 #[.agg #[.slice ta ts.length tc, .slice na ns.length nc, .slice la lv.length lc, .int .i64 st, .slice pa n pc]] W fun e w' => e = .returned (.bool rA) ∧ W.grownBy w' none) := fun W hg => hasAdded_any st (hG.kept hg) rA hrA
  have HH : Hid (rA = true → ∀ W, w.grownBy W none → Calls Tryz.prog 49 #[.agg #[.slice ta ts.length tc, .slice na ns.length nc, .slice la lv.length lc, .int .i64 st, .slice pa n pc], .int .i64 1] W fun e w' => e = .returned (.bool rF) ∧ W.grownBy w' none) := fun hA W hg =>
    holds_one ta na la pa tc nc lc pc ts ns lv n L R ra rc V st W (hG.kept hg) (hrA.1 hA).nn (hrA.1 hA).pn rF (hrF.trans (fits_holds1 ts ns lv st n L R V (hrA.1 hA).nn))
  have HR : Hid ((rA && rF) = r) := by
    show (rA && rF) = r
    rw [Bool.eq_iff_iff, hr, Bool.and_eq_true, hrA, hrF]
    rfl
  have HB : Hid (∀ w2, (w.alloc (.cells #[.slice ta ts.length tc, .slice na ns.length nc, .slice la lv.length lc, .int .i64 st, .slice pa n pc] 27)).grownBy w2 none → PhAt w w2 w.heap.size #[.slice ta ts.length tc, .slice na ns.length nc, .slice la lv.length lc, .int .i64 st, .slice pa n pc]) := fun w2 h2 => (PhAt.mk (World.grownBy_alloc _ _ none) (heap_alloc_last w _)).kept h2
  clear hG hr hrA hrF
  generalize ts.length = tn at *
  generalize ns.length = nn at *
  generalize lv.length = ln at *
  cases rA with
  | false =>
    go_enter Tryz.func40, Tryz.ntmps40
    go_wp2_with fail
    refine Calls.mono (HA.out _ (World.grownBy_alloc _ _ none)) ?_
    rintro e w2 ⟨rfl, hg2⟩
    have HX := show Hid _ from (HB.out w2 hg2).grown
    clear hg2
    go_wp2_with fail
    go_ret
    exact ⟨by rw [← HR.out]; rfl, HX.out⟩
  | true =>
    go_enter Tryz.func40, Tryz.ntmps40
    go_wp2_with fail
    refine Calls.mono (HA.out _ (World.grownBy_alloc _ _ none)) ?_
    rintro e w2 ⟨rfl, hg2⟩
    have HX := show Hid _ from HB.out w2 hg2
    obtain ⟨m0, m1, m2, m3, m4⟩ := HX.out.cells
    clear hg2
    go_wp2_with fail
    refine Calls.mono (HH.out (by simp) w2 HX.out.grown) ?_
    rintro e w3 ⟨rfl, hg3⟩
    have HX3 := show Hid _ from grown_trans HX.out.grown hg3
    clear hg3 m0 m1 m2 m3 m4
    go_wp2_with fail
    go_ret
    exact ⟨by rw [← HR.out]; rfl, HX3.out⟩

end Go.Proofs.YtckgjolaoifgkaaGreat

/-
  The document's Closed, of any grammar.
-/
namespace Go.Proofs.YtckgjolaoifgkaaGreat
open Go.RowKit Go.Maps Go.Shelf

attribute [local go_sem] Oper.semAt_some

set_option maxRecDepth 100000 in
set_option maxHeartbeats 1000000 in
theorem rclosed_look (bn on bp op : Nat) (ta la ra : Option Addr) (tn nn ln pn tc nc lc pc rc : Nat) (st L0 V0 : Int) (R0 : List Int) (w : World) (hn : w.cell? ⟨bn, on, none⟩ = some (.string ⟨#[]⟩)) (h0 : 2 ≤ nn) (hp : 2 ≤ pn)
    (p0 : w.cell? ⟨bp, op, none⟩ = some (.int .i64 L0)) (p1 : w.cell? ⟨bp, op + 1, none⟩ = some (.slice ra R0.length rc)) (p2 : w.cell? ⟨bp, op + 2, none⟩ = some (.int .i64 V0)) (hR : IntsAt w ra R0) (hRl : R0.length ≤ 17592186044416) (rF : Bool)
    (hF : ∀ W, w.grownBy W none → Calls Tryz.prog 35 #[.agg #[.slice ta tn tc, .slice (some ⟨bn, on, none⟩) nn nc, .slice la ln lc, .int .i64 st, .slice (some ⟨bp, op, none⟩) pn pc], .int .i64 1] W fun e w' => e = .returned (.bool rF) ∧ W.grownBy w' none) (r : Bool) (hr : r = true ↔ (L0 = tn ∧ R0 = [st] ∧ V0 = 0) ∧ rF = true) :
    Calls Tryz.prog 25 #[.agg #[.slice ta tn tc, .slice (some ⟨bn, on, none⟩) nn nc, .slice la ln lc, .int .i64 st, .slice (some ⟨bp, op, none⟩) pn pc]] w fun e w' => e = .returned (.bool r) ∧ w.grownBy w' none := by
  have HF := show Hid _ from hF
  have HRR := show Hid _ from hr
  have hd : decide ((nn : Int) < 2) = false := decide_eq_false (by omega)
  have hd' : decide (nn < 2) = false := decide_eq_false (by omega)
  have hd2 : decide ((pn : Int) < 2) = false := decide_eq_false (by omega)
  have hd2' : decide (pn < 2) = false := decide_eq_false (by omega)
  have HR1 : Hid (R0.length = 1 → ∃ br ofr, ra = some ⟨br, ofr, none⟩ ∧ ∀ W, w.grownBy W none → W.cell? ⟨br, ofr, none⟩ = some (.int .i64 (R0.getD 0 0))) := fun hl => by
    rcases hR with h | ⟨b, off, e, hc⟩
    · rw [h] at hl; simp at hl
    · exact ⟨b, off, e, fun W hW => hW.cell (hc 0 (by omega)) (by simp)⟩
  have HRS : Hid (R0 = [st] ↔ R0.length = 1 ∧ R0.getD 0 0 = st) := by
    show _ ↔ _
    match R0 with
    | [] => simp
    | [x] => simp
    | x :: y :: l => simp
  have n0 : ∀ o, (w.alloc o).cell? ⟨bn, on, none⟩ = some (.string ⟨#[]⟩) := fun o => (World.grownBy_alloc w o none).cell hn (by simp)
  have q0 : ∀ o, (w.alloc o).cell? ⟨bp, op, none⟩ = some (.int .i64 L0) := fun o => (World.grownBy_alloc w o none).cell p0 (by simp)
  have q1 : ∀ o, (w.alloc o).cell? ⟨bp, op + 1, none⟩ = some (.slice ra R0.length rc) := fun o => (World.grownBy_alloc w o none).cell p1 (by simp)
  have q2 : ∀ o, (w.alloc o).cell? ⟨bp, op + 2, none⟩ = some (.int .i64 V0) := fun o => (World.grownBy_alloc w o none).cell p2 (by simp)
  obtain ⟨rn, hrn⟩ : ∃ rn, rn = R0.length := ⟨_, rfl⟩
  have HRN : Hid (R0.length = rn) := hrn.symm
  rw [← hrn] at q1 hRl HR1 HRS
  obtain ⟨z, hz⟩ : ∃ z, z = R0.getD 0 0 := ⟨_, rfl⟩
  rw [← hz] at HR1 HRS
  have HNO : Hid (¬ ((L0 = tn ∧ R0 = [st] ∧ V0 = 0) ∧ rF = true) → r = false) := fun h => Bool.eq_false_iff.2 fun hh => h (hr.1 hh)
  clear hn p0 p1 p2 hR hr hF hrn hz
  by_cases hL : L0 = tn
  · by_cases hl : rn = 1
    · obtain ⟨br, ofr, rfl, hc0⟩ := HR1.out hl
      have hc1 : ∀ o, (w.alloc o).cell? ⟨br, ofr, none⟩ = some (.int .i64 z) := fun o => hc0 _ (World.grownBy_alloc w o none)
      have hc2 : ∀ o o2, ((w.alloc o).alloc o2).cell? ⟨br, ofr, none⟩ = some (.int .i64 z) := fun o o2 => hc0 _ (grown_trans (World.grownBy_alloc w o none) (World.grownBy_alloc _ o2 none))
      have e1 : (L0 != (tn : Int)) = false := by rw [hL]; simp
      have e2 : ((rn : Int) != 1) = false := by rw [hl]; rfl
      have e2' : (rn != 1) = false := by rw [hl]; rfl
      have hrp : 0 < rn := by omega
      by_cases hz : z = st
      · have e3 : (z != st) = false := by rw [hz]; simp
        by_cases hV : V0 = 0
        · have e4 : (V0 != 0) = false := by rw [hV]; rfl
          have HE : Hid (rF = r) := by
            show rF = r
            rw [Bool.eq_iff_iff, HRR.out]
            exact ⟨fun h => ⟨⟨hL, HRS.out.2 ⟨hl, hz⟩, hV⟩, h⟩, fun h => h.2⟩
          have HB : Hid (∀ o2 q, PhAt w ((((w.alloc (.cells #[.slice ta tn tc, .slice (some ⟨bn, on, none⟩) nn nc, .slice la ln lc, .int .i64 st, .slice (some ⟨bp, op, none⟩) pn pc] 27)).alloc o2)).drewN q) w.heap.size #[.slice ta tn tc, .slice (some ⟨bn, on, none⟩) nn nc, .slice la ln lc, .int .i64 st, .slice (some ⟨bp, op, none⟩) pn pc]) := fun o2 q => ((PhAt.mk (World.grownBy_alloc _ _ none) (heap_alloc_last w _)).kept (World.grownBy_alloc _ o2 none)).kept (grown_drewN _ q)
          clear hL hl hz hV HRR HRS HNO HR1
          go_enter Tryz.func25, Tryz.ntmps25
          go_wp2_with fail
          go_quiet (fail)
          have HX := HB.out (.cells #[.int .i64 L0, .slice (some ⟨br, ofr, none⟩) rn rc, .int .i64 V0] 46) nq
          generalize (((w.alloc (.cells #[.slice ta tn tc, .slice (some ⟨bn, on, none⟩) nn nc, .slice la ln lc, .int .i64 st, .slice (some ⟨bp, op, none⟩) pn pc] 27)).alloc (.cells #[.int .i64 L0, .slice (some ⟨br, ofr, none⟩) rn rc, .int .i64 V0] 46))).drewN nq = W at *
          obtain ⟨m0, m1, m2, m3, m4⟩ := HX.cells
          have HXH := show Hid _ from HX.grown
          clear HX HB
          go_wp2_with fail
          refine Calls.mono (HF.out W HXH.out) ?_
          rintro e w3 ⟨rfl, hg3⟩
          have HG3 := show Hid _ from grown_trans HXH.out hg3
          clear hg3 m0 m1 m2 m3 m4
          go_wp2_with fail
          go_ret
          exact ⟨by rw [HE.out]; rfl, HG3.out⟩
        · have e4 : (V0 != 0) = true := by simp [hV]
          have hf : r = false := HNO.out fun h => hV h.1.2.2
          clear hL hl hz hV HRR HRS HNO HR1
          go_enter Tryz.func25, Tryz.ntmps25
          go_wp2_with fail
          go_quiet (fail)
          go_wp2_with fail
          go_ret
          exact ⟨by first | rfl | (rw [hf]; rfl), grown_trans (grown_trans (World.grownBy_alloc _ _ none) (World.grownBy_alloc _ _ none)) (grown_drewN _ _)⟩
      · have e3 : (z != st) = true := by simp [hz]
        have hf : r = false := HNO.out fun h => hz (HRS.out.1 h.1.2.1).2
        clear hL hl hz HRR HRS HNO HR1
        go_enter Tryz.func25, Tryz.ntmps25
        go_wp2_with fail
        go_quiet (fail)
        go_wp2_with fail
        go_ret
        exact ⟨by first | rfl | (rw [hf]; rfl), grown_trans (grown_trans (World.grownBy_alloc _ _ none) (World.grownBy_alloc _ _ none)) (grown_drewN _ _)⟩
    · have e1 : (L0 != (tn : Int)) = false := by rw [hL]; simp
      have e2 : ((rn : Int) != 1) = true := by simp; omega
      have e2' : (rn != 1) = true := by simp [hl]
      have hf : r = false := HNO.out fun h => hl (HRS.out.1 h.1.2.1).1
      clear hL hl HRR HRS HNO HR1
      go_enter Tryz.func25, Tryz.ntmps25
      go_wp2_with fail
      go_quiet (fail)
      go_wp2_with fail
      go_ret
      exact ⟨by first | rfl | (rw [hf]; rfl), grown_trans (grown_trans (World.grownBy_alloc _ _ none) (World.grownBy_alloc _ _ none)) (grown_drewN _ _)⟩
  · have e1 : (L0 != (tn : Int)) = true := by simp [hL]
    have hf : r = false := HNO.out fun h => hL h.1.1
    clear hL HRR HRS HNO HR1
    go_enter Tryz.func25, Tryz.ntmps25
    go_wp2_with fail
    go_quiet (fail)
    go_wp2_with fail
    go_ret
    exact ⟨by first | rfl | (rw [hf]; rfl), grown_trans (grown_trans (World.grownBy_alloc _ _ none) (World.grownBy_alloc _ _ none)) (grown_drewN _ _)⟩

theorem rclosed_few (ta na la pa : Option Addr) (tn nn ln pn tc nc lc pc : Nat) (st : Int) (w : World) (h : nn < 2) :
    Calls Tryz.prog 25 #[.agg #[.slice ta tn tc, .slice na nn nc, .slice la ln lc, .int .i64 st, .slice pa pn pc]] w fun e w' => e = .returned (.bool false) ∧ w.grownBy w' none := by
  have hd : decide ((nn : Int) < 2) = true := decide_eq_true (by omega)
  have hd' : decide (nn < 2) = true := decide_eq_true h
  go_enter Tryz.func25, Tryz.ntmps25
  go_wp2_with fail
  go_ret
  exact ⟨rfl, World.grownBy_alloc _ _ none⟩

theorem rclosed_name (bn on : Nat) (ta la pa : Option Addr) (tn nn ln pn tc nc lc pc : Nat) (st : Int) (s : ByteArray) (w : World) (h : 2 ≤ nn) (hn : w.cell? ⟨bn, on, none⟩ = some (.string s)) (hs : s ≠ ⟨#[]⟩) :
    Calls Tryz.prog 25 #[.agg #[.slice ta tn tc, .slice (some ⟨bn, on, none⟩) nn nc, .slice la ln lc, .int .i64 st, .slice pa pn pc]] w fun e w' => e = .returned (.bool false) ∧ w.grownBy w' none := by
  have hd : decide ((nn : Int) < 2) = false := decide_eq_false (by omega)
  have hd' : decide (nn < 2) = false := decide_eq_false (by omega)
  have n0 : ∀ o, (w.alloc o).cell? ⟨bn, on, none⟩ = some (.string s) := fun o => (World.grownBy_alloc w o none).cell hn (by simp)
  have hne2 := isEmpty_false hs
  have hne : (s.toList == (ByteArray.mk #[]).toList) = false := strEq_false hs
  clear hn hs
  go_enter Tryz.func25, Tryz.ntmps25
  go_wp2_with fail
  go_ret
  exact ⟨rfl, World.grownBy_alloc _ _ none⟩

theorem rclosed_prods (bn on : Nat) (ta la pa : Option Addr) (tn nn ln pn tc nc lc pc : Nat) (st : Int) (w : World) (h : 2 ≤ nn) (hn : w.cell? ⟨bn, on, none⟩ = some (.string ⟨#[]⟩)) (hp : pn < 2) :
    Calls Tryz.prog 25 #[.agg #[.slice ta tn tc, .slice (some ⟨bn, on, none⟩) nn nc, .slice la ln lc, .int .i64 st, .slice pa pn pc]] w fun e w' => e = .returned (.bool false) ∧ w.grownBy w' none := by
  have hd : decide ((nn : Int) < 2) = false := decide_eq_false (by omega)
  have hd' : decide (nn < 2) = false := decide_eq_false (by omega)
  have hd2 : decide ((pn : Int) < 2) = true := decide_eq_true (by omega)
  have hd2' : decide (pn < 2) = true := decide_eq_true hp
  have n0 : ∀ o, (w.alloc o).cell? ⟨bn, on, none⟩ = some (.string ⟨#[]⟩) := fun o => (World.grownBy_alloc w o none).cell hn (by simp)
  clear hn
  go_enter Tryz.func25, Tryz.ntmps25
  go_wp2_with fail
  go_ret
  exact ⟨rfl, World.grownBy_alloc _ _ none⟩

/-- The document's Closed: is a grammar closed? -/
theorem rclosed_any (ta na la pa : Option Addr) (tc nc lc pc : Nat) (st : Int) (ts : List (ByteArray × Int)) (ns : List ByteArray) (lv : List Int) (n : Nat) (L : Nat → Int) (R : Nat → List Int) (ra : Nat → Option Addr) (rc : Nat → Nat) (V : Nat → Int) (w : World)
    (hG : GAt w ta na la pa tc nc lc pc ts ns lv n L R ra rc V) (hts : ∀ t ∈ ts, t.1.size ≤ 140737488355328) (hns : ∀ s ∈ ns, s.size ≤ 140737488355328) (r : Bool) (hr : r = true ↔ closedOK ts ns lv st n L R V) :
    Calls Tryz.prog 25 #[.agg #[.slice ta ts.length tc, .slice na ns.length nc, .slice la lv.length lc, .int .i64 st, .slice pa n pc]] w fun e w' => e = .returned (.bool r) ∧ w.grownBy w' none := by
  have no : ¬ closedOK ts ns lv st n L R V → r = false := fun h => Bool.eq_false_iff.2 fun hh => h (hr.1 hh)
  by_cases h2 : ns.length < 2
  · rw [no (fun h => by have h4 := h.2.start; unfold isNonI at h4; omega)]
    exact rclosed_few ta na la pa _ _ _ _ _ _ _ _ st w h2
  · obtain ⟨bn, on, rfl, hnc⟩ : ∃ b off, na = some ⟨b, off, none⟩ ∧ ∀ i, i < ns.length → w.cell? ⟨b, off + i, none⟩ = some (.string (ns.getD i ⟨#[]⟩)) := by
      rcases hG.nons with h | h
      · rw [h] at h2; simp at h2
      · exact h
    have hc := hnc 0 (by omega)
    by_cases hs : ns.getD 0 ⟨#[]⟩ = ⟨#[]⟩
    · rw [hs] at hc
      by_cases hp : n < 2
      · rw [no (fun h => by have := h.2.p1; omega)]
        exact rclosed_prods bn on ta la pa _ _ _ _ _ _ _ _ st w (by omega) hc hp
      · obtain ⟨bp, op, rfl, hps⟩ : ∃ b off, pa = some ⟨b, off, none⟩ ∧ ∀ k, k < n → w.cell? ⟨b, off + k * 3, none⟩ = some (.int .i64 (L k)) ∧ w.cell? ⟨b, off + k * 3 + 1, none⟩ = some (.slice (ra k) (R k).length (rc k)) ∧ w.cell? ⟨b, off + k * 3 + 2, none⟩ = some (.int .i64 (V k)) ∧ IntsAt w (ra k) (R k) ∧ (ra k = none → rc k = 0) ∧ (R k).length ≤ 17592186044416 := by
          rcases hG.prods with h | h
          · omega
          · exact h
        obtain ⟨p0, p1, p2, p3, _, p5⟩ := hps 0 (by omega)
        simp only [Nat.zero_mul, Nat.add_zero] at p0 p1 p2
        obtain ⟨rF, hrF⟩ := boolOf (fitsOK 1 ts ns lv st n L R V)
        refine rclosed_look bn on bp op ta la (ra 0) ts.length ns.length lv.length n tc nc lc pc (rc 0) st (L 0) (V 0) (R 0) w hc (by omega) (by omega) p0 p1 p2 p3 p5 rF (fun W hW => fits_any ta _ la _ ts.length ns.length lv.length n tc nc lc pc 1 st ts ns lv L R ra rc V W (hG.kept hW) ⟨rfl, rfl, rfl⟩ (by omega) (by omega) hts hns rF hrF) r ?_
        rw [hr, hrF]
        exact ⟨fun h => ⟨⟨h.1.left, h.1.right, h.1.level⟩, h.2⟩, fun ⟨⟨h1, h3, h4⟩, h5⟩ => ⟨⟨by omega, hs, by omega, h1, h3, h4⟩, h5⟩⟩
    · rw [no (fun h => hs h.1.name)]
      exact rclosed_name bn on ta la pa _ _ _ _ _ _ _ _ st _ w (by omega) hc hs

end Go.Proofs.YtckgjolaoifgkaaGreat

/-
  Copy of any grammar: the same in new memory.
-/
namespace Go.Proofs.YtckgjolaoifgkaaGreat
open Go.RowKit Go.Maps Go.Shelf

theorem tms_cells_len : ∀ ts : List (ByteArray × Int), (tmsL ts).length = ts.length * 2
  | [] => rfl
  | t :: ts => by
    have := tms_cells_len ts
    simp only [tmsL, List.flatMap_cons, List.length_append, List.length_cons] at this ⊢
    simp [tmL] at this ⊢
    omega

theorem terms_cells {w : World} {ta : Option Addr} {ts : List (ByteArray × Int)} (h : TermsAt w ta ts) : ∀ x, ta = some x → ∀ j u, (tmsL ts)[j]? = some u → w.cell? (x.add j) = some u := by
  intro x hx j u hu
  rcases h with h | ⟨b, off, e, hc⟩
  · rw [h] at hu; simp [tmsL] at hu
  · rw [hx] at e
    simp only [Option.some.injEq] at e
    subst e
    rw [Addr.add_mid]
    have hj : j < ts.length * 2 := by
      have := (List.getElem?_eq_some_iff.1 hu).1
      have e := tms_cells_len ts
      omega
    obtain ⟨h1, h2⟩ := hc (j / 2) (by omega)
    obtain ⟨k1, k2⟩ := tmsL_at ts (j / 2) (by omega)
    have hr : j % 2 = 0 ∨ j % 2 = 1 := by omega
    rcases hr with hr | hr
    · have e : j = j / 2 * 2 := by omega
      rw [e, k1] at hu
      rw [e, h1]
      exact hu
    · have e : j = j / 2 * 2 + 1 := by omega
      rw [e, k2] at hu
      rw [e, ← Nat.add_assoc, h2]
      exact hu
theorem strs_cells {w : World} {na : Option Addr} {ns : List ByteArray} (h : StrsAt w na ns) : ∀ x, na = some x → ∀ j u, (ns.map Value.string)[j]? = some u → w.cell? (x.add j) = some u := by
  intro x hx j u hu
  rcases h with h | ⟨b, off, e, hc⟩
  · rw [h] at hu; simp at hu
  · rw [hx] at e
    simp only [Option.some.injEq] at e
    subst e
    rw [Addr.add_mid]
    have hj : j < ns.length := by have := (List.getElem?_eq_some_iff.1 hu).1; simpa using this
    rw [hc j hj]
    simp [hj] at hu
    simp [List.getD, hj, hu]
theorem tms_one (ts : List (ByteArray × Int)) : ∀ u ∈ tmsL ts, u.oneCell' = true := by
  intro u hu
  simp only [tmsL, List.mem_flatMap] at hu
  obtain ⟨t, _, hu⟩ := hu
  simp [tmL] at hu
  rcases hu with rfl | rfl <;> rfl
theorem strs_one (ns : List ByteArray) : ∀ u ∈ ns.map Value.string, u.oneCell' = true := by
  intro u hu
  obtain ⟨t, _, rfl⟩ := List.mem_map.1 hu
  rfl

/-- A grammar out of its lists. -/
def grOf (ts : List (ByteArray × Int)) (ns : List ByteArray) (lv : List Int) (st : Int) (n : Nat) (L : Nat → Int) (R : Nat → List Int) (V : Nat → Int) : GR := ⟨ts, ns, lv, st, (List.range n).map fun i => ⟨L i, R i, V i⟩⟩
theorem grOf_len (ts : List (ByteArray × Int)) (ns : List ByteArray) (lv : List Int) (st : Int) (n : Nat) (L : Nat → Int) (R : Nat → List Int) (V : Nat → Int) : (grOf ts ns lv st n L R V).prods.length = n := by simp [grOf]
theorem grOf_at (ts : List (ByteArray × Int)) (ns : List ByteArray) (lv : List Int) (st : Int) (n : Nat) (L : Nat → Int) (R : Nat → List Int) (V : Nat → Int) {i : Nat} (hi : i < n) : (grOf ts ns lv st n L R V).prods.getD i ⟨0, [], 0⟩ = ⟨L i, R i, V i⟩ := by simp [grOf, List.getD, hi]

/-- Copied productions, in their own memory. -/
structure CNew (W : World) (B : Nat) (v : Value) (n : Nat) (L : Nat → Int) (R : Nat → List Int) (V : Nat → Int) (rg : Nat → Value) : Prop where
  row : W.ownsRow B 46 3 v n (prodRow n L rg V)
  rights : ∀ i, i < n → W.ownsRow B 3 1 (rg i) (R i).length ((R i).map (Value.int .i64))
theorem copy_fin {W W' : World} {B k n : Nat} {ts : List (ByteArray × Int)} {ns : List ByteArray} {lv : List Int} {st : Int} {L : Nat → Int} {R : Nat → List Int} {V : Nat → Int} {vt vn vl vp : Value} {rg : Nat → Value} (hB : B ≤ k)
    (hT : W.ownsRow (k + 1) 63 2 vt ts.length (tmsL ts)) (hN : W.ownsRow (k + 1) 9 1 vn ns.length (ns.map Value.string)) (hL : W.ownsRow (k + 1) 3 1 vl lv.length (lv.map (Value.int .i64))) (hP : CNew W (k + 1) vp n L R V rg) (hst : W.grownBy W' (some k)) :
    GramNew W' B (grOf ts ns lv st n L R V) vt vn vl vp := by
  refine ⟨owns_off hT hst hB, owns_off hN hst hB, owns_off hL hst hB, rg, ?_, fun i hi => ?_⟩
  · rw [grOf_len]
    have e := prodRow_ext (n := n) (L := L) (L' := fun i => ((grOf ts ns lv st n L R V).prods.getD i ⟨0, [], 0⟩).left) (r := rg) (r' := rg) (V := V) (V' := fun i => ((grOf ts ns lv st n L R V).prods.getD i ⟨0, [], 0⟩).level) (fun i hi => by rw [grOf_at _ _ _ _ _ _ _ _ hi]) (fun _ _ => rfl) (fun i hi => by rw [grOf_at _ _ _ _ _ _ _ _ hi])
    rw [← e]
    exact owns_off hP.row hst hB
  · rw [grOf_len] at hi
    rw [grOf_at _ _ _ _ _ _ _ _ hi]
    exact owns_off (hP.rights i hi) hst hB

end Go.Proofs.YtckgjolaoifgkaaGreat

/-
  What lend lays: the box of the grammar, the lent one's box, and the rows behind.
-/
namespace Go.Proofs.YtckgjolaoifgkaaGreat
open Go.RowKit Go.Maps Go.Shelf

/-- A row that lies behind the box stays, when the box is written. -/
theorem owns_box {W : World} {k j e s n : Nat} {v u : Value} {xs : List Value} (h : W.ownsRow (k + 1) e s v n xs) : (W.setCell ⟨k, j, none⟩ u).ownsRow (k + 1) e s v n xs := by
  refine h.kept (grown_setCell k j u) ?_
  cases hv : v.ownBlock with
  | none => exact .inl rfl
  | some g => have := (h.lt g hv).1; exact .inr (by simp; omega)

theorem keep0 {W W' : World} {B e s n : Nat} {v : Value} {xs : List Value} (h : W.ownsRow B e s v n xs) (hg : W.grownBy W' none) : W'.ownsRow B e s v n xs := h.kept hg (by cases hv : v.ownBlock <;> simp)

theorem ints_cells {w : World} {a : Option Addr} {l : List Int} (h : IntsAt w a l) : ∀ x, a = some x → ∀ j u, (l.map (Value.int .i64))[j]? = some u → w.cell? (x.add j) = some u := by
  intro x hx j u hu
  rcases h with h | ⟨b, off, e, hc⟩
  · rw [h] at hu; simp at hu
  · rw [hx] at e
    simp only [Option.some.injEq] at e
    subst e
    rw [Addr.add_mid]
    have hj : j < l.length := by have := (List.getElem?_eq_some_iff.1 hu).1; simpa using this
    rw [hc j hj]
    simp [hj] at hu
    simp [List.getD, hj, hu]

theorem wpList_append_src {w : World} {ops : Array Oper} {rest : List Oper} {o : Oper} {a : Act} {Q : Exit → Act → World → Prop} (hgd : o.guard = none) (s x : Operand) (t : TypeId)
    (ho : o.op = .call { callee := .builtin .append, args := #[s, x], argTypes := #[t, t] })
    (base : Nat) (e : TypeId) (i : TypeInfo) (z : Value) (size bytes : Nat) (ht : Tryz.prog.underlying t = some (.slice e)) (hi : Tryz.prog.info? e = some i) (hz : i.zero = some z)
    (hsize : i.size = size) (hby : i.bytes = bytes) (hzs : z.cells.size = size) (hsz : 0 < size)
    (v : Value) (n : Nat) (xs : List Value) (hs : a.eval s = v) (hown : w.ownsRow base e size v n xs)
    (xo : Option Addr) (m c : Nat) (news : List Value) (hx : a.eval x = .slice xo m c) (hnil : xo = none → m = 0 ∧ c = 0) (hl : news.length = m * size) (hnews : ∀ ad, xo = some ad → ∀ j u, news[j]? = some u → w.cell? (ad.add j) = some u) (h1 : ∀ u ∈ news, u.oneCell' = true)
    (h63 : n + m ≤ maxLen) (hbytes : (n + m) * bytes ≤ 140737488355328) (hbase : base ≤ w.heap.size)
    (h : ∀ v' w', w'.ownsRow base e size v' (n + m) (xs ++ news) → w.grownBy w' v.ownBlock → wpList Tryz.prog ops Q rest (a.put o.dst v') w') : wpList Tryz.prog ops Q (o :: rest) a w := by
  refine wpList_plain hgd fun K hK => ?_
  cases xo with
  | some ad => exact wp_append_own w s x t ho base e i z size bytes ht hi hz hsize hby hzs hsz v n xs hs hown ad m c news hx hl (hnews ad rfl) h1 h63 hbytes hbase fun v' w' h2 h3 _ => hK _ _ (h v' w' h2 h3)
  | none =>
    obtain ⟨rfl, rfl⟩ := hnil rfl
    have hn0 : news = [] := List.eq_nil_of_length_eq_zero (by simpa using hl)
    subst hn0
    have hrun := run_append_owned_none (P := Tryz.prog) (w := w) base t o.type e i size ht hi v n xs hown
    have hk := hK _ _ (h v w (by simpa using hown) ⟨rfl, rfl, rfl, Nat.le_refl _, fun _ _ _ => rfl⟩)
    unfold Oper.wp
    simp [execOp, ho, resolve, invoke, builtin, hs, hx, hrun, Result.andThen]
    exact hk

/-- What is appended lies in a block of its own. -/
theorem news_new (w : World) (cs : Array Value) (t : TypeId) : ∀ j u, cs.toList[j]? = some u → (w.alloc (.cells cs t)).cell? ((⟨w.heap.size, 0, none⟩ : Addr).add j) = some u := World.news_of_block (heap_alloc_last w _)
/-- A row that grew: what was there stays. -/
theorem grown_row {X w w' : World} {B e s n : Nat} {v : Value} {xs : List Value} (hX : X.grownBy w none) (ho : w.ownsRow B e s v n xs) (hB : X.heap.size ≤ B) (hg : w.grownBy w' v.ownBlock) : X.grownBy w' none := by
  cases hv : v.ownBlock with
  | none => rw [hv] at hg; exact grown_trans hX hg
  | some q => rw [hv] at hg; exact grown_new hX hg (Nat.le_trans hB (ho.lt q hv).1)

theorem infoInts : (Tryz.prog.info? 24).map (fun i => (i.zero, i.size, i.bytes)) = some (some (.slice none 0 0), 1, 24) := by kernel_rfl

/-- While the productions are lent: the first kr of their right sides, the first kp of them. -/
structure LMid (X : World) (B : Nat) (ts : List (ByteArray × Int)) (ns : List ByteArray) (lv : List Int) (kr kp : Nat) (L : Nat → Int) (R : Nat → List Int) (V : Nat → Int) (a1 a2 a3 a4 a5 : Option Addr) (tn nn ln c1 c2 c3 c4 c5 : Nat) (rg : Nat → Nat × Nat) : Prop where
  t : X.ownsRow B 63 2 (.slice a1 (tn + 1) c1) (tn + 1) (tmsL ts ++ [.string { data := #[115, 112, 97, 114, 101] }, .int .i64 0])
  s : X.ownsRow B 9 1 (.slice a2 (nn + 1) c2) (nn + 1) (ns.map Value.string ++ [.string { data := #[115, 112, 97, 114, 101] }])
  l : X.ownsRow B 3 1 (.slice a3 (ln + 1) c3) (ln + 1) (lv.map (Value.int .i64) ++ [.int .i64 77])
  r : X.ownsRow B 24 1 (.slice a4 kr c4) kr ((List.range kr).map fun i => .slice (some ⟨(rg i).1, 0, none⟩) ((R i).length + 1) (rg i).2)
  p : X.ownsRow B 46 3 (.slice a5 kp c5) kp (prodRow kp L (fun i => .slice (some ⟨(rg i).1, 0, none⟩) (R i).length (rg i).2) V)
  rr : ∀ i, i < kr → X.ownsRow B 3 1 (.slice (some ⟨(rg i).1, 0, none⟩) ((R i).length + 1) (rg i).2) ((R i).length + 1) ((R i).map (Value.int .i64) ++ [.int .i64 77])

section
variable {X Y : World} {B kr kp tn nn ln c1 c2 c3 c4 c5 : Nat} {ts : List (ByteArray × Int)} {ns : List ByteArray} {lv : List Int} {L : Nat → Int} {R : Nat → List Int} {V : Nat → Int} {a1 a2 a3 a4 a5 : Option Addr} {rg : Nat → Nat × Nat}
theorem LMid.kept (h : LMid X B ts ns lv kr kp L R V a1 a2 a3 a4 a5 tn nn ln c1 c2 c3 c4 c5 rg) (hg : X.grownBy Y none) : LMid Y B ts ns lv kr kp L R V a1 a2 a3 a4 a5 tn nn ln c1 c2 c3 c4 c5 rg :=
  ⟨keep0 h.t hg, keep0 h.s hg, keep0 h.l hg, keep0 h.r hg, keep0 h.p hg, fun i hi => keep0 (h.rr i hi) hg⟩
theorem LMid.box {kb j : Nat} {u : Value} (h : LMid X (kb + 1) ts ns lv kr kp L R V a1 a2 a3 a4 a5 tn nn ln c1 c2 c3 c4 c5 rg) : LMid (X.setCell ⟨kb, j, none⟩ u) (kb + 1) ts ns lv kr kp L R V a1 a2 a3 a4 a5 tn nn ln c1 c2 c3 c4 c5 rg :=
  ⟨owns_box h.t, owns_box h.s, owns_box h.l, owns_box h.r, owns_box h.p, fun i hi => owns_box (h.rr i hi)⟩
theorem owns_other {B' e e' s s' n n' : Nat} {v v' : Value} {xs xs' : List Value} (h : X.ownsRow B e s v n xs) (h' : X.ownsRow B' e' s' v' n' xs') (he : e ≠ e') (hg : X.grownBy Y v'.ownBlock) : Y.ownsRow B e s v n xs := h.kept hg (owns_ne h h' he)
end

/-- All rows of what was lent. -/
structure LRows (X : World) (B : Nat) (ts : List (ByteArray × Int)) (ns : List ByteArray) (lv : List Int) (n : Nat) (L : Nat → Int) (R : Nat → List Int) (V : Nat → Int) (a1 a2 a3 a4 a5 : Option Addr) (tn nn ln c1 c2 c3 c4 c5 : Nat) (rg : Nat → Nat × Nat) : Prop where
  t : X.ownsRow B 63 2 (.slice a1 (tn + 1) c1) (tn + 1) (tmsL ts ++ [.string { data := #[115, 112, 97, 114, 101] }, .int .i64 0])
  s : X.ownsRow B 9 1 (.slice a2 (nn + 1) c2) (nn + 1) (ns.map Value.string ++ [.string { data := #[115, 112, 97, 114, 101] }])
  l : X.ownsRow B 3 1 (.slice a3 (ln + 1) c3) (ln + 1) (lv.map (Value.int .i64) ++ [.int .i64 77])
  r : X.ownsRow B 24 1 (.slice a4 n c4) n ((List.range n).map fun i => .slice (some ⟨(rg i).1, 0, none⟩) ((R i).length + 1) (rg i).2)
  p : X.ownsRow B 46 3 (.slice a5 (n + 1) c5) (n + 1) (prodRow n L (fun i => .slice (some ⟨(rg i).1, 0, none⟩) (R i).length (rg i).2) V ++ [.int .i64 77, .slice none 0 0, .int .i64 0])
  rr : ∀ i, i < n → X.ownsRow B 3 1 (.slice (some ⟨(rg i).1, 0, none⟩) ((R i).length + 1) (rg i).2) ((R i).length + 1) ((R i).map (Value.int .i64) ++ [.int .i64 77])

section
variable {X Y : World} {B n tn nn ln c1 c2 c3 c4 c5 : Nat} {ts : List (ByteArray × Int)} {ns : List ByteArray} {lv : List Int} {L : Nat → Int} {R : Nat → List Int} {V : Nat → Int} {a1 a2 a3 a4 a5 : Option Addr} {rg : Nat → Nat × Nat}
theorem LRows.kept (h : LRows X B ts ns lv n L R V a1 a2 a3 a4 a5 tn nn ln c1 c2 c3 c4 c5 rg) (hg : X.grownBy Y none) : LRows Y B ts ns lv n L R V a1 a2 a3 a4 a5 tn nn ln c1 c2 c3 c4 c5 rg :=
  ⟨keep0 h.t hg, keep0 h.s hg, keep0 h.l hg, keep0 h.r hg, keep0 h.p hg, fun i hi => keep0 (h.rr i hi) hg⟩
theorem LRows.box {kb j : Nat} {u : Value} (h : LRows X (kb + 1) ts ns lv n L R V a1 a2 a3 a4 a5 tn nn ln c1 c2 c3 c4 c5 rg) : LRows (X.setCell ⟨kb, j, none⟩ u) (kb + 1) ts ns lv n L R V a1 a2 a3 a4 a5 tn nn ln c1 c2 c3 c4 c5 rg :=
  ⟨owns_box h.t, owns_box h.s, owns_box h.l, owns_box h.r, owns_box h.p, fun i hi => owns_box (h.rr i hi)⟩
end

end Go.Proofs.YtckgjolaoifgkaaGreat

/-
  The document's Copy of any grammar: the same in new memory.
-/
namespace Go.Proofs.YtckgjolaoifgkaaGreat
open Go.RowKit Go.Maps Go.Shelf

attribute [local go_sem] Oper.semAt_some

/-- While a grammar is copied: its box, the result's and the copy's. -/
structure CpAt (w X : World) (gb : Nat) (gv bv : Array Value) : Prop where
  grown : w.grownBy X none
  lo : w.heap.size ≤ gb
  gbox : X.heap[gb]? = some (.cells gv 27 (0, 0))
  rbox : X.heap[gb + 1]? = some (.cells #[.slice none 0 0, .slice none 0 0, .slice none 0 0, .int .i64 0, .slice none 0 0] 27 (0, 0))
  bbox : X.heap[gb + 1 + 1]? = some (.cells bv 27 (0, 0))

section
variable {w X Y : World} {gb : Nat} {gv bv : Array Value}
theorem CpAt.kept (h : CpAt w X gb gv bv) (hg : X.grownBy Y none) : CpAt w Y gb gv bv :=
  ⟨grown_trans h.grown hg, h.lo, (hg.block _ (Array.getElem?_eq_some_iff.1 h.gbox).1 (by simp)).trans h.gbox, (hg.block _ (Array.getElem?_eq_some_iff.1 h.rbox).1 (by simp)).trans h.rbox, (hg.block _ (Array.getElem?_eq_some_iff.1 h.bbox).1 (by simp)).trans h.bbox⟩
theorem CpAt.lt (h : CpAt w X gb gv bv) : gb + 1 + 1 < X.heap.size := (Array.getElem?_eq_some_iff.1 h.bbox).1
theorem CpAt.store (h : CpAt w X gb gv bv) (k : Nat) (v : Value) : CpAt w (X.setCell ⟨gb + 1 + 1, k, none⟩ v) gb gv (bv.setIfInBounds k v) :=
  ⟨grown_new h.grown (grown_setCell _ _ _) (by have := h.lo; omega), h.lo, ((grown_setCell (gb + 1 + 1) k v).block gb (Array.getElem?_eq_some_iff.1 h.gbox).1 (by simp; omega)).trans h.gbox, ((grown_setCell (gb + 1 + 1) k v).block (gb + 1) (Array.getElem?_eq_some_iff.1 h.rbox).1 (by simp)).trans h.rbox, heap_setCell_same X (gb + 1 + 1) k _ _ v h.bbox⟩
theorem CpAt.g (h : CpAt w X gb gv bv) (k : Nat) (v : Value) (hv : gv[k]? = some v) : X.cell? ⟨gb, k, none⟩ = some v := by rw [cell_of_row _ _ _ _ _ _ h.gbox]; exact hv
theorem CpAt.x (h : CpAt w X gb gv bv) (k : Nat) (v : Value) (hv : bv[k]? = some v) : X.cell? ⟨gb + 1 + 1, k, none⟩ = some v := by rw [cell_of_row _ _ _ _ _ _ h.bbox]; exact hv
theorem CpAt.xf (h : CpAt w X gb gv bv) (k : Nat) : X.frozen? ⟨gb + 1 + 1, k, none⟩ = false := frozen_of_row _ _ _ _ _ h.bbox
theorem CpAt.row {e s n : Nat} {v : Value} {xs : List Value} (h : CpAt w X gb gv bv) (ho : X.ownsRow (gb + 1 + 1 + 1) e s v n xs) (hg : X.grownBy Y v.ownBlock) : CpAt w Y gb gv bv := by
  cases hv : v.ownBlock with
  | none => rw [hv] at hg; exact h.kept hg
  | some q =>
    rw [hv] at hg
    have hq := (ho.lt q hv).1
    have hlo := h.lo
    exact ⟨grown_new h.grown hg (by omega), h.lo, (hg.block _ (Array.getElem?_eq_some_iff.1 h.gbox).1 (by simp; omega)).trans h.gbox, (hg.block _ (Array.getElem?_eq_some_iff.1 h.rbox).1 (by simp; omega)).trans h.rbox, (hg.block _ (Array.getElem?_eq_some_iff.1 h.bbox).1 (by simp; omega)).trans h.bbox⟩
end

/-- The rows of a copy, k of its productions. -/
structure CpRows (X : World) (B : Nat) (ts : List (ByteArray × Int)) (ns : List ByteArray) (lv : List Int) (tn nn ln k : Nat) (L : Nat → Int) (R : Nat → List Int) (V : Nat → Int) (v1 v2 v3 v4 : Value) (rg : Nat → Value) : Prop where
  t : X.ownsRow B 63 2 v1 tn (tmsL ts)
  s : X.ownsRow B 9 1 v2 nn (ns.map Value.string)
  l : X.ownsRow B 3 1 v3 ln (lv.map (Value.int .i64))
  p : X.ownsRow B 46 3 v4 k (prodRow k L rg V)
  rr : ∀ i, i < k → X.ownsRow B 3 1 (rg i) (R i).length ((R i).map (Value.int .i64))

section
variable {X Y : World} {B tn nn ln k : Nat} {ts : List (ByteArray × Int)} {ns : List ByteArray} {lv : List Int} {L : Nat → Int} {R : Nat → List Int} {V : Nat → Int} {v1 v2 v3 v4 : Value} {rg : Nat → Value}
theorem CpRows.kept (h : CpRows X B ts ns lv tn nn ln k L R V v1 v2 v3 v4 rg) (hg : X.grownBy Y none) : CpRows Y B ts ns lv tn nn ln k L R V v1 v2 v3 v4 rg :=
  ⟨keep0 h.t hg, keep0 h.s hg, keep0 h.l hg, keep0 h.p hg, fun i hi => keep0 (h.rr i hi) hg⟩
theorem CpRows.box {kb j : Nat} {u : Value} (h : CpRows X (kb + 1) ts ns lv tn nn ln k L R V v1 v2 v3 v4 rg) : CpRows (X.setCell ⟨kb, j, none⟩ u) (kb + 1) ts ns lv tn nn ln k L R V v1 v2 v3 v4 rg :=
  ⟨owns_box h.t, owns_box h.s, owns_box h.l, owns_box h.p, fun i hi => owns_box (h.rr i hi)⟩
theorem CpRows.push {v5 v6 : Value} (h : CpRows X B ts ns lv tn nn ln k L R V v1 v2 v3 v4 rg) (h5 : X.ownsRow B 3 1 v5 (R k).length ((R k).map (Value.int .i64)))
    (h6 : Y.ownsRow B 46 3 v6 (k + 1) (prodRow k L rg V ++ [.int .i64 (L k), v5, .int .i64 (V k)])) (hg : X.grownBy Y v4.ownBlock) : CpRows Y B ts ns lv tn nn ln (k + 1) L R V v1 v2 v3 v6 (fun i => if i = k then v5 else rg i) := by
  refine ⟨owns_other h.t h.p (by decide) hg, owns_other h.s h.p (by decide) hg, owns_other h.l h.p (by decide) hg, ?_, fun i hi => ?_⟩
  · rw [prodRow_succ, if_pos rfl, ← prodRow_ext (n := k) (L := L) (L' := L) (r := rg) (V := V) (V' := V) (fun _ _ => rfl) (fun i hi => by rw [if_neg (by omega)]) (fun _ _ => rfl)]
    exact h6
  · by_cases e : i = k
    · subst e
      simp only [if_true]
      exact owns_other h5 h.p (by decide) hg
    · simp only [if_neg e]
      exact owns_other (h.rr i (by omega)) h.p (by decide) hg
end

theorem results_rcopy (tmps : Array Value) (w : World) (g : Nat) (cs : Array Value) (h2 : tmps.getD 2 undef = .pointer (some ⟨g, 0, none⟩)) (hg : w.heap[g]? = some (.cells cs 27 (0, 0))) (hs : cs.size = 5) :
    (results Tryz.f5 tmps).run Tryz.prog w = .ok (.agg cs) w := by
  have h2' : tmps[2]?.getD undef = .pointer (some ⟨g, 0, none⟩) := by simpa using h2
  have hl := run_loadVar_row (P := Tryz.prog) w g 27 27 cs (0, 0) _ hg Tryz.underlying27 rfl (by rw [infoG, hs])
  simp [results, Tryz.results5, h2', asAddr, hl]

theorem ints_one (l : List Int) : ∀ u ∈ l.map (Value.int .i64), u.oneCell' = true := by
  intro u hu
  obtain ⟨t, _, rfl⟩ := List.mem_map.1 hu
  rfl

set_option maxRecDepth 100000 in
set_option maxHeartbeats 4000000 in
theorem rcopy_core (ta na la pa : Option Addr) (tn nn ln n tc nc lc pc : Nat) (st : Int) (ts : List (ByteArray × Int)) (ns : List ByteArray) (lv : List Int) (L : Nat → Int) (R : Nat → List Int) (ra : Nat → Option Addr) (rc : Nat → Nat) (V : Nat → Int) (w : World) (hlen : ts.length = tn ∧ ns.length = nn ∧ lv.length = ln)
    (hG : GAt w ta na la pa tc nc lc pc ts ns lv n L R ra rc V) (hnt : ta = none → tn = 0 ∧ tc = 0) (hnl : la = none → ln = 0 ∧ lc = 0) (h1 : tn * 24 ≤ 140737488355328) (h2 : nn * 16 ≤ 140737488355328) (h3 : ln * 8 ≤ 140737488355328) (h4 : n * 40 ≤ 140737488355328) :
    Calls Tryz.prog 5 #[.agg #[.slice ta tn tc, .slice na nn nc, .slice la ln lc, .int .i64 st, .slice pa n pc]] w fun e w' => ∃ vt vn vl vp, e = .returned (.agg #[vt, vn, vl, .int .i64 st, vp]) ∧ GramNew w' w.heap.size (grOf ts ns lv st n L R V) vt vn vl vp ∧ w.grownBy w' none := by
  obtain ⟨iT, hiT, hT0, hT1, hT2⟩ := info_parts infoTerm
  obtain ⟨iS, hiS, hS0, hS1, hS2⟩ := info_parts infoStr
  obtain ⟨iI, hiI, hI0, hI1, hI2⟩ := info_parts infoInt
  obtain ⟨iP, hiP, hP0, hP1, hP2⟩ := info_parts infoProd
  have HG : Hid (GAt w ta na la pa tc nc lc pc ts ns lv n L R ra rc V) := hG
  have HNT : Hid (ta = none → tn = 0 ∧ tc = 0) := hnt
  have HNL : Hid (la = none → ln = 0 ∧ lc = 0) := hnl
  have HNN : Hid (na = none → nn = 0 ∧ nc = 0) := by have := hG.nnil; rw [hlen.2.1] at this; exact this
  have HLN : Hid (ts.length = tn ∧ ns.length = nn ∧ lv.length = ln) := hlen
  have HPB : Hid (∀ k, k < n → ∃ b off, pa = some ⟨b, off, none⟩ ∧ w.cell? ⟨b, off + k * 3, none⟩ = some (.int .i64 (L k)) ∧ w.cell? ⟨b, off + k * 3 + 1, none⟩ = some (.slice (ra k) (R k).length (rc k)) ∧ w.cell? ⟨b, off + k * 3 + 2, none⟩ = some (.int .i64 (V k)) ∧ IntsAt w (ra k) (R k) ∧ (ra k = none → rc k = 0) ∧ (R k).length ≤ 17592186044416) := by
    intro k hk
    rcases hG.prods with h | ⟨b, off, e, h⟩
    · omega
    · exact ⟨b, off, e, h k hk⟩
  have HSL1 : Hid ((tmsL ts).length = tn * 2) := by show _ = _; rw [tms_cells_len, hlen.1]
  have HSL2 : Hid ((ns.map Value.string).length = nn * 1) := by show _ = _; rw [List.length_map, hlen.2.1, Nat.mul_one]
  have HSL3 : Hid ((lv.map (Value.int .i64)).length = ln * 1) := by show _ = _; rw [List.length_map, hlen.2.2, Nat.mul_one]
  have HC0 : Hid (CpAt w (((w.alloc (.cells #[.slice ta tn tc, .slice na nn nc, .slice la ln lc, .int .i64 st, .slice pa n pc] 27)).alloc (.cells #[.slice none 0 0, .slice none 0 0, .slice none 0 0, .int .i64 0, .slice none 0 0] 27)).alloc (.cells #[.slice none 0 0, .slice none 0 0, .slice none 0 0, .int .i64 st, .slice none 0 0] 27)) w.heap.size #[.slice ta tn tc, .slice na nn nc, .slice la ln lc, .int .i64 st, .slice pa n pc] #[.slice none 0 0, .slice none 0 0, .slice none 0 0, .int .i64 st, .slice none 0 0]) := by
    have g1 := World.grownBy_alloc w (.cells #[.slice ta tn tc, .slice na nn nc, .slice la ln lc, .int .i64 st, .slice pa n pc] 27) none
    have b1 := heap_alloc_last w (.cells #[.slice ta tn tc, .slice na nn nc, .slice la ln lc, .int .i64 st, .slice pa n pc] 27)
    have g2 := World.grownBy_alloc (w.alloc (.cells #[.slice ta tn tc, .slice na nn nc, .slice la ln lc, .int .i64 st, .slice pa n pc] 27)) (.cells #[.slice none 0 0, .slice none 0 0, .slice none 0 0, .int .i64 0, .slice none 0 0] 27) none
    have b2 := heap_alloc_last (w.alloc (.cells #[.slice ta tn tc, .slice na nn nc, .slice la ln lc, .int .i64 st, .slice pa n pc] 27)) (.cells #[.slice none 0 0, .slice none 0 0, .slice none 0 0, .int .i64 0, .slice none 0 0] 27)
    have g3 := World.grownBy_alloc ((w.alloc (.cells #[.slice ta tn tc, .slice na nn nc, .slice la ln lc, .int .i64 st, .slice pa n pc] 27)).alloc (.cells #[.slice none 0 0, .slice none 0 0, .slice none 0 0, .int .i64 0, .slice none 0 0] 27)) (.cells #[.slice none 0 0, .slice none 0 0, .slice none 0 0, .int .i64 st, .slice none 0 0] 27) none
    have b3 := heap_alloc_last ((w.alloc (.cells #[.slice ta tn tc, .slice na nn nc, .slice la ln lc, .int .i64 st, .slice pa n pc] 27)).alloc (.cells #[.slice none 0 0, .slice none 0 0, .slice none 0 0, .int .i64 0, .slice none 0 0] 27)) (.cells #[.slice none 0 0, .slice none 0 0, .slice none 0 0, .int .i64 st, .slice none 0 0] 27)
    rw [World.size_alloc] at b2
    rw [World.size_alloc, World.size_alloc] at b3
    have b1' := (g2.block _ (Array.getElem?_eq_some_iff.1 b1).1 (by simp)).trans b1
    exact ⟨grown_trans g1 (grown_trans g2 g3), Nat.le_refl _, (g3.block _ (Array.getElem?_eq_some_iff.1 b1').1 (by simp)).trans b1', (g3.block _ (Array.getElem?_eq_some_iff.1 b2).1 (by simp)).trans b2, b3⟩
  have HF1 : Hid (∀ X v1 wA, CpAt w X w.heap.size #[.slice ta tn tc, .slice na nn nc, .slice la ln lc, .int .i64 st, .slice pa n pc] #[.slice none 0 0, .slice none 0 0, .slice none 0 0, .int .i64 st, .slice none 0 0] → wA.ownsRow (w.heap.size + 1 + 1 + 1) 63 2 v1 (0 + tn) ([] ++ tmsL ts) → X.grownBy wA none → ∃ a c, v1 = .slice a tn c ∧ CpAt w wA w.heap.size #[.slice ta tn tc, .slice na nn nc, .slice la ln lc, .int .i64 st, .slice pa n pc] #[.slice none 0 0, .slice none 0 0, .slice none 0 0, .int .i64 st, .slice none 0 0] ∧ CpAt w (wA.setCell ⟨w.heap.size + 1 + 1, 0, none⟩ (.slice a tn c)) w.heap.size #[.slice ta tn tc, .slice na nn nc, .slice la ln lc, .int .i64 st, .slice pa n pc] #[.slice a tn c, .slice none 0 0, .slice none 0 0, .int .i64 st, .slice none 0 0] ∧ (wA.setCell ⟨w.heap.size + 1 + 1, 0, none⟩ (.slice a tn c)).ownsRow (w.heap.size + 1 + 1 + 1) 63 2 (.slice a tn c) tn (tmsL ts)) := by
    intro X v1 wA hC ho hg
    rw [List.nil_append, Nat.zero_add] at ho
    obtain ⟨a, c, rfl⟩ := owns_slice ho
    exact ⟨a, c, rfl, hC.kept hg, (hC.kept hg).store 0 _, owns_box ho⟩
  have HF2 : Hid (∀ X v1 wA a1 c1, CpAt w X w.heap.size #[.slice ta tn tc, .slice na nn nc, .slice la ln lc, .int .i64 st, .slice pa n pc] #[.slice a1 tn c1, .slice none 0 0, .slice none 0 0, .int .i64 st, .slice none 0 0] → X.ownsRow (w.heap.size + 1 + 1 + 1) 63 2 (.slice a1 tn c1) tn (tmsL ts) → wA.ownsRow (w.heap.size + 1 + 1 + 1) 9 1 v1 (0 + nn) ([] ++ ns.map Value.string) → X.grownBy wA none → ∃ a c, v1 = .slice a nn c ∧ CpAt w wA w.heap.size #[.slice ta tn tc, .slice na nn nc, .slice la ln lc, .int .i64 st, .slice pa n pc] #[.slice a1 tn c1, .slice none 0 0, .slice none 0 0, .int .i64 st, .slice none 0 0] ∧ CpAt w (wA.setCell ⟨w.heap.size + 1 + 1, 1, none⟩ (.slice a nn c)) w.heap.size #[.slice ta tn tc, .slice na nn nc, .slice la ln lc, .int .i64 st, .slice pa n pc] #[.slice a1 tn c1, .slice a nn c, .slice none 0 0, .int .i64 st, .slice none 0 0] ∧ (wA.setCell ⟨w.heap.size + 1 + 1, 1, none⟩ (.slice a nn c)).ownsRow (w.heap.size + 1 + 1 + 1) 63 2 (.slice a1 tn c1) tn (tmsL ts) ∧ (wA.setCell ⟨w.heap.size + 1 + 1, 1, none⟩ (.slice a nn c)).ownsRow (w.heap.size + 1 + 1 + 1) 9 1 (.slice a nn c) nn (ns.map Value.string)) := by
    intro X v1 wA a1 c1 hC hT ho hg
    rw [List.nil_append, Nat.zero_add] at ho
    obtain ⟨a, c, rfl⟩ := owns_slice ho
    exact ⟨a, c, rfl, hC.kept hg, (hC.kept hg).store 1 _, owns_box (keep0 hT hg), owns_box ho⟩
  have HF3 : Hid (∀ X v1 wA a1 c1 a2 c2, CpAt w X w.heap.size #[.slice ta tn tc, .slice na nn nc, .slice la ln lc, .int .i64 st, .slice pa n pc] #[.slice a1 tn c1, .slice a2 nn c2, .slice none 0 0, .int .i64 st, .slice none 0 0] → X.ownsRow (w.heap.size + 1 + 1 + 1) 63 2 (.slice a1 tn c1) tn (tmsL ts) → X.ownsRow (w.heap.size + 1 + 1 + 1) 9 1 (.slice a2 nn c2) nn (ns.map Value.string) → wA.ownsRow (w.heap.size + 1 + 1 + 1) 3 1 v1 (0 + ln) ([] ++ lv.map (Value.int .i64)) → X.grownBy wA none → ∃ a c, v1 = .slice a ln c ∧ CpAt w wA w.heap.size #[.slice ta tn tc, .slice na nn nc, .slice la ln lc, .int .i64 st, .slice pa n pc] #[.slice a1 tn c1, .slice a2 nn c2, .slice none 0 0, .int .i64 st, .slice none 0 0] ∧ CpAt w (wA.setCell ⟨w.heap.size + 1 + 1, 2, none⟩ (.slice a ln c)) w.heap.size #[.slice ta tn tc, .slice na nn nc, .slice la ln lc, .int .i64 st, .slice pa n pc] #[.slice a1 tn c1, .slice a2 nn c2, .slice a ln c, .int .i64 st, .slice none 0 0] ∧ (wA.setCell ⟨w.heap.size + 1 + 1, 2, none⟩ (.slice a ln c)).ownsRow (w.heap.size + 1 + 1 + 1) 63 2 (.slice a1 tn c1) tn (tmsL ts) ∧ (wA.setCell ⟨w.heap.size + 1 + 1, 2, none⟩ (.slice a ln c)).ownsRow (w.heap.size + 1 + 1 + 1) 9 1 (.slice a2 nn c2) nn (ns.map Value.string) ∧ (wA.setCell ⟨w.heap.size + 1 + 1, 2, none⟩ (.slice a ln c)).ownsRow (w.heap.size + 1 + 1 + 1) 3 1 (.slice a ln c) ln (lv.map (Value.int .i64))) := by
    intro X v1 wA a1 c1 a2 c2 hC hT hS ho hg
    rw [List.nil_append, Nat.zero_add] at ho
    obtain ⟨a, c, rfl⟩ := owns_slice ho
    exact ⟨a, c, rfl, hC.kept hg, (hC.kept hg).store 2 _, owns_box (keep0 hT hg), owns_box (keep0 hS hg), owns_box ho⟩
  clear hG hnt hnl hlen
  go_enter Tryz.func5, Tryz.ntmps5
  go_wp2_with (first
    | (at_builtin; refine wpList_append_src rfl (.tmp 10) (.tmp 12) 22 rfl (w.heap.size + 1 + 1 + 1) 63 iT (.agg #[.string ⟨#[]⟩, .int .i64 0]) 2 24 Tryz.underlying22 hiT hT0 hT1 hT2 rfl (by decide) (.slice none 0 0) 0 [] rfl (World.ownsRow_nil _ _ _ _) ta tn tc (tmsL ts) rfl HNT.out HSL1.out (terms_cells (HG.out.kept HC0.out.grown).terms) (tms_one ts) (by unfold maxLen; omega) (by omega) (by have := HC0.out.lt; omega) ?_; intro v1 wA hoA hgA; obtain ⟨a1, c1, rfl, hA, hA', hR1⟩ := HF1.out _ _ _ HC0.out hoA hgA; have HA1 : Hid (CpAt w (wA.setCell ⟨w.heap.size + 1 + 1, 0, none⟩ (.slice a1 tn c1)) w.heap.size #[.slice ta tn tc, .slice na nn nc, .slice la ln lc, .int .i64 st, .slice pa n pc] #[.slice a1 tn c1, .slice none 0 0, .slice none 0 0, .int .i64 st, .slice none 0 0]) := hA'; have HR1 : Hid ((wA.setCell ⟨w.heap.size + 1 + 1, 0, none⟩ (.slice a1 tn c1)).ownsRow (w.heap.size + 1 + 1 + 1) 63 2 (.slice a1 tn c1) tn (tmsL ts)) := hR1; have q0 := hA.x 0 _ rfl; have q1 := hA.x 1 _ rfl; have q2 := hA.xf 0; have q3 := hA.g 1 _ rfl; clear hoA hgA hA hA' hR1)
    | (at_builtin; refine wpList_append_src rfl (.tmp 16) (.tmp 18) 23 rfl (w.heap.size + 1 + 1 + 1) 9 iS (.string ByteArray.empty) 1 16 Tryz.underlying23 hiS hS0 hS1 hS2 rfl (by decide) (.slice none 0 0) 0 [] rfl (World.ownsRow_nil _ _ _ _) na nn nc (ns.map Value.string) rfl HNN.out HSL2.out (strs_cells (HG.out.kept HA1.out.grown).nons) (strs_one ns) (by unfold maxLen; omega) (by omega) (by have := HA1.out.lt; omega) ?_; intro v2 wB hoB hgB; obtain ⟨a2, c2, rfl, hB, hB', hR1, hR2⟩ := HF2.out _ _ _ _ _ HA1.out HR1.out hoB hgB; clear HR1 q0 q1 q2 q3; have HA2 : Hid (CpAt w (wB.setCell ⟨w.heap.size + 1 + 1, 1, none⟩ (.slice a2 nn c2)) w.heap.size #[.slice ta tn tc, .slice na nn nc, .slice la ln lc, .int .i64 st, .slice pa n pc] #[.slice a1 tn c1, .slice a2 nn c2, .slice none 0 0, .int .i64 st, .slice none 0 0]) := hB'; have HR1 : Hid ((wB.setCell ⟨w.heap.size + 1 + 1, 1, none⟩ (.slice a2 nn c2)).ownsRow (w.heap.size + 1 + 1 + 1) 63 2 (.slice a1 tn c1) tn (tmsL ts)) := hR1; have HR2 : Hid ((wB.setCell ⟨w.heap.size + 1 + 1, 1, none⟩ (.slice a2 nn c2)).ownsRow (w.heap.size + 1 + 1 + 1) 9 1 (.slice a2 nn c2) nn (ns.map Value.string)) := hR2; have q0 := hB.x 1 _ rfl; have q1 := hB.x 2 _ rfl; have q2 := hB.xf 1; have q3 := hB.g 2 _ rfl; clear hoB hgB hB hB' hR1 hR2)
    | (at_builtin; refine wpList_append_src rfl (.tmp 22) (.tmp 24) 24 rfl (w.heap.size + 1 + 1 + 1) 3 iI (.int .i64 0) 1 8 Tryz.underlying24 hiI hI0 hI1 hI2 rfl (by decide) (.slice none 0 0) 0 [] rfl (World.ownsRow_nil _ _ _ _) la ln lc (lv.map (Value.int .i64)) rfl HNL.out HSL3.out (ints_cells (HG.out.kept HA2.out.grown).levels) (ints_one lv) (by unfold maxLen; omega) (by omega) (by have := HA2.out.lt; omega) ?_; intro v3 wC hoC hgC; obtain ⟨a3, c3, rfl, hC, hC', hR1, hR2, hR3⟩ := HF3.out _ _ _ _ _ _ _ HA2.out HR1.out HR2.out hoC hgC; clear HR1 HR2 q0 q1 q2 q3; have HA3 : Hid (CpAt w (wC.setCell ⟨w.heap.size + 1 + 1, 2, none⟩ (.slice a3 ln c3)) w.heap.size #[.slice ta tn tc, .slice na nn nc, .slice la ln lc, .int .i64 st, .slice pa n pc] #[.slice a1 tn c1, .slice a2 nn c2, .slice a3 ln c3, .int .i64 st, .slice none 0 0]) := hC'; have HR1 : Hid ((wC.setCell ⟨w.heap.size + 1 + 1, 2, none⟩ (.slice a3 ln c3)).ownsRow (w.heap.size + 1 + 1 + 1) 63 2 (.slice a1 tn c1) tn (tmsL ts)) := hR1; have HR2 : Hid ((wC.setCell ⟨w.heap.size + 1 + 1, 2, none⟩ (.slice a3 ln c3)).ownsRow (w.heap.size + 1 + 1 + 1) 9 1 (.slice a2 nn c2) nn (ns.map Value.string)) := hR2; have HR3 : Hid ((wC.setCell ⟨w.heap.size + 1 + 1, 2, none⟩ (.slice a3 ln c3)).ownsRow (w.heap.size + 1 + 1 + 1) 3 1 (.slice a3 ln c3) ln (lv.map (Value.int .i64))) := hR3; have q0 := hC.x 2 _ rfl; have q2 := hC.xf 2; clear hoC hgC hC hC' hR1 hR2 hR3))
  have HR4 : Hid (CpRows (wC.setCell ⟨w.heap.size + 1 + 1, 2, none⟩ (.slice a3 ln c3)) (w.heap.size + 1 + 1 + 1) ts ns lv tn nn ln 0 L R V (.slice a1 tn c1) (.slice a2 nn c2) (.slice a3 ln c3) (.slice none 0 0) fun _ => undef) := ⟨HR1.out, HR2.out, HR3.out, World.ownsRow_nil _ _ _ _, fun i hi => absurd hi (Nat.not_lt_zero i)⟩
  clear HR1 HR2 HR3 q0 q2 HA1 HA2 HF1 HF2 HF3 HC0
  go_loopg [4, 5] n (fun gk i v5 wr => ∃ (k : Nat) (a4 : Option Addr) (c4 : Nat) (rg : Nat → Value), k ≤ n ∧ gk = n - k ∧ i = .int .i64 k ∧ CpAt w wr w.heap.size #[.slice ta tn tc, .slice na nn nc, .slice la ln lc, .int .i64 st, .slice pa n pc] #[.slice a1 tn c1, .slice a2 nn c2, .slice a3 ln c3, .int .i64 st, .slice a4 k c4] ∧ CpRows wr (w.heap.size + 1 + 1 + 1) ts ns lv tn nn ln k L R V (.slice a1 tn c1) (.slice a2 nn c2) (.slice a3 ln c3) (.slice a4 k c4) rg)
  case atStart => exact ⟨0, none, 0, _, Nat.zero_le _, rfl, rfl, HA3.out, HR4.out⟩
  case round =>
    obtain ⟨k, a4, c4, rg, hk, hgk, rfl, hA, hR⟩ := hrel
    have HGK : Hid (gk = n - k) := hgk
    have HA : Hid (CpAt w wr w.heap.size #[.slice ta tn tc, .slice na nn nc, .slice la ln lc, .int .i64 st, .slice pa n pc] #[.slice a1 tn c1, .slice a2 nn c2, .slice a3 ln c3, .int .i64 st, .slice a4 k c4]) := hA
    have HR : Hid (CpRows wr (w.heap.size + 1 + 1 + 1) ts ns lv tn nn ln k L R V (.slice a1 tn c1) (.slice a2 nn c2) (.slice a3 ln c3) (.slice a4 k c4) rg) := hR
    have m4 := hA.g 4 _ rfl
    clear hgk hA hR HA3 HR4
    by_cases hlt : k < n
    · obtain ⟨bp, op, rfl, p0, p1, p2, hI, hrn, hrl⟩ := HPB.out k hlt
      have d0 := HA.out.grown.cell p0 (by simp)
      have d1 := HA.out.grown.cell p1 (by simp)
      have d2 := HA.out.grown.cell p2 (by simp)
      have HI : Hid (IntsAt w (ra k) (R k)) := hI
      have HRN : Hid (ra k = none → rc k = 0) := hrn
      obtain ⟨len, hlen⟩ : ∃ x, x = (R k).length := ⟨_, rfl⟩
      obtain ⟨Lk, hLk⟩ : ∃ x, x = L k := ⟨_, rfl⟩
      obtain ⟨Vk, hVk⟩ : ∃ x, x = V k := ⟨_, rfl⟩
      have HLE : Hid (len = (R k).length) := hlen
      have HLK : Hid (Lk = L k) := hLk
      have HVK : Hid (Vk = V k) := hVk
      rw [← hlen] at d1 hrl
      rw [← hLk] at d0
      rw [← hVk] at d2
      have hi0 : (0 : Int) ≤ (k : Int) := by omega
      have hi1 : (k : Int) < (n : Int) := by omega
      have HKP : Hid (wr.drew.cell? ⟨w.heap.size, 4, none⟩ = some (.slice (some ⟨bp, op, none⟩) n pc) ∧ wr.drew.cell? ⟨bp, op + k * 3, none⟩ = some (.int .i64 Lk) ∧ wr.drew.cell? ⟨bp, op + k * 3 + 2, none⟩ = some (.int .i64 Vk)) := ⟨m4, d0, d2⟩
      clear p0 p1 p2 hI hrn hlen hLk hVk
      go_wp2_with fail
      go_region_held3 (fun w' => w'.cell? ⟨w.heap.size, 4, none⟩ = some (.slice (some ⟨bp, op, none⟩) n pc) ∧ w'.cell? ⟨bp, op + k * 3, none⟩ = some (.int .i64 Lk) ∧ w'.cell? ⟨bp, op + k * 3 + 2, none⟩ = some (.int .i64 Vk)) (first | exact HKP.out | go_keep) (fail)
      go_wp2_with fail
      obtain ⟨Z, hZ⟩ : ∃ Z, Z = wr.heap.size := ⟨_, rfl⟩
      obtain ⟨X1, hX1⟩ : ∃ X1, X1 = (wr.alloc (.cells #[.int .i64 Lk, .slice none 0 0, .int .i64 Vk] 46)).drew := ⟨_, rfl⟩
      have hXZ : X1.drew.heap[Z]? = some (.cells #[.int .i64 Lk, .slice none 0 0, .int .i64 Vk] 46 (0, 0)) := by rw [hX1, hZ]; exact heap_alloc_last wr _
      have HX1 : Hid (wr.grownBy X1.drew none) := by rw [hX1]; exact grown_trans (World.grownBy_alloc wr _ none) (grown_drewN _ 2)
      have e1 := HX1.out.cell m4 (by simp)
      have e2 := HX1.out.cell d1 (by simp)
      have e3 : X1.drew.cell? ⟨Z, 1, none⟩ = some (.slice none 0 0) := by rw [cell_of_row _ _ _ _ _ _ hXZ]; rfl
      have HSRC : Hid (∀ ad, ra k = some ad → ∀ j u, ((R k).map (Value.int .i64))[j]? = some u → X1.drew.cell? (ad.add j) = some u) := ints_cells (HI.out.kept (grown_trans HA.out.grown HX1.out))
      have HSL : Hid (((R k).map (Value.int .i64)).length = len * 1) := by show _ = _; rw [List.length_map, HLE.out, Nat.mul_one]
      have HNIL : Hid (ra k = none → len = 0 ∧ rc k = 0) := by
        intro h
        refine ⟨?_, HRN.out h⟩
        rcases HI.out with h0 | ⟨b, off, e, _⟩
        · rw [HLE.out, h0]; rfl
        · rw [h] at e; cases e
      have HBS : Hid (w.heap.size + 1 + 1 + 1 ≤ X1.drew.heap.size) := by show _ ≤ _; have := HA.out.lt; have := HX1.out.size; omega
      have HFIN : Hid (∀ v5 wA, wA.ownsRow (w.heap.size + 1 + 1 + 1) 3 1 v5 (0 + len) ([] ++ (R k).map (Value.int .i64)) → X1.drew.grownBy wA none → ∃ a c, v5 = .slice a len c ∧ wA.cell? ⟨Z, 1, none⟩ = some (.slice none 0 0) ∧ wA.frozen? ⟨Z, 1, none⟩ = false ∧ wr.grownBy (wA.setCell ⟨Z, 1, none⟩ (.slice a len c)) none ∧ (wA.setCell ⟨Z, 1, none⟩ (.slice a len c)).heap[Z]? = some (.cells #[.int .i64 Lk, .slice a len c, .int .i64 Vk] 46 (0, 0)) ∧ (wA.setCell ⟨Z, 1, none⟩ (.slice a len c)).ownsRow (w.heap.size + 1 + 1 + 1) 3 1 (.slice a len c) len ((R k).map (Value.int .i64))) := by
        intro v5 wA ho hg
        rw [List.nil_append, Nat.zero_add] at ho
        obtain ⟨a, c, rfl⟩ := owns_slice ho
        have hbz := (hg.block Z (Array.getElem?_eq_some_iff.1 hXZ).1 (by simp)).trans hXZ
        refine ⟨a, c, rfl, by rw [cell_of_row _ _ _ _ _ _ hbz]; rfl, frozen_of_row _ _ _ _ _ hbz, grown_new (grown_trans HX1.out hg) (grown_setCell _ _ _) (by omega), heap_setCell_same wA Z 1 _ _ _ hbz, ?_⟩
        exact ho.kept (grown_setCell Z 1 _) (owns_nebox ho hbz (by decide))
      rw [← hZ, ← hX1]
      clear hX1 hXZ hZ d0 d1 d2 m4 HKP HI HRN
      go_cut [] from 47 to 56 (fun wx => ∃ a c, wr.grownBy wx none ∧ wx.heap[Z]? = some (.cells #[.int .i64 Lk, .slice a len c, .int .i64 Vk] 46 (0, 0)) ∧ wx.ownsRow (w.heap.size + 1 + 1 + 1) 3 1 (.slice a len c) len ((R k).map (Value.int .i64)))
      case first =>
        go_region_law ((refine step_append_src rfl (.tmp 48) (.tmp 54) 24 rfl (w.heap.size + 1 + 1 + 1) 3 iI (.int .i64 0) 1 8 Tryz.underlying24 hiI hI0 hI1 hI2 rfl (by decide) (.slice none 0 0) 0 [] (by simp [Act.eval]) (World.ownsRow_nil _ _ _ _) (ra k) len (rc k) ((R k).map (Value.int .i64)) (by simp [Act.eval]) HNIL.out HSL.out HSRC.out (ints_one (R k)) (by unfold maxLen; omega) (by omega) HBS.out ?_; intro v5 wA hoA hgA; obtain ⟨a5, c5, rfl, y1, y2, y3⟩ := HFIN.out v5 wA hoA hgA; have HY : Hid (wr.grownBy (wA.setCell ⟨Z, 1, none⟩ (.slice a5 len c5)) none ∧ (wA.setCell ⟨Z, 1, none⟩ (.slice a5 len c5)).heap[Z]? = some (.cells #[.int .i64 Lk, .slice a5 len c5, .int .i64 Vk] 46 (0, 0)) ∧ (wA.setCell ⟨Z, 1, none⟩ (.slice a5 len c5)).ownsRow (w.heap.size + 1 + 1 + 1) 3 1 (.slice a5 len c5) len ((R k).map (Value.int .i64))) := y3; clear y3))
        all_goals go_wp2_with fail
        all_goals go_meet
        all_goals exact ⟨a5, c5, HY.out⟩
      case rest =>
        obtain ⟨a5, c5, hW, hWZ, hWo⟩ := hcut
        have HW : Hid (wr.grownBy wc none) := hW
        have HWZ : Hid (wc.heap[Z]? = some (.cells #[.int .i64 Lk, .slice a5 len c5, .int .i64 Vk] 46 (0, 0))) := hWZ
        have HWO : Hid (wc.ownsRow (w.heap.size + 1 + 1 + 1) 3 1 (.slice a5 len c5) len ((R k).map (Value.int .i64))) := hWo
        have z0 : wc.cell? ⟨Z, 0, none⟩ = some (.int .i64 Lk) := by rw [cell_of_row _ _ _ _ _ _ hWZ]; rfl
        have z1 : wc.cell? ⟨Z, 1, none⟩ = some (.slice a5 len c5) := by rw [cell_of_row _ _ _ _ _ _ hWZ]; rfl
        have z2 : wc.cell? ⟨Z, 2, none⟩ = some (.int .i64 Vk) := by rw [cell_of_row _ _ _ _ _ _ hWZ]; rfl
        have x4 := (HA.out.kept hW).x 4 _ rfl
        have HRW : Hid (CpRows wc (w.heap.size + 1 + 1 + 1) ts ns lv tn nn ln k L R V (.slice a1 tn c1) (.slice a2 nn c2) (.slice a3 ln c3) (.slice a4 k c4) rg) := HR.out.kept hW
        have HAW : Hid (CpAt w wc w.heap.size _ #[.slice a1 tn c1, .slice a2 nn c2, .slice a3 ln c3, .int .i64 st, .slice a4 k c4]) := HA.out.kept hW
        have hzz := HAW.out.lt
        clear hW hWZ hWo HFIN HSRC HSL HNIL HBS HX1 e1 e2 e3 HR HA
        go_wp2_with (at_builtin; refine wpList_append_src rfl (.tmp 58) (.tmp 60) 25 rfl (w.heap.size + 1 + 1 + 1) 46 iP (.agg #[.int .i64 0, .slice none 0 0, .int .i64 0]) 3 40 Tryz.underlying25 hiP hP0 hP1 hP2 rfl (by decide) (.slice a4 k c4) k (prodRow k L rg V) rfl (keep0 HRW.out.p (World.grownBy_alloc _ _ none)) (some ⟨wc.heap.size, 0, none⟩) 1 1 [.int .i64 Lk, .slice a5 len c5, .int .i64 Vk] rfl (fun h => by cases h) rfl (fun ad e => by cases e; exact news_new wc _ _) (by simp [Value.oneCell']) (by unfold maxLen; omega) (by omega) (by simp; omega) ?_; intro v6 wB hoB hgB; have HOB := show Hid _ from hoB; have HGB := show Hid _ from hgB; obtain ⟨a6, c6, rfl⟩ := owns_slice hoB; have y0 := ((HAW.out.kept (World.grownBy_alloc _ _ none)).row (keep0 HRW.out.p (World.grownBy_alloc _ _ none)) hgB).x 4 _ rfl; have y1 := ((HAW.out.kept (World.grownBy_alloc _ _ none)).row (keep0 HRW.out.p (World.grownBy_alloc _ _ none)) hgB).xf 4; clear hoB hgB)
        go_roundg (n - (k + 1))
        case measure => have := HGK.out; omega
        case rel =>
          rw [HLK.out, HVK.out] at HOB HGB
          have hob := HOB.out
          have hgb := HGB.out
          have hwo := HWO.out
          rw [HLE.out] at hwo hob hgb
          have hAl := World.grownBy_alloc wc (.cells #[.int .i64 (L k), .slice a5 (R k).length c5, .int .i64 (V k)] 46) none
          exact ⟨k + 1, a6, c6, _, by omega, rfl, by go_num, ((HAW.out.kept hAl).row (keep0 HRW.out.p hAl) hgb).store 4 _, ((HRW.out.kept hAl).push (keep0 hwo hAl) hob hgb).box⟩
    · obtain rfl : n = k := by omega
      obtain ⟨r0, r1, r2, r3, r4⟩ : wr.cell? ⟨w.heap.size + 1 + 1, 0, none⟩ = some (.slice a1 tn c1) ∧ wr.cell? ⟨w.heap.size + 1 + 1, 1, none⟩ = some (.slice a2 nn c2) ∧ wr.cell? ⟨w.heap.size + 1 + 1, 2, none⟩ = some (.slice a3 ln c3) ∧ wr.cell? ⟨w.heap.size + 1 + 1, 3, none⟩ = some (.int .i64 st) ∧ wr.cell? ⟨w.heap.size + 1 + 1, 4, none⟩ = some (.slice a4 n c4) := ⟨HA.out.x 0 _ rfl, HA.out.x 1 _ rfl, HA.out.x 2 _ rfl, HA.out.x 3 _ rfl, HA.out.x 4 _ rfl⟩
      obtain ⟨s0, s1, s2, s3, s4⟩ : wr.cell? ⟨w.heap.size + 1, 0, none⟩ = some (.slice none 0 0) ∧ wr.cell? ⟨w.heap.size + 1, 1, none⟩ = some (.slice none 0 0) ∧ wr.cell? ⟨w.heap.size + 1, 2, none⟩ = some (.slice none 0 0) ∧ wr.cell? ⟨w.heap.size + 1, 3, none⟩ = some (.int .i64 0) ∧ wr.cell? ⟨w.heap.size + 1, 4, none⟩ = some (.slice none 0 0) := by
        refine ⟨?_, ?_, ?_, ?_, ?_⟩ <;> rw [cell_of_row _ _ _ _ _ _ HA.out.rbox] <;> rfl
      have sf : ∀ j, wr.frozen? ⟨w.heap.size + 1, j, none⟩ = false := fun j => frozen_of_row _ _ _ _ _ HA.out.rbox
      have hst := set5_grown wr (w.heap.size + 1) (.slice a1 tn c1) (.slice a2 nn c2) (.slice a3 ln c3) (.int .i64 st) (.slice a4 n c4)
      have hF3 := set5_heap HA.out.rbox (.slice a1 tn c1) (.slice a2 nn c2) (.slice a3 ln c3) (.int .i64 st) (.slice a4 n c4)
      have HST := show Hid _ from hst
      have HF3 := show Hid _ from hF3
      clear hst hF3
      go_wp2_with fail
      refine bodyPost_ret (v := .agg #[.slice a1 tn c1, .slice a2 nn c2, .slice a3 ln c3, .int .i64 st, .slice a4 n c4]) ?_ rfl ?_
      · exact results_rcopy _ _ (w.heap.size + 1) _ rfl HF3.out rfl
      · have hT' := HR.out.t
        have hN' := HR.out.s
        have hL' := HR.out.l
        rw [← HLN.out.1] at hT' ⊢
        rw [← HLN.out.2.1] at hN' ⊢
        rw [← HLN.out.2.2] at hL' ⊢
        have hst := HST.out
        rw [← HLN.out.1, ← HLN.out.2.1, ← HLN.out.2.2] at hst
        exact ⟨_, _, _, _, rfl, copy_fin (k := w.heap.size + 1) (by omega) (owns_lower hT' (by omega)) (owns_lower hN' (by omega)) (owns_lower hL' (by omega)) ⟨owns_lower HR.out.p (by omega), fun i hi => owns_lower (HR.out.rr i hi) (by omega)⟩ hst, grown_new HA.out.grown hst (by omega)⟩

end Go.Proofs.YtckgjolaoifgkaaGreat

/-
  The document's Copy, told as a grammar that can be read.
-/
namespace Go.Proofs.YtckgjolaoifgkaaGreat
open Go.RowKit Go.Maps Go.Shelf

theorem prods_new {w : World} {B n pc : Nat} {pa : Option Addr} {L V : Nat → Int} {R : Nat → List Int} {rg : Nat → Value} (hp : w.ownsRow B 46 3 (.slice pa n pc) n (prodRow n L rg V)) (hr : ∀ i, i < n → w.ownsRow B 3 1 (rg i) (R i).length ((R i).map (Value.int .i64))) (h5 : ∀ i, i < n → (R i).length ≤ 17592186044416) :
    ∃ ra rc, ProdsAt w pa n L R ra rc V ∧ ∀ i, i < n → (R i).length ≤ rc i := by
  have hI : ∀ k, ∃ x : Option Addr × Nat, k < n → rg k = .slice x.1 (R k).length x.2 ∧ IntsAt w x.1 (R k) ∧ (x.1 = none → x.2 = 0) ∧ (R k).length ≤ x.2 := fun k => by
    by_cases hk : k < n
    · obtain ⟨a, c, hv⟩ := owns_slice (hr k hk)
      have h0 := hr k hk
      rw [hv] at h0
      obtain ⟨h1, h2⟩ := owns_bounds h0
      exact ⟨(a, c), fun _ => ⟨hv, owns_intsAt h0 rfl, fun h => (h2 h).2, h1⟩⟩
    · exact ⟨(none, 0), fun h => absurd h hk⟩
  refine ⟨fun k => (Classical.choose (hI k)).1, fun k => (Classical.choose (hI k)).2, ?_, fun i hi => (Classical.choose_spec (hI i) hi).2.2.2⟩
  by_cases h0 : n = 0
  · exact .inl h0
  · rcases hp.2 with ⟨_, hz⟩ | ⟨g, cap, cur, hv, _, hc, _⟩
    · exact absurd hz h0
    · simp at hv
      obtain ⟨rfl, rfl⟩ := hv
      refine .inr ⟨g, 0, rfl, fun k hk => ?_⟩
      obtain ⟨e1, e2, e3, _⟩ := Classical.choose_spec (hI k) hk
      have c0 := prodRow_at L rg V n k hk 0 (by omega)
      have c1 := prodRow_at L rg V n k hk 1 (by omega)
      have c2 := prodRow_at L rg V n k hk 2 (by omega)
      rw [e1] at c1
      have cell := fun j u hu => World.ownsRow.cells hp (g := g) rfl j u hu
      have d0 := cell (k * 3) _ c0
      have d1 := cell (k * 3 + 1) _ c1
      have d2 := cell (k * 3 + 2) _ c2
      rw [Addr.add_mid] at d0 d1 d2
      rw [Nat.zero_add]
      rw [Nat.zero_add] at d0 d1 d2
      exact ⟨d0, d1, d2, e2, e3, h5 k hk⟩

theorem ProdsAt.ext {w : World} {pa : Option Addr} {n : Nat} {L L' V V' : Nat → Int} {R R' : Nat → List Int} {ra : Nat → Option Addr} {rc : Nat → Nat} (h : ProdsAt w pa n L R ra rc V) (h1 : ∀ i, i < n → L i = L' i) (h2 : ∀ i, i < n → R i = R' i) (h3 : ∀ i, i < n → V i = V' i) : ProdsAt w pa n L' R' ra rc V' := by
  rcases h with h | ⟨b, off, e, hc⟩
  · exact .inl h
  · refine .inr ⟨b, off, e, fun k hk => ?_⟩
    rw [← h1 k hk, ← h2 k hk, ← h3 k hk]
    exact hc k hk

theorem GramNew.read {w : World} {B n : Nat} {ts : List (ByteArray × Int)} {ns : List ByteArray} {lv : List Int} {st : Int} {L : Nat → Int} {R : Nat → List Int} {V : Nat → Int} {vt vn vl vp : Value} (h : GramNew w B (grOf ts ns lv st n L R V) vt vn vl vp) (h1 : ts.length ≤ 17592186044416) (h2 : ns.length ≤ 17592186044416) (h3 : lv.length ≤ 17592186044416) (h4 : n ≤ 17592186044416) (h5 : ∀ i, i < n → (R i).length ≤ 17592186044416) :
    ∃ ta na la pa tc nc lc pc ra rc, vt = .slice ta ts.length tc ∧ vn = .slice na ns.length nc ∧ vl = .slice la lv.length lc ∧ vp = .slice pa n pc ∧ GAt w ta na la pa tc nc lc pc ts ns lv n L R ra rc V ∧ (∀ i, i < n → (R i).length ≤ rc i) ∧ (ta = none → ts.length = 0 ∧ tc = 0) ∧ (la = none → lv.length = 0 ∧ lc = 0) := by
  have e1 : (grOf ts ns lv st n L R V).terms = ts := rfl
  have e2 : (grOf ts ns lv st n L R V).nons = ns := rfl
  have e3 : (grOf ts ns lv st n L R V).levels = lv := rfl
  have hT := h.terms
  have hN := h.nons
  have hL := h.levels
  obtain ⟨rg, hp, hr⟩ := h.prods
  rw [grOf_len] at hp hr
  rw [e1] at hT
  rw [e2] at hN
  rw [e3] at hL
  obtain ⟨ta, tc, rfl⟩ := owns_slice hT
  obtain ⟨na, nc, rfl⟩ := owns_slice hN
  obtain ⟨la, lc, rfl⟩ := owns_slice hL
  obtain ⟨pa, pc, rfl⟩ := owns_slice hp
  obtain ⟨hT1, htc⟩ := owns_termsAt hT rfl
  obtain ⟨_, htn⟩ := owns_bounds hT
  obtain ⟨hnc, hnn⟩ := owns_bounds hN
  obtain ⟨_, hln⟩ := owns_bounds hL
  obtain ⟨hpc, hpn⟩ := owns_bounds hp
  obtain ⟨ra, rc, hP, hrc⟩ := prods_new hp hr (fun i hi => by rw [grOf_at _ _ _ _ _ _ _ _ hi]; exact h5 i hi)
  refine ⟨ta, na, la, pa, tc, nc, lc, pc, ra, rc, rfl, rfl, rfl, rfl, ⟨hT1, StrsIn.strsAt (v := .slice na ns.length nc) (owns_base hN) rfl, owns_intsAt hL rfl, hP.ext (fun i hi => by rw [grOf_at _ _ _ _ _ _ _ _ hi]) (fun i hi => by rw [grOf_at _ _ _ _ _ _ _ _ hi]) (fun i hi => by rw [grOf_at _ _ _ _ _ _ _ _ hi]), htc, hnc, hpc, hnn, hpn, h1, h2, h3, h4⟩, fun i hi => ?_, htn, hln⟩
  have := hrc i hi
  rw [grOf_at _ _ _ _ _ _ _ _ hi] at this
  exact this

theorem rcopy_any (ta na la pa : Option Addr) (tn nn ln n tc nc lc pc : Nat) (st : Int) (ts : List (ByteArray × Int)) (ns : List ByteArray) (lv : List Int) (L : Nat → Int) (R : Nat → List Int) (ra : Nat → Option Addr) (rc : Nat → Nat) (V : Nat → Int) (w : World) (hlen : ts.length = tn ∧ ns.length = nn ∧ lv.length = ln)
    (hG : GAt w ta na la pa tc nc lc pc ts ns lv n L R ra rc V) (hnt : ta = none → tn = 0 ∧ tc = 0) (hnl : la = none → ln = 0 ∧ lc = 0) (h1 : tn * 24 ≤ 140737488355328) (h2 : nn * 16 ≤ 140737488355328) (h4 : n * 40 ≤ 140737488355328) :
    Calls Tryz.prog 5 #[.agg #[.slice ta tn tc, .slice na nn nc, .slice la ln lc, .int .i64 st, .slice pa n pc]] w fun e w' => ∃ ta' na' la' pa' tc' nc' lc' pc' ra' rc', e = .returned (.agg #[.slice ta' tn tc', .slice na' nn nc', .slice la' ln lc', .int .i64 st, .slice pa' n pc']) ∧ GAt w' ta' na' la' pa' tc' nc' lc' pc' ts ns lv n L R ra' rc' V ∧ (∀ i, i < n → (R i).length ≤ rc' i) ∧ (ta' = none → tn = 0 ∧ tc' = 0) ∧ (la' = none → ln = 0 ∧ lc' = 0) ∧ w.grownBy w' none := by
  refine (rcopy_core ta na la pa tn nn ln n tc nc lc pc st ts ns lv L R ra rc V w hlen hG hnt hnl h1 h2 (by have := hG.llen; rw [hlen.2.2] at this; omega) h4).mono ?_
  rintro e w' ⟨vt, vn, vl, vp, rfl, hN, hg⟩
  obtain ⟨ta', na', la', pa', tc', nc', lc', pc', ra', rc', rfl, rfl, rfl, rfl, hG', hrc, hn1, hn2⟩ := hN.read hG.tlen hG.nlen hG.llen hG.plen (fun i hi => by
    rcases hG.prods with h | ⟨b, off, e, h⟩
    · omega
    · exact (h i hi).2.2.2.2.2)
  obtain ⟨rfl, rfl, rfl⟩ := hlen
  exact ⟨ta', na', la', pa', tc', nc', lc', pc', ra', rc', rfl, hG', hrc, hn1, hn2, hg⟩

end Go.Proofs.YtckgjolaoifgkaaGreat
