import Derived.Test.YtckgjolaoifgkaaQndppiagaligb
import Derived.Deep.RegionHeld3

/-
  hasAdded of any grammar.
-/
namespace Go.Proofs.Ytckgjolaoifgkaa
open Go.RowKit Go.Maps Go.Shelf

/-- Are the first nonterminal and production 0 the added ones? -/
structure addedOK (ts : List (ByteArray × Int)) (ns : List ByteArray) (st : Int) (n : Nat) (L : Nat → Int) (R : Nat → List Int) (V : Nat → Int) : Prop where
  nn : 0 < ns.length
  name : ns.getD 0 ⟨#[]⟩ = ⟨#[]⟩
  pn : 0 < n
  left : L 0 = ts.length
  right : R 0 = [st]
  level : V 0 = 0

attribute [local go_sem] Oper.semAt_some

set_option maxRecDepth 100000 in
set_option maxHeartbeats 1000000 in
theorem hasAdded_look (bn on bp op : Nat) (ta la ra : Option Addr) (tn nn ln pn tc nc lc pc rc : Nat) (st L0 V0 : Int) (R0 : List Int) (w : World) (hn : w.cell? ⟨bn, on, none⟩ = some (.string ⟨#[]⟩)) (h0 : 0 < nn) (hp : 0 < pn)
    (p0 : w.cell? ⟨bp, op, none⟩ = some (.int .i64 L0)) (p1 : w.cell? ⟨bp, op + 1, none⟩ = some (.slice ra R0.length rc)) (p2 : w.cell? ⟨bp, op + 2, none⟩ = some (.int .i64 V0)) (hR : IntsAt w ra R0) (hRl : R0.length ≤ 17592186044416) (r : Bool) (hr : r = true ↔ (L0 = tn ∧ R0 = [st] ∧ V0 = 0)) :
    Calls Try.prog 21 #[.agg #[.slice ta tn tc, .slice (some ⟨bn, on, none⟩) nn nc, .slice la ln lc, .int .i64 st, .slice (some ⟨bp, op, none⟩) pn pc]] w fun e w' => e = .returned (.bool r) ∧ w.grownBy w' none := by
  have HSP : Hid (∀ W a, w.grownBy W none → IntsAt W a [st] → Calls Try.prog 25 #[.agg #[.int .i64 L0, .slice ra R0.length rc, .int .i64 V0], .agg #[.int .i64 tn, .slice a 1 1, .int .i64 0]] W fun e w' => e = .returned (.bool r) ∧ W.grownBy w' none) := fun W a hg ha =>
    sameProd_any L0 tn V0 0 ra a rc 1 R0 [st] W (hR.kept hg) ha hRl r hr
  have hd : decide (0 < (nn : Int)) = true := decide_eq_true (by omega)
  have hd' : decide (0 < nn) = true := decide_eq_true h0
  have hd2 : decide (0 < (pn : Int)) = true := decide_eq_true (by omega)
  have hd2' : decide (0 < pn) = true := decide_eq_true hp
  obtain ⟨W, hW⟩ : ∃ W, W = w.alloc (.cells #[.slice ta tn tc, .slice (some ⟨bn, on, none⟩) nn nc, .slice la ln lc, .int .i64 st, .slice (some ⟨bp, op, none⟩) pn pc] 27) := ⟨_, rfl⟩
  have HW := show Hid _ from hW
  have hgW : w.grownBy W none := by rw [hW]; exact World.grownBy_alloc w _ none
  have hbox : W.heap[w.heap.size]? = some (.cells #[.slice ta tn tc, .slice (some ⟨bn, on, none⟩) nn nc, .slice la ln lc, .int .i64 st, .slice (some ⟨bp, op, none⟩) pn pc] 27 (0, 0)) := by rw [hW]; exact heap_alloc_last w _
  have HGW := show Hid _ from hgW
  have b0 : W.cell? ⟨w.heap.size, 0, none⟩ = some (.slice ta tn tc) := by rw [cell_of_row _ _ _ _ _ _ hbox]; rfl
  have b1 : W.cell? ⟨w.heap.size, 1, none⟩ = some (.slice (some ⟨bn, on, none⟩) nn nc) := by rw [cell_of_row _ _ _ _ _ _ hbox]; rfl
  have b3 : W.cell? ⟨w.heap.size, 3, none⟩ = some (.int .i64 st) := by rw [cell_of_row _ _ _ _ _ _ hbox]; rfl
  have b4 : W.cell? ⟨w.heap.size, 4, none⟩ = some (.slice (some ⟨bp, op, none⟩) pn pc) := by rw [cell_of_row _ _ _ _ _ _ hbox]; rfl
  have n0 : W.cell? ⟨bn, on, none⟩ = some (.string ⟨#[]⟩) := hgW.cell hn (by simp)
  have q0 : W.cell? ⟨bp, op, none⟩ = some (.int .i64 L0) := hgW.cell p0 (by simp)
  have q1 : W.cell? ⟨bp, op + 1, none⟩ = some (.slice ra R0.length rc) := hgW.cell p1 (by simp)
  have q2 : W.cell? ⟨bp, op + 2, none⟩ = some (.int .i64 V0) := hgW.cell p2 (by simp)
  have hgA : W.grownBy (W.alloc (.cells #[.int .i64 st] 3)).drew none := grown_trans (World.grownBy_alloc W _ none) (grown_drewN _ 1)
  have HKP : Hid (∀ w1, (W.alloc (.cells #[.int .i64 st] 3)).drew.grownBy w1 none → w1.cell? ⟨w.heap.size, 0, none⟩ = some (.slice ta tn tc) ∧ w1.cell? ⟨w.heap.size, 1, none⟩ = some (.slice (some ⟨bn, on, none⟩) nn nc) ∧ w1.cell? ⟨w.heap.size, 3, none⟩ = some (.int .i64 st) ∧ w1.cell? ⟨w.heap.size, 4, none⟩ = some (.slice (some ⟨bp, op, none⟩) pn pc) ∧ w1.cell? ⟨bn, on, none⟩ = some (.string ⟨#[]⟩) ∧ w1.cell? ⟨bp, op, none⟩ = some (.int .i64 L0) ∧ w1.cell? ⟨bp, op + 1, none⟩ = some (.slice ra R0.length rc) ∧ w1.cell? ⟨bp, op + 2, none⟩ = some (.int .i64 V0)) := fun w1 h1 => by
    have hg := grown_trans hgA h1
    exact ⟨hg.cell b0 (by simp), hg.cell b1 (by simp), hg.cell b3 (by simp), hg.cell b4 (by simp), hg.cell n0 (by simp), hg.cell q0 (by simp), hg.cell q1 (by simp), hg.cell q2 (by simp)⟩
  have HC := show Hid _ from HSP.out (W.alloc (.cells #[.int .i64 st] 3)).drew (some ⟨W.heap.size, 0, none⟩) (grown_trans hgW hgA) (.inr ⟨W.heap.size, 0, rfl, fun i hi => by
    have : i = 0 := by simp at hi; omega
    subst this
    show (W.alloc (.cells #[.int .i64 st] 3)).cell? _ = _
    rw [cell_of_row _ _ _ _ _ _ (heap_alloc_last W _)]; rfl⟩)
  have HGA : Hid (w.grownBy (W.alloc (.cells #[.int .i64 st] 3)).drew none) := grown_trans hgW hgA
  clear hn p0 p1 p2 hR hr hW hgW hbox hgA HSP
  go_enter Try.func21, Try.ntmps21
  go_wp2_with fail
  rw [← HW.out]
  generalize w.heap.size = gb at *
  go_region_held3 (fun w' => w'.cell? ⟨gb, 0, none⟩ = some (.slice ta tn tc) ∧ w'.cell? ⟨gb, 1, none⟩ = some (.slice (some ⟨bn, on, none⟩) nn nc) ∧ w'.cell? ⟨gb, 3, none⟩ = some (.int .i64 st) ∧ w'.cell? ⟨gb, 4, none⟩ = some (.slice (some ⟨bp, op, none⟩) pn pc) ∧ w'.cell? ⟨bn, on, none⟩ = some (.string ⟨#[]⟩) ∧ w'.cell? ⟨bp, op, none⟩ = some (.int .i64 L0) ∧ w'.cell? ⟨bp, op + 1, none⟩ = some (.slice ra R0.length rc) ∧ w'.cell? ⟨bp, op + 2, none⟩ = some (.int .i64 V0)) (first | go_keep | exact HKP.out _ hg1) ((go_at_call 25; refine Calls.mono HC.out ?_; rintro e w1 ⟨rfl, hg1⟩))
  all_goals go_wp2_with fail
  all_goals go_ret
  all_goals exact ⟨rfl, grown_trans HGA.out (by first | exact hg1 | exact grown_trans hg1 (grown_drewN _ 1))⟩

set_option maxRecDepth 100000 in
set_option maxHeartbeats 1000000 in
theorem hasAdded_nons (ta na la pa : Option Addr) (tn ln pn tc nc lc pc : Nat) (st : Int) (w : World) :
    Calls Try.prog 21 #[.agg #[.slice ta tn tc, .slice na 0 nc, .slice la ln lc, .int .i64 st, .slice pa pn pc]] w fun e w' => e = .returned (.bool false) ∧ w.grownBy w' none := by
  go_enter Try.func21, Try.ntmps21
  go_wp2_with fail
  go_quiet (fail)
  go_wp2
  go_ret
  exact ⟨by first | rfl | simp, grown_trans (World.grownBy_alloc _ _ none) (grown_drewN _ _)⟩

set_option maxRecDepth 100000 in
set_option maxHeartbeats 1000000 in
theorem hasAdded_prods (bn on : Nat) (ta la pa : Option Addr) (tn nn ln tc nc lc pc : Nat) (st : Int) (w : World) (hn : w.cell? ⟨bn, on, none⟩ = some (.string ⟨#[]⟩)) (h0 : 0 < nn) :
    Calls Try.prog 21 #[.agg #[.slice ta tn tc, .slice (some ⟨bn, on, none⟩) nn nc, .slice la ln lc, .int .i64 st, .slice pa 0 pc]] w fun e w' => e = .returned (.bool false) ∧ w.grownBy w' none := by
  have hc' : ∀ o, (w.alloc o).cell? ⟨bn, on, none⟩ = some (.string ⟨#[]⟩) := fun o => (World.grownBy_alloc w o none).cell hn (by simp)
  have hc2 : ∀ o, (w.alloc o).drew.cell? ⟨bn, on, none⟩ = some (.string ⟨#[]⟩) := fun o => hc' o
  have hd : decide (0 < (nn : Int)) = true := decide_eq_true (by omega)
  have hd' : decide (0 < nn) = true := decide_eq_true h0
  clear hn
  go_enter Try.func21, Try.ntmps21
  go_wp2_with fail
  go_quiet (fail)
  go_wp2
  go_ret
  exact ⟨by first | rfl | simp, grown_trans (World.grownBy_alloc _ _ none) (grown_drewN _ _)⟩

theorem hasAdded_any {w : World} {ta na la pa : Option Addr} {tc nc lc pc : Nat} {ts : List (ByteArray × Int)} {ns : List ByteArray} {lv : List Int} {n : Nat} {L : Nat → Int} {R : Nat → List Int} {ra : Nat → Option Addr} {rc : Nat → Nat} {V : Nat → Int} (st : Int) (hG : GAt w ta na la pa tc nc lc pc ts ns lv n L R ra rc V) (r : Bool) (hr : r = true ↔ addedOK ts ns st n L R V) :
    Calls Try.prog 21 #[.agg #[.slice ta ts.length tc, .slice na ns.length nc, .slice la lv.length lc, .int .i64 st, .slice pa n pc]] w fun e w' => e = .returned (.bool r) ∧ w.grownBy w' none := by
  have no : ¬ addedOK ts ns st n L R V → r = false := fun h => Bool.eq_false_iff.2 fun hh => h (hr.1 hh)
  by_cases h0 : ns.length = 0
  · rw [no (fun h => by have := h.nn; omega), h0]
    exact hasAdded_nons ta na la pa _ _ _ _ _ _ _ st w
  · obtain ⟨bn, on, rfl, hns⟩ : ∃ b off, na = some ⟨b, off, none⟩ ∧ ∀ i, i < ns.length → w.cell? ⟨b, off + i, none⟩ = some (.string (ns.getD i ⟨#[]⟩)) := by
      rcases hG.nons with h | h
      · rw [h] at h0; simp at h0
      · exact h
    have hc := hns 0 (by omega)
    by_cases hs : ns.getD 0 ⟨#[]⟩ = ⟨#[]⟩
    · rw [hs] at hc
      by_cases hp : n = 0
      · subst hp
        rw [no (fun h => by have := h.pn; omega)]
        exact hasAdded_prods bn on ta la pa _ _ _ _ _ _ _ st w hc (by omega)
      · obtain ⟨bp, op, rfl, hps⟩ : ∃ b off, pa = some ⟨b, off, none⟩ ∧ ∀ k, k < n → w.cell? ⟨b, off + k * 3, none⟩ = some (.int .i64 (L k)) ∧ w.cell? ⟨b, off + k * 3 + 1, none⟩ = some (.slice (ra k) (R k).length (rc k)) ∧ w.cell? ⟨b, off + k * 3 + 2, none⟩ = some (.int .i64 (V k)) ∧ IntsAt w (ra k) (R k) ∧ (ra k = none → rc k = 0) ∧ (R k).length ≤ 17592186044416 := by
          rcases hG.prods with h | h
          · exact absurd h hp
          · exact h
        obtain ⟨p0, p1, p2, p3, _, p5⟩ := hps 0 (by omega)
        simp only [Nat.zero_mul, Nat.add_zero] at p0 p1 p2
        refine hasAdded_look bn on bp op ta la (ra 0) ts.length ns.length lv.length n tc nc lc pc (rc 0) st (L 0) (V 0) (R 0) w hc (by omega) (by omega) p0 p1 p2 p3 p5 r ?_
        rw [hr]
        exact ⟨fun h => ⟨h.left, h.right, h.level⟩, fun ⟨h1, h2, h3⟩ => ⟨by omega, hs, by omega, h1, h2, h3⟩⟩
    · rw [no (fun h => hs h.name)]
      refine hasAdded_no bn on ta la pa _ _ _ _ _ _ _ _ st (ns.getD 0 ⟨#[]⟩) w hc (by omega) ?_
      apply Nat.pos_of_ne_zero
      intro hz
      apply hs
      cases hh : ns.getD 0 ⟨#[]⟩ with
      | mk d =>
        rw [hh] at hz
        have : d.size = 0 := hz
        rw [Array.eq_empty_of_size_eq_zero this]

end Go.Proofs.Ytckgjolaoifgkaa

/-
  Closed, of any grammar: the program's and the document's.
-/
namespace Go.Proofs.Ytckgjolaoifgkaa
open Go.RowKit Go.Maps Go.Shelf

attribute [local go_sem] Oper.semAt_some

/-- All that holds asks of a grammar with the added ones. -/
structure holds1OK (ts : List (ByteArray × Int)) (ns : List ByteArray) (lv : List Int) (st : Int) (n : Nat) (L : Nat → Int) (R : Nat → List Int) (V : Nat → Int) : Prop where
  syms : (ts.length : Int) - 1 + (ns.length - 1 : Nat) ≤ 64
  cnt : n - 1 ≤ 96
  terms : termsOK ts lv.length
  nons : (∀ s ∈ ns.drop 1, isNameB s = true) ∧ (ns.drop 1).Nodup
  levels : ∀ j, j < lv.length → levelOK ts lv j
  prods : ∀ i, i < n - 1 → prodOK ts.length ns.length lv.length 1 (L (1 + i)) (R (1 + i)) (V (1 + i))
  lefts : (leftsTo (fun i => L (1 + i)) (n - 1)).length = ns.length - 1
  start : isNonI ts.length ns.length 1 st

theorem nons1_idx (ns : List ByteArray) : ((∀ s ∈ ns.drop 1, isNameB s = true) ∧ (ns.drop 1).Nodup) ↔ ∀ i, 1 ≤ i → i < ns.length → nonAt ns 1 i := by
  have eD : ∀ i, (ns.drop 1).getD i ⟨#[]⟩ = ns.getD (1 + i) ⟨#[]⟩ := fun i => by rw [Nat.add_comm]; simp [List.getD]
  rw [nonsOK_idx]
  constructor
  · intro h i h1 hi
    obtain ⟨a, b⟩ := h (i - 1) (Nat.zero_le _) (by simp; omega)
    rw [eD, show 1 + (i - 1) = i by omega] at a
    refine ⟨a, fun k hk1 hk => ?_⟩
    have := b (k - 1) (Nat.zero_le _) (by omega)
    rw [eD, eD, show 1 + (k - 1) = k by omega, show 1 + (i - 1) = i by omega] at this
    exact this
  · intro h i _ hi
    have hi' : 1 + i < ns.length := by simp at hi; omega
    obtain ⟨a, b⟩ := h (1 + i) (by omega) hi'
    refine ⟨by rw [eD]; exact a, fun k _ hk => ?_⟩
    rw [eD, eD]
    exact b (1 + k) (by omega) (by omega)

theorem fits_holds1 (ts : List (ByteArray × Int)) (ns : List ByteArray) (lv : List Int) (st : Int) (n : Nat) (L : Nat → Int) (R : Nat → List Int) (V : Nat → Int) (hn : 0 < ns.length) : fitsOK 1 ts ns lv st n L R V ↔ holds1OK ts ns lv st n L R V := by
  constructor
  · intro h
    refine ⟨by have := h.syms; omega, by have := h.pn; omega, (termsOK_idx _ _).2 h.terms, (nons1_idx _).2 h.nons, h.levels, fun i hi => h.prods (1 + i) (by omega) (by omega), ?_, h.start⟩
    have := h.lefts
    omega
  · intro h
    have ht := (termsOK_idx _ _).1 h.terms
    have h1 := h.syms
    have h2 := ht.1.1
    have h3 := levels_few ht.1.1 ht.1.2 h.levels
    have h4 := h.start
    unfold isNonI at h4
    have h5 := h.lefts
    have h6 := leftsTo_le (fun i => L (1 + i)) (n - 1)
    have h7 := h.cnt
    refine ⟨by omega, by omega, by omega, by omega, by omega, by omega, ht, h.levels, (nons1_idx _).1 h.nons, fun i hi1 hi => ?_, by omega, h.start⟩
    have := h.prods (i - 1) (by omega)
    rw [show 1 + (i - 1) = i by omega] at this
    exact this

theorem ProdsAt.kept {w w' : World} {a : Option Addr} {n : Nat} {L : Nat → Int} {R : Nat → List Int} {ra : Nat → Option Addr} {rc : Nat → Nat} {V : Nat → Int} (h : ProdsAt w a n L R ra rc V) (hg : w.grownBy w' none) : ProdsAt w' a n L R ra rc V := by
  rcases h with h | ⟨b, off, e, hc⟩
  · exact .inl h
  · refine .inr ⟨b, off, e, fun k hk => ?_⟩
    obtain ⟨h1, h2, h3, h4, h5⟩ := hc k hk
    exact ⟨hg.cell h1 (by simp), hg.cell h2 (by simp), hg.cell h3 (by simp), h4.kept hg, h5⟩

/-- A list from its second one on. -/
theorem strs_drop {w : World} {b off : Nat} {ns : List ByteArray} (h : StrsAt w (some ⟨b, off, none⟩) ns) : StrsAt w (some ⟨b, off + 1, none⟩) (ns.drop 1) := by
  rcases h with h | ⟨b', off', e, hc⟩
  · left; rw [h]; rfl
  · simp only [Option.some.injEq, Addr.mk.injEq, and_true] at e
    obtain ⟨rfl, rfl⟩ := e
    refine .inr ⟨b, off + 1, rfl, fun i hi => ?_⟩
    have := hc (1 + i) (by simp at hi; omega)
    rw [show off + (1 + i) = off + 1 + i by omega] at this
    rw [this, Nat.add_comm 1 i]
    simp [List.getD]
theorem prods_drop {w : World} {b off n : Nat} {L : Nat → Int} {R : Nat → List Int} {ra : Nat → Option Addr} {rc : Nat → Nat} {V : Nat → Int} (h : ProdsAt w (some ⟨b, off, none⟩) n L R ra rc V) : ProdsAt w (some ⟨b, off + 3, none⟩) (n - 1) (fun i => L (1 + i)) (fun i => R (1 + i)) (fun i => ra (1 + i)) (fun i => rc (1 + i)) (fun i => V (1 + i)) := by
  rcases h with h | ⟨b', off', e, hc⟩
  · left; rw [h]
  · simp only [Option.some.injEq, Addr.mk.injEq, and_true] at e
    obtain ⟨rfl, rfl⟩ := e
    refine .inr ⟨b, off + 3, rfl, fun i hi => ?_⟩
    have := hc (1 + i) (by omega)
    rw [show off + (1 + i) * 3 = off + 3 + i * 3 by omega] at this
    exact this

set_option maxRecDepth 100000 in
set_option maxHeartbeats 1000000 in
theorem holds_one (ta na la pa : Option Addr) (tc nc lc pc : Nat) (ts : List (ByteArray × Int)) (ns : List ByteArray) (lv : List Int) (n : Nat) (L : Nat → Int) (R : Nat → List Int) (ra : Nat → Option Addr) (rc : Nat → Nat) (V : Nat → Int) (st : Int) (w : World) (hG : GAt w ta na la pa tc nc lc pc ts ns lv n L R ra rc V) (h0n : 0 < ns.length) (h0p : 0 < n) (r : Bool) (hr : r = true ↔ holds1OK ts ns lv st n L R V) :
    Calls Try.prog 22 #[.agg #[.slice ta ts.length tc, .slice na ns.length nc, .slice la lv.length lc, .int .i64 st, .slice pa n pc], .int .i64 1] w fun e w' => e = .returned (.bool r) ∧ w.grownBy w' none := by
  have htl := hG.tlen
  have hnl := hG.nlen
  have hpl := hG.plen
  have hnc := hG.ncap
  have hpc := hG.pcap
  have HG : Hid (GAt w ta na la pa tc nc lc pc ts ns lv n L R ra rc V) := hG
  have HRR : Hid (r = true ↔ holds1OK ts ns lv st n L R V) := hr
  have HRF : Hid (¬ holds1OK ts ns lv st n L R V → r = false) := fun hno => Bool.eq_false_iff.2 fun hh => hno (hr.1 hh)
  have HX0 : Hid (∀ q, PhAt w ((w.alloc (.cells #[.slice ta ts.length tc, .slice na ns.length nc, .slice la lv.length lc, .int .i64 st, .slice pa n pc] 27)).drewN q) w.heap.size #[.slice ta ts.length tc, .slice na ns.length nc, .slice la lv.length lc, .int .i64 st, .slice pa n pc]) := fun q => (PhAt.mk (World.grownBy_alloc _ _ none) (heap_alloc_last w _)).kept (grown_drewN _ q)
  obtain ⟨bn, on, hna⟩ : ∃ b off, na = some ⟨b, off, none⟩ := by
    rcases hG.nons with h | ⟨b, off, e, _⟩
    · rw [h] at h0n; simp at h0n
    · exact ⟨b, off, e⟩
  obtain ⟨bp, op, hpa⟩ : ∃ b off, pa = some ⟨b, off, none⟩ := by
    rcases hG.prods with h | ⟨b, off, e, _⟩
    · omega
    · exact ⟨b, off, e⟩
  obtain ⟨na1, nc1, hsn, hN1⟩ : ∃ na1 nc1, (∀ W, (Instr.slice 23 (.slice na ns.length nc) (some (.int .i64 1)) none none).run Try.prog W = .ok (.slice na1 (ns.length - 1) nc1) W) ∧ StrsAt w na1 (ns.drop 1) := by
    have hS := hG.nons
    subst hna
    by_cases hc1 : nc = 1
    · refine ⟨some ⟨bn, on, none⟩, 0, fun W => ?_, .inl (List.drop_eq_nil_of_le (by omega))⟩
      have hl : ns.length = 1 := by omega
      rw [hl, hc1]
      go_simp
    · refine ⟨some ⟨bn, on + 1, none⟩, nc - 1, fun W => ?_, strs_drop hS⟩
      have h1 : (1 : Int) ≤ ns.length := by omega
      have h2 : (ns.length : Int) ≤ nc := by omega
      have h3 : 1 < nc := by omega
      generalize ns.length = N at *
      go_simp
  obtain ⟨pa1, pc1, hsp, hP1⟩ : ∃ pa1 pc1, (∀ W, (Instr.slice 25 (.slice pa n pc) (some (.int .i64 1)) none none).run Try.prog W = .ok (.slice pa1 (n - 1) pc1) W) ∧ ProdsAt w pa1 (n - 1) (fun i => L (1 + i)) (fun i => R (1 + i)) (fun i => ra (1 + i)) (fun i => rc (1 + i)) (fun i => V (1 + i)) := by
    have hS := hG.prods
    subst hpa
    by_cases hc1 : pc = 1
    · refine ⟨some ⟨bp, op, none⟩, 0, fun W => ?_, .inl (by omega)⟩
      have hl : n = 1 := by omega
      rw [hl, hc1]
      go_simp
    · refine ⟨some ⟨bp, op + 3, none⟩, pc - 1, fun W => ?_, prods_drop hS⟩
      have h1 : (1 : Int) ≤ n := by omega
      have h2 : (n : Int) ≤ pc := by omega
      have h3 : 1 < pc := by omega
      go_simp
  have HN1 : Hid (StrsAt w na1 (ns.drop 1)) := hN1
  have HP1 : Hid (ProdsAt w pa1 (n - 1) (fun i => L (1 + i)) (fun i => R (1 + i)) (fun i => ra (1 + i)) (fun i => rc (1 + i)) (fun i => V (1 + i))) := hP1
  obtain ⟨nn1, hnn1⟩ : ∃ nn1, nn1 = ns.length - 1 := ⟨_, rfl⟩
  obtain ⟨n1, hn1⟩ : ∃ n1, n1 = n - 1 := ⟨_, rfl⟩
  have HNP : Hid (ns.length - 1 = nn1 ∧ n - 1 = n1 ∧ (ns.drop 1).length = nn1) := ⟨hnn1.symm, hn1.symm, by simp [hnn1]⟩
  rw [← hnn1] at hsn
  rw [← hn1] at hsp
  have hb1 : nn1 ≤ 17592186044416 := by omega
  have hb2 : n1 ≤ 17592186044416 := by omega
  clear hN1 hP1 hnn1 hn1 hna hpa
  obtain ⟨tn, htn⟩ : ∃ tn, tn = ts.length := ⟨_, rfl⟩
  obtain ⟨nn, hnn⟩ : ∃ nn, nn = ns.length := ⟨_, rfl⟩
  obtain ⟨ln, hln⟩ : ∃ ln, ln = lv.length := ⟨_, rfl⟩
  have HTN : Hid (ts.length = tn ∧ ns.length = nn ∧ lv.length = ln) := ⟨htn.symm, hnn.symm, hln.symm⟩
  rw [← htn] at htl HX0 ⊢
  rw [← hnn] at hnl hnc h0n hsn HX0 ⊢
  rw [← hln] at HX0 ⊢
  clear hG hr htn hnn hln
  go_enter Try.func22, Try.ntmps22
  go_wp2_with fail
  go_quiet (fail)
  have HX := HX0.out nq
  generalize (w.alloc (.cells #[.slice ta tn tc, .slice na nn nc, .slice la ln lc, .int .i64 st, .slice pa n pc] 27)).drewN nq = W at *
  have HXH : Hid (PhAt w W w.heap.size #[.slice ta tn tc, .slice na nn nc, .slice la ln lc, .int .i64 st, .slice pa n pc]) := HX
  obtain ⟨m0, m1, m2, m3, m4⟩ := HX.cells
  clear HX HX0 hsn hsp
  by_cases hlim : 64 < (tn : Int) - 1 + nn1
  · have hd : decide (64 < (tn : Int) - 1 + nn1) = true := decide_eq_true hlim
    have hf : r = false := HRF.out fun h => by have h1 := h.syms; rw [HTN.out.1, HNP.out.1] at h1; omega
    go_wp2_with fail
    go_ret
    exact ⟨by first | rfl | (rw [hf]; rfl), HXH.out.grown⟩
  · have hd : decide (64 < (tn : Int) - 1 + nn1) = false := decide_eq_false hlim
    by_cases hlp : 96 < n1
    · have hd2 : decide (96 < (n1 : Int)) = true := decide_eq_true (by omega)
      have hf : r = false := HRF.out fun h => by have h1 := h.cnt; rw [HNP.out.2.1] at h1; omega
      go_wp2_with fail
      go_ret
      exact ⟨by first | rfl | (rw [hf]; rfl), HXH.out.grown⟩
    · have hd2 : decide (96 < (n1 : Int)) = false := decide_eq_false (by omega)
      have hnn65 : nn1 ≤ 65 := by omega
      have htn65 : tn ≤ 65 := by omega
      have hn96 : n1 ≤ 96 := by omega
      obtain ⟨rT, hrT⟩ := boolOf (termsOK ts ln)
      have HTT : Hid (Calls Try.prog 26 #[.agg #[.slice ta tn tc, .slice na nn nc, .slice la ln lc, .int .i64 st, .slice pa n pc]] W fun e w' => e = .returned (.bool rT) ∧ W.grownBy w' none) := by
        have := termsHold_any ta na la pa nn ln n tc nc lc pc st ts W (HG.out.kept HXH.out.grown).terms (by rw [HTN.out.1]; exact htn65) HG.out.tcap rT hrT
        rwa [HTN.out.1] at this
      have HRT : Hid (rT = true ↔ termsOK ts ln) := hrT
      have HLM : Hid (¬ 64 < (tn : Int) - 1 + nn1) := hlim
      clear hrT hlim hlp
      cases rT with
      | false =>
        have hf : r = false := HRF.out fun h => by have h1 := h.terms; rw [HTN.out.2.2] at h1; have := HRT.out.2 h1; cases this
        go_wp2_with fail
        refine HTT.out.mono ?_
        rintro e w2 ⟨rfl, hg2⟩
        have HG2 : Hid (w.grownBy w2 none) := grown_trans HXH.out.grown hg2
        clear hg2 m0 m1 m2 m3 m4
        go_wp2_with fail
        go_ret
        exact ⟨by first | rfl | (rw [hf]; rfl), HG2.out⟩
      | true =>
        go_wp2_with fail
        refine HTT.out.mono ?_
        rintro e w2 ⟨rfl, hg2⟩
        have HX2 : Hid (PhAt w w2 w.heap.size #[.slice ta tn tc, .slice na nn nc, .slice la ln lc, .int .i64 st, .slice pa n pc]) := HXH.out.kept hg2
        clear hg2 m0 m1 m2 m3 m4 HTT HXH
        have HNH : Hid (Calls Try.prog 27 #[.slice na1 nn1 nc1] w2 fun e w' => ∃ r, e = .returned (.bool r) ∧ (r = true ↔ (∀ s ∈ ns.drop 1, isNameB s = true) ∧ (ns.drop 1).Nodup) ∧ w2.grownBy w' none) := by
          have := nonsHold_any na1 nc1 (ns.drop 1) w2 (HN1.out.kept HX2.out.grown) (by rw [HNP.out.2.2]; exact hnn65)
          rwa [HNP.out.2.2] at this
        go_wp2_with fail
        refine HNH.out.mono ?_
        rintro e w3 ⟨rN, rfl, hrN, hg3⟩
        have HRN : Hid (rN = true ↔ (∀ s ∈ ns.drop 1, isNameB s = true) ∧ (ns.drop 1).Nodup) := hrN
        have HX3 : Hid (PhAt w w3 w.heap.size #[.slice ta tn tc, .slice na nn nc, .slice la ln lc, .int .i64 st, .slice pa n pc]) := HX2.out.kept hg3
        clear hrN hg3 HNH HX2
        cases rN with
        | false =>
          have hf : r = false := HRF.out fun h => by have := HRN.out.2 h.nons; cases this
          have HGE : Hid (w.grownBy w3 none) := HX3.out.grown
          clear HX3
          go_wp2_with fail
          go_ret
          exact ⟨by first | rfl | (rw [hf]; rfl), HGE.out⟩
        | true =>
          obtain ⟨rL, hrL⟩ := boolOf (∀ j, j < lv.length → levelOK ts lv j)
          have HLH : Hid (Calls Try.prog 28 #[.agg #[.slice ta tn tc, .slice na nn nc, .slice la ln lc, .int .i64 st, .slice pa n pc]] w3 fun e w' => e = .returned (.bool rL) ∧ w3.grownBy w' none) := by
            have := levelsHold_any ta na la pa nn n tc nc lc pc st ts lv w3 (HG.out.kept HX3.out.grown).terms (HG.out.kept HX3.out.grown).levels (by rw [HTN.out.1]; exact htn65) HG.out.llen rL hrL
            rwa [HTN.out.1, HTN.out.2.2] at this
          have HRL : Hid (rL = true ↔ ∀ j, j < lv.length → levelOK ts lv j) := hrL
          clear hrL
          obtain ⟨m0, m1, m2, m3, m4⟩ := HX3.out.cells
          go_wp2_with fail
          refine HLH.out.mono ?_
          rintro e w4 ⟨rfl, hg4⟩
          have HX4 : Hid (PhAt w w4 w.heap.size #[.slice ta tn tc, .slice na nn nc, .slice la ln lc, .int .i64 st, .slice pa n pc]) := HX3.out.kept hg4
          clear hg4 HLH HX3 m0 m1 m2 m3 m4
          cases rL with
          | false =>
            have hf : r = false := HRF.out fun h => by have := HRL.out.2 h.levels; cases this
            have HGE : Hid (w.grownBy w4 none) := HX4.out.grown
            clear HX4
            go_wp2_with fail
            go_ret
            exact ⟨by first | rfl | (rw [hf]; rfl), HGE.out⟩
          | true =>
            obtain ⟨rP, hrP⟩ := boolOf (∀ i, i < n1 → prodOK tn nn ln 1 (L (1 + i)) (R (1 + i)) (V (1 + i)))
            have HPH : Hid (Calls Try.prog 29 #[.agg #[.slice ta tn tc, .slice na nn nc, .slice la ln lc, .int .i64 st, .slice pa n pc], .slice pa1 n1 pc1, .int .i64 1] w4 fun e w' => e = .returned (.bool rP) ∧ w4.grownBy w' none) :=
              prodsHold_any ta na la pa pa1 tn nn ln n tc nc lc pc n1 pc1 1 st (fun i => L (1 + i)) (fun i => R (1 + i)) (fun i => ra (1 + i)) (fun i => rc (1 + i)) (fun i => V (1 + i)) w4 (by have := HP1.out.kept HX4.out.grown; rw [HNP.out.2.1] at this; exact this) (by omega) (by omega) (by omega) (by omega) rP hrP
            have HRP : Hid (rP = true ↔ ∀ i, i < n1 → prodOK tn nn ln 1 (L (1 + i)) (R (1 + i)) (V (1 + i))) := hrP
            clear hrP
            obtain ⟨m0, m1, m2, m3, m4⟩ := HX4.out.cells
            go_wp2_with fail
            refine HPH.out.mono ?_
            rintro e w5 ⟨rfl, hg5⟩
            have HX5 : Hid (PhAt w w5 w.heap.size #[.slice ta tn tc, .slice na nn nc, .slice la ln lc, .int .i64 st, .slice pa n pc]) := HX4.out.kept hg5
            clear hg5 HPH HX4 m0 m1 m2 m3 m4
            cases rP with
            | false =>
              have hf : r = false := HRF.out fun h => by have h1 := h.prods; rw [HTN.out.1, HTN.out.2.1, HTN.out.2.2, HNP.out.2.1] at h1; have := HRP.out.2 h1; cases this
              have HGE : Hid (w.grownBy w5 none) := HX5.out.grown
              clear HX5
              go_wp2_with fail
              go_ret
              exact ⟨by first | rfl | (rw [hf]; rfl), HGE.out⟩
            | true =>
              have HLF : Hid (Calls Try.prog 30 #[.slice pa1 n1 pc1] w5 fun e w' => ∃ a' c', e = .returned (.slice a' (leftsTo (fun i => L (1 + i)) n1).length c') ∧ w'.ownsRow w5.heap.size 3 1 (.slice a' (leftsTo (fun i => L (1 + i)) n1).length c') (leftsTo (fun i => L (1 + i)) n1).length ((leftsTo (fun i => L (1 + i)) n1).map (Value.int .i64)) ∧ w5.grownBy w' none) := lefts_any pa1 n1 pc1 (fun i => L (1 + i)) (fun i => R (1 + i)) (fun i => ra (1 + i)) (fun i => rc (1 + i)) (fun i => V (1 + i)) w5 (by have := HP1.out.kept HX5.out.grown; rw [HNP.out.2.1] at this; exact this) (by omega)
              have hML := leftsTo_le (fun i => L (1 + i)) n1
              obtain ⟨M, hM⟩ : ∃ M, M = (leftsTo (fun i => L (1 + i)) n1).length := ⟨_, rfl⟩
              have HMM : Hid ((leftsTo (fun i => L (1 + i)) n1).length = M) := hM.symm
              rw [← hM] at hML HLF
              clear hM
              go_wp2_with fail
              refine HLF.out.mono ?_
              rintro e w6 ⟨a', c', rfl, _, hg6⟩
              have HX6 : Hid (PhAt w w6 w.heap.size #[.slice ta tn tc, .slice na nn nc, .slice la ln lc, .int .i64 st, .slice pa n pc]) := HX5.out.kept hg6
              clear hg6 HLF HX5
              obtain ⟨m0, m1, m2, m3, m4⟩ := HX6.out.cells
              by_cases hMn : M = nn1
              · have hb : ((M : Int) == (nn1 : Int)) = true := beq_iff_eq.2 (by omega)
                have HMN : Hid (M = nn1) := hMn
                have HIN := isNonOf_any ta na la pa tn nn ln n tc nc lc pc 1 st st w6 (by omega) (by omega) (by omega)
                have HFIN : Hid ((decide ((tn : Int) + (1 : Nat) ≤ st) && decide (st < (tn : Int) + nn)) = r) := by
                  show (decide ((tn : Int) + (1 : Nat) ≤ st) && decide (st < (tn : Int) + nn)) = r
                  rw [Bool.eq_iff_iff, HRR.out, Bool.and_eq_true, decide_eq_true_eq, decide_eq_true_eq]
                  obtain ⟨t1, t2, t3⟩ := HTN.out
                  constructor
                  · intro hs
                    exact ⟨by rw [t1, HNP.out.1]; have := HLM.out; omega, by rw [HNP.out.2.1]; exact hn96, by rw [t3]; exact HRT.out.1 (by first | rfl | trivial), HRN.out.1 (by first | rfl | trivial), HRL.out.1 (by first | rfl | trivial), by rw [t1, t2, t3, HNP.out.2.1]; exact HRP.out.1 (by first | rfl | trivial), by rw [HNP.out.1, HNP.out.2.1, HMM.out]; exact HMN.out, by rw [t1, t2]; exact hs⟩
                  · intro h
                    have h1 := h.start
                    rw [t1, t2] at h1
                    exact h1
                clear hMn
                go_wp2_with fail
                refine HIN.mono ?_
                rintro e w7 ⟨rfl, hg7⟩
                rw [HFIN.out]
                have HGE : Hid (w.grownBy w7 none) := grown_trans HX6.out.grown hg7
                clear hg7 HIN m0 m1 m2 m3 m4
                go_wp2_with fail
                go_ret
                exact ⟨rfl, HGE.out⟩
              · have hb : ((M : Int) == (nn1 : Int)) = false := beq_eq_false_iff_ne.2 (by omega)
                have hf : r = false := HRF.out fun h => by have h1 := h.lefts; rw [HNP.out.1, HNP.out.2.1, HMM.out] at h1; exact hMn h1
                have HGE : Hid (w.grownBy w6 none) := HX6.out.grown
                clear hMn HX6
                go_wp2_with fail
                go_ret
                exact ⟨by first | rfl | (rw [hf]; rfl), HGE.out⟩

/-- Is a grammar closed? -/
def closedOK (ts : List (ByteArray × Int)) (ns : List ByteArray) (lv : List Int) (st : Int) (n : Nat) (L : Nat → Int) (R : Nat → List Int) (V : Nat → Int) : Prop := addedOK ts ns st n L R V ∧ fitsOK 1 ts ns lv st n L R V

set_option maxRecDepth 100000 in
set_option maxHeartbeats 1000000 in
theorem closed_any (ta na la pa : Option Addr) (tc nc lc pc : Nat) (ts : List (ByteArray × Int)) (ns : List ByteArray) (lv : List Int) (n : Nat) (L : Nat → Int) (R : Nat → List Int) (ra : Nat → Option Addr) (rc : Nat → Nat) (V : Nat → Int) (st : Int) (w : World) (hG : GAt w ta na la pa tc nc lc pc ts ns lv n L R ra rc V) (r : Bool) (hr : r = true ↔ closedOK ts ns lv st n L R V) :
    Calls Try.prog 18 #[.agg #[.slice ta ts.length tc, .slice na ns.length nc, .slice la lv.length lc, .int .i64 st, .slice pa n pc]] w fun e w' => e = .returned (.bool r) ∧ w.grownBy w' none := by
  obtain ⟨rA, hrA⟩ := boolOf (addedOK ts ns st n L R V)
  obtain ⟨rF, hrF⟩ := boolOf (fitsOK 1 ts ns lv st n L R V)
  have HA : Hid (∀ W, w.grownBy W none → Calls Try.prog 21 #[.agg #[.slice ta ts.length tc, .slice na ns.length nc, .slice la lv.length lc, .int .i64 st, .slice pa n pc]] W fun e w' => e = .returned (.bool rA) ∧ W.grownBy w' none) := fun W hg => hasAdded_any st (hG.kept hg) rA hrA
  have HH : Hid (rA = true → ∀ W, w.grownBy W none → Calls Try.prog 22 #[.agg #[.slice ta ts.length tc, .slice na ns.length nc, .slice la lv.length lc, .int .i64 st, .slice pa n pc], .int .i64 1] W fun e w' => e = .returned (.bool rF) ∧ W.grownBy w' none) := fun hA W hg =>
    holds_one ta na la pa tc nc lc pc ts ns lv n L R ra rc V st W (hG.kept hg) (hrA.1 hA).nn (hrA.1 hA).pn rF (hrF.trans (fits_holds1 ts ns lv st n L R V (hrA.1 hA).nn))
  have HR : Hid ((rA && rF) = r) := by
    show (rA && rF) = r
    rw [Bool.eq_iff_iff, hr, Bool.and_eq_true, hrA, hrF]
    rfl
  have HB : Hid (∀ w2, (w.alloc (.cells #[.slice ta ts.length tc, .slice na ns.length nc, .slice la lv.length lc, .int .i64 st, .slice pa n pc] 27)).grownBy w2 none → PhAt w w2 w.heap.size #[.slice ta ts.length tc, .slice na ns.length nc, .slice la lv.length lc, .int .i64 st, .slice pa n pc]) := fun w2 h2 => (PhAt.mk (World.grownBy_alloc _ _ none) (heap_alloc_last w _)).kept h2
  clear hG hr hrA hrF
  generalize ts.length = tn at *
  generalize ns.length = nn at *
  generalize lv.length = ln at *
  cases rA with
  | false =>
    go_enter Try.func18, Try.ntmps18
    go_wp2_with fail
    refine Calls.mono (HA.out _ (World.grownBy_alloc _ _ none)) ?_
    rintro e w2 ⟨rfl, hg2⟩
    have HX := show Hid _ from (HB.out w2 hg2).grown
    clear hg2
    go_wp2_with fail
    go_ret
    exact ⟨by rw [← HR.out]; rfl, HX.out⟩
  | true =>
    go_enter Try.func18, Try.ntmps18
    go_wp2_with fail
    refine Calls.mono (HA.out _ (World.grownBy_alloc _ _ none)) ?_
    rintro e w2 ⟨rfl, hg2⟩
    have HX := show Hid _ from HB.out w2 hg2
    obtain ⟨m0, m1, m2, m3, m4⟩ := HX.out.cells
    clear hg2
    go_wp2_with fail
    refine Calls.mono (HH.out (by simp) w2 HX.out.grown) ?_
    rintro e w3 ⟨rfl, hg3⟩
    have HX3 := show Hid _ from grown_trans HX.out.grown hg3
    clear hg3 m0 m1 m2 m3 m4
    go_wp2_with fail
    go_ret
    exact ⟨by rw [← HR.out]; rfl, HX3.out⟩

end Go.Proofs.Ytckgjolaoifgkaa

/-
  The document's Closed, of any grammar.
-/
namespace Go.Proofs.Ytckgjolaoifgkaa
open Go.RowKit Go.Maps Go.Shelf

attribute [local go_sem] Oper.semAt_some

end Go.Proofs.Ytckgjolaoifgkaa

/-
  Copy of any grammar: the same in new memory.
-/
namespace Go.Proofs.Ytckgjolaoifgkaa
open Go.RowKit Go.Maps Go.Shelf

/-- A grammar out of its lists. -/
def grOf (ts : List (ByteArray × Int)) (ns : List ByteArray) (lv : List Int) (st : Int) (n : Nat) (L : Nat → Int) (R : Nat → List Int) (V : Nat → Int) : GR := ⟨ts, ns, lv, st, (List.range n).map fun i => ⟨L i, R i, V i⟩⟩
/-- Copied productions, in their own memory. -/
structure CNew (W : World) (B : Nat) (v : Value) (n : Nat) (L : Nat → Int) (R : Nat → List Int) (V : Nat → Int) (rg : Nat → Value) : Prop where
  row : W.ownsRow B 56 3 v n (prodRow n L rg V)
  rights : ∀ i, i < n → W.ownsRow B 3 1 (rg i) (R i).length ((R i).map (Value.int .i64))
end Go.Proofs.Ytckgjolaoifgkaa

/-
  What lend lays: the box of the grammar, the lent one's box, and the rows behind.
-/
namespace Go.Proofs.Ytckgjolaoifgkaa
open Go.RowKit Go.Maps Go.Shelf

/-- A row that lies behind the box stays, when the box is written. -/
theorem owns_box {W : World} {k j e s n : Nat} {v u : Value} {xs : List Value} (h : W.ownsRow (k + 1) e s v n xs) : (W.setCell ⟨k, j, none⟩ u).ownsRow (k + 1) e s v n xs := by
  refine h.kept (grown_setCell k j u) ?_
  cases hv : v.ownBlock with
  | none => exact .inl rfl
  | some g => have := (h.lt g hv).1; exact .inr (by simp; omega)

theorem keep0 {W W' : World} {B e s n : Nat} {v : Value} {xs : List Value} (h : W.ownsRow B e s v n xs) (hg : W.grownBy W' none) : W'.ownsRow B e s v n xs := h.kept hg (by cases hv : v.ownBlock <;> simp)

theorem ints_cells {w : World} {a : Option Addr} {l : List Int} (h : IntsAt w a l) : ∀ x, a = some x → ∀ j u, (l.map (Value.int .i64))[j]? = some u → w.cell? (x.add j) = some u := by
  intro x hx j u hu
  rcases h with h | ⟨b, off, e, hc⟩
  · rw [h] at hu; simp at hu
  · rw [hx] at e
    simp only [Option.some.injEq] at e
    subst e
    rw [Addr.add_mid]
    have hj : j < l.length := by have := (List.getElem?_eq_some_iff.1 hu).1; simpa using this
    rw [hc j hj]
    simp [hj] at hu
    simp [List.getD, hj, hu]

/-- What is appended lies in a block of its own. -/
theorem news_new (w : World) (cs : Array Value) (t : TypeId) : ∀ j u, cs.toList[j]? = some u → (w.alloc (.cells cs t)).cell? ((⟨w.heap.size, 0, none⟩ : Addr).add j) = some u := World.news_of_block (heap_alloc_last w _)
/-- A row that grew: what was there stays. -/
theorem grown_row {X w w' : World} {B e s n : Nat} {v : Value} {xs : List Value} (hX : X.grownBy w none) (ho : w.ownsRow B e s v n xs) (hB : X.heap.size ≤ B) (hg : w.grownBy w' v.ownBlock) : X.grownBy w' none := by
  cases hv : v.ownBlock with
  | none => rw [hv] at hg; exact grown_trans hX hg
  | some q => rw [hv] at hg; exact grown_new hX hg (Nat.le_trans hB (ho.lt q hv).1)

theorem infoInts : (Try.prog.info? 24).map (fun i => (i.zero, i.size, i.bytes)) = some (some (.slice none 0 0), 1, 24) := by kernel_rfl

/-- While the productions are lent: the first kr of their right sides, the first kp of them. -/
structure LMid (X : World) (B : Nat) (ts : List (ByteArray × Int)) (ns : List ByteArray) (lv : List Int) (kr kp : Nat) (L : Nat → Int) (R : Nat → List Int) (V : Nat → Int) (a1 a2 a3 a4 a5 : Option Addr) (tn nn ln c1 c2 c3 c4 c5 : Nat) (rg : Nat → Nat × Nat) : Prop where
  t : X.ownsRow B 54 2 (.slice a1 (tn + 1) c1) (tn + 1) (tmsL ts ++ [.string { data := #[115, 112, 97, 114, 101] }, .int .i64 0])
  s : X.ownsRow B 9 1 (.slice a2 (nn + 1) c2) (nn + 1) (ns.map Value.string ++ [.string { data := #[115, 112, 97, 114, 101] }])
  l : X.ownsRow B 3 1 (.slice a3 (ln + 1) c3) (ln + 1) (lv.map (Value.int .i64) ++ [.int .i64 77])
  r : X.ownsRow B 24 1 (.slice a4 kr c4) kr ((List.range kr).map fun i => .slice (some ⟨(rg i).1, 0, none⟩) ((R i).length + 1) (rg i).2)
  p : X.ownsRow B 56 3 (.slice a5 kp c5) kp (prodRow kp L (fun i => .slice (some ⟨(rg i).1, 0, none⟩) (R i).length (rg i).2) V)
  rr : ∀ i, i < kr → X.ownsRow B 3 1 (.slice (some ⟨(rg i).1, 0, none⟩) ((R i).length + 1) (rg i).2) ((R i).length + 1) ((R i).map (Value.int .i64) ++ [.int .i64 77])

section
variable {X Y : World} {B kr kp tn nn ln c1 c2 c3 c4 c5 : Nat} {ts : List (ByteArray × Int)} {ns : List ByteArray} {lv : List Int} {L : Nat → Int} {R : Nat → List Int} {V : Nat → Int} {a1 a2 a3 a4 a5 : Option Addr} {rg : Nat → Nat × Nat}
theorem LMid.kept (h : LMid X B ts ns lv kr kp L R V a1 a2 a3 a4 a5 tn nn ln c1 c2 c3 c4 c5 rg) (hg : X.grownBy Y none) : LMid Y B ts ns lv kr kp L R V a1 a2 a3 a4 a5 tn nn ln c1 c2 c3 c4 c5 rg :=
  ⟨keep0 h.t hg, keep0 h.s hg, keep0 h.l hg, keep0 h.r hg, keep0 h.p hg, fun i hi => keep0 (h.rr i hi) hg⟩
theorem LMid.box {kb j : Nat} {u : Value} (h : LMid X (kb + 1) ts ns lv kr kp L R V a1 a2 a3 a4 a5 tn nn ln c1 c2 c3 c4 c5 rg) : LMid (X.setCell ⟨kb, j, none⟩ u) (kb + 1) ts ns lv kr kp L R V a1 a2 a3 a4 a5 tn nn ln c1 c2 c3 c4 c5 rg :=
  ⟨owns_box h.t, owns_box h.s, owns_box h.l, owns_box h.r, owns_box h.p, fun i hi => owns_box (h.rr i hi)⟩
end

/-- All rows of what was lent. -/
structure LRows (X : World) (B : Nat) (ts : List (ByteArray × Int)) (ns : List ByteArray) (lv : List Int) (n : Nat) (L : Nat → Int) (R : Nat → List Int) (V : Nat → Int) (a1 a2 a3 a4 a5 : Option Addr) (tn nn ln c1 c2 c3 c4 c5 : Nat) (rg : Nat → Nat × Nat) : Prop where
  t : X.ownsRow B 54 2 (.slice a1 (tn + 1) c1) (tn + 1) (tmsL ts ++ [.string { data := #[115, 112, 97, 114, 101] }, .int .i64 0])
  s : X.ownsRow B 9 1 (.slice a2 (nn + 1) c2) (nn + 1) (ns.map Value.string ++ [.string { data := #[115, 112, 97, 114, 101] }])
  l : X.ownsRow B 3 1 (.slice a3 (ln + 1) c3) (ln + 1) (lv.map (Value.int .i64) ++ [.int .i64 77])
  r : X.ownsRow B 24 1 (.slice a4 n c4) n ((List.range n).map fun i => .slice (some ⟨(rg i).1, 0, none⟩) ((R i).length + 1) (rg i).2)
  p : X.ownsRow B 56 3 (.slice a5 (n + 1) c5) (n + 1) (prodRow n L (fun i => .slice (some ⟨(rg i).1, 0, none⟩) (R i).length (rg i).2) V ++ [.int .i64 77, .slice none 0 0, .int .i64 0])
  rr : ∀ i, i < n → X.ownsRow B 3 1 (.slice (some ⟨(rg i).1, 0, none⟩) ((R i).length + 1) (rg i).2) ((R i).length + 1) ((R i).map (Value.int .i64) ++ [.int .i64 77])

section
variable {X Y : World} {B n tn nn ln c1 c2 c3 c4 c5 : Nat} {ts : List (ByteArray × Int)} {ns : List ByteArray} {lv : List Int} {L : Nat → Int} {R : Nat → List Int} {V : Nat → Int} {a1 a2 a3 a4 a5 : Option Addr} {rg : Nat → Nat × Nat}
theorem LRows.kept (h : LRows X B ts ns lv n L R V a1 a2 a3 a4 a5 tn nn ln c1 c2 c3 c4 c5 rg) (hg : X.grownBy Y none) : LRows Y B ts ns lv n L R V a1 a2 a3 a4 a5 tn nn ln c1 c2 c3 c4 c5 rg :=
  ⟨keep0 h.t hg, keep0 h.s hg, keep0 h.l hg, keep0 h.r hg, keep0 h.p hg, fun i hi => keep0 (h.rr i hi) hg⟩
theorem LRows.box {kb j : Nat} {u : Value} (h : LRows X (kb + 1) ts ns lv n L R V a1 a2 a3 a4 a5 tn nn ln c1 c2 c3 c4 c5 rg) : LRows (X.setCell ⟨kb, j, none⟩ u) (kb + 1) ts ns lv n L R V a1 a2 a3 a4 a5 tn nn ln c1 c2 c3 c4 c5 rg :=
  ⟨owns_box h.t, owns_box h.s, owns_box h.l, owns_box h.r, owns_box h.p, fun i hi => owns_box (h.rr i hi)⟩
end

end Go.Proofs.Ytckgjolaoifgkaa
