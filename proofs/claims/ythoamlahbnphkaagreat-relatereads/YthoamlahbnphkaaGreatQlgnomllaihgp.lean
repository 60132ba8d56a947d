import Derived.Test.YthoamlahbnphkaaGreatQkgbahnalcpnk
import Derived.Test.YthoamlahbnphkaaGreatQmjjmjkcgkmdm
import Derived.Test.YthoamlahbnphkaaGreatQcjbndjpplbae
import Derived.Deep.RegionHeld3
import Derived.Test.YthoamlahbnphkaaGreatQkbonjeeknifk

/-
  hasAdded of any grammar.
-/
namespace Go.Proofs.YthoamlahbnphkaaGreat
open Go.RowKit Go.Maps Go.Shelf

/-- Are the first nonterminal and production 0 the added ones? -/
structure addedOK (ts : List (ByteArray × Int)) (ns : List ByteArray) (st : Int) (n : Nat) (L : Nat → Int) (R : Nat → List Int) (V : Nat → Int) : Prop where
  nn : 0 < ns.length
  name : ns.getD 0 ⟨#[]⟩ = ⟨#[]⟩
  pn : 0 < n
  left : L 0 = ts.length
  right : R 0 = [st]
  level : V 0 = 0

attribute [local go_sem] Oper.semAt_some

set_option maxRecDepth 100000 in
set_option maxHeartbeats 1000000 in
theorem hasAdded_look (bn on bp op : Nat) (ta la ra : Option Addr) (tn nn ln pn tc nc lc pc rc : Nat) (st L0 V0 : Int) (R0 : List Int) (w : World) (hn : w.cell? ⟨bn, on, none⟩ = some (.string ⟨#[]⟩)) (h0 : 0 < nn) (hp : 0 < pn)
    (p0 : w.cell? ⟨bp, op, none⟩ = some (.int .i64 L0)) (p1 : w.cell? ⟨bp, op + 1, none⟩ = some (.slice ra R0.length rc)) (p2 : w.cell? ⟨bp, op + 2, none⟩ = some (.int .i64 V0)) (hR : IntsAt w ra R0) (hRl : R0.length ≤ 17592186044416) (r : Bool) (hr : r = true ↔ (L0 = tn ∧ R0 = [st] ∧ V0 = 0)) :
    Calls Tryz.prog 70 #[.agg #[.slice ta tn tc, .slice (some ⟨bn, on, none⟩) nn nc, .slice la ln lc, .int .i64 st, .slice (some ⟨bp, op, none⟩) pn pc]] w fun e w' => e = .returned (.bool r) ∧ w.grownBy w' none := by
  have HSP : Hid (∀ W a, w.grownBy W none → IntsAt W a [st] → Calls Tryz.prog 105 #[.agg #[.int .i64 L0, .slice ra R0.length rc, .int .i64 V0], .agg #[.int .i64 tn, .slice a 1 1, .int .i64 0]] W fun e w' => e = .returned (.bool r) ∧ W.grownBy w' none) := fun W a hg ha =>
    sameProd_any L0 tn V0 0 ra a rc 1 R0 [st] W (hR.kept hg) ha hRl r hr
  have hd : decide (0 < (nn : Int)) = true := decide_eq_true (by omega)
  have hd' : decide (0 < nn) = true := decide_eq_true h0
  have hd2 : decide (0 < (pn : Int)) = true := decide_eq_true (by omega)
  have hd2' : decide (0 < pn) = true := decide_eq_true hp
  obtain ⟨W, hW⟩ : ∃ W, W = w.alloc (.cells #[.slice ta tn tc, .slice (some ⟨bn, on, none⟩) nn nc, .slice la ln lc, .int .i64 st, .slice (some ⟨bp, op, none⟩) pn pc] 27) := ⟨_, rfl⟩
  have HW := show Hid _ from hW
  have hgW : w.grownBy W none := by rw [hW]; exact World.grownBy_alloc w _ none
  have hbox : W.heap[w.heap.size]? = some (.cells #[.slice ta tn tc, .slice (some ⟨bn, on, none⟩) nn nc, .slice la ln lc, .int .i64 st, .slice (some ⟨bp, op, none⟩) pn pc] 27 (0, 0)) := by rw [hW]; exact heap_alloc_last w _
  have HGW := show Hid _ from hgW
  have b0 : W.cell? ⟨w.heap.size, 0, none⟩ = some (.slice ta tn tc) := by rw [cell_of_row _ _ _ _ _ _ hbox]; rfl
  have b1 : W.cell? ⟨w.heap.size, 1, none⟩ = some (.slice (some ⟨bn, on, none⟩) nn nc) := by rw [cell_of_row _ _ _ _ _ _ hbox]; rfl
  have b3 : W.cell? ⟨w.heap.size, 3, none⟩ = some (.int .i64 st) := by rw [cell_of_row _ _ _ _ _ _ hbox]; rfl
  have b4 : W.cell? ⟨w.heap.size, 4, none⟩ = some (.slice (some ⟨bp, op, none⟩) pn pc) := by rw [cell_of_row _ _ _ _ _ _ hbox]; rfl
  have n0 : W.cell? ⟨bn, on, none⟩ = some (.string ⟨#[]⟩) := hgW.cell hn (by simp)
  have q0 : W.cell? ⟨bp, op, none⟩ = some (.int .i64 L0) := hgW.cell p0 (by simp)
  have q1 : W.cell? ⟨bp, op + 1, none⟩ = some (.slice ra R0.length rc) := hgW.cell p1 (by simp)
  have q2 : W.cell? ⟨bp, op + 2, none⟩ = some (.int .i64 V0) := hgW.cell p2 (by simp)
  have hgA : W.grownBy (W.alloc (.cells #[.int .i64 st] 3)).drew none := grown_trans (World.grownBy_alloc W _ none) (grown_drewN _ 1)
  have HKP : Hid (∀ w1, (W.alloc (.cells #[.int .i64 st] 3)).drew.grownBy w1 none → w1.cell? ⟨w.heap.size, 0, none⟩ = some (.slice ta tn tc) ∧ w1.cell? ⟨w.heap.size, 1, none⟩ = some (.slice (some ⟨bn, on, none⟩) nn nc) ∧ w1.cell? ⟨w.heap.size, 3, none⟩ = some (.int .i64 st) ∧ w1.cell? ⟨w.heap.size, 4, none⟩ = some (.slice (some ⟨bp, op, none⟩) pn pc) ∧ w1.cell? ⟨bn, on, none⟩ = some (.string ⟨#[]⟩) ∧ w1.cell? ⟨bp, op, none⟩ = some (.int .i64 L0) ∧ w1.cell? ⟨bp, op + 1, none⟩ = some (.slice ra R0.length rc) ∧ w1.cell? ⟨bp, op + 2, none⟩ = some (.int .i64 V0)) := fun w1 h1 => by
    have hg := grown_trans hgA h1
    exact ⟨hg.cell b0 (by simp), hg.cell b1 (by simp), hg.cell b3 (by simp), hg.cell b4 (by simp), hg.cell n0 (by simp), hg.cell q0 (by simp), hg.cell q1 (by simp), hg.cell q2 (by simp)⟩
  have HC := show Hid _ from HSP.out (W.alloc (.cells #[.int .i64 st] 3)).drew (some ⟨W.heap.size, 0, none⟩) (grown_trans hgW hgA) (.inr ⟨W.heap.size, 0, rfl, fun i hi => by
    have : i = 0 := by simp at hi; omega
    subst this
    show (W.alloc (.cells #[.int .i64 st] 3)).cell? _ = _
    rw [cell_of_row _ _ _ _ _ _ (heap_alloc_last W _)]; rfl⟩)
  have HGA : Hid (w.grownBy (W.alloc (.cells #[.int .i64 st] 3)).drew none) := grown_trans hgW hgA
  clear hn p0 p1 p2 hR hr hW hgW hbox hgA HSP
  go_enter Tryz.func70, Tryz.ntmps70
  go_wp2_with fail
  rw [← HW.out]
  generalize w.heap.size = gb at *
  go_region_held3 (fun w' => w'.cell? ⟨gb, 0, none⟩ = some (.slice ta tn tc) ∧ w'.cell? ⟨gb, 1, none⟩ = some (.slice (some ⟨bn, on, none⟩) nn nc) ∧ w'.cell? ⟨gb, 3, none⟩ = some (.int .i64 st) ∧ w'.cell? ⟨gb, 4, none⟩ = some (.slice (some ⟨bp, op, none⟩) pn pc) ∧ w'.cell? ⟨bn, on, none⟩ = some (.string ⟨#[]⟩) ∧ w'.cell? ⟨bp, op, none⟩ = some (.int .i64 L0) ∧ w'.cell? ⟨bp, op + 1, none⟩ = some (.slice ra R0.length rc) ∧ w'.cell? ⟨bp, op + 2, none⟩ = some (.int .i64 V0)) (first | go_keep | exact HKP.out _ hg1) ((go_at_call 105; refine Calls.mono HC.out ?_; rintro e w1 ⟨rfl, hg1⟩))
  all_goals go_wp2_with fail
  all_goals go_ret
  all_goals exact ⟨rfl, grown_trans HGA.out (by first | exact hg1 | exact grown_trans hg1 (grown_drewN _ 1))⟩

set_option maxRecDepth 100000 in
set_option maxHeartbeats 1000000 in
theorem hasAdded_nons (ta na la pa : Option Addr) (tn ln pn tc nc lc pc : Nat) (st : Int) (w : World) :
    Calls Tryz.prog 70 #[.agg #[.slice ta tn tc, .slice na 0 nc, .slice la ln lc, .int .i64 st, .slice pa pn pc]] w fun e w' => e = .returned (.bool false) ∧ w.grownBy w' none := by
  go_enter Tryz.func70, Tryz.ntmps70
  go_wp2_with fail
  go_quiet (fail)
  go_wp2
  go_ret
  exact ⟨by first | rfl | simp, grown_trans (World.grownBy_alloc _ _ none) (grown_drewN _ _)⟩

set_option maxRecDepth 100000 in
set_option maxHeartbeats 1000000 in
theorem hasAdded_prods (bn on : Nat) (ta la pa : Option Addr) (tn nn ln tc nc lc pc : Nat) (st : Int) (w : World) (hn : w.cell? ⟨bn, on, none⟩ = some (.string ⟨#[]⟩)) (h0 : 0 < nn) :
    Calls Tryz.prog 70 #[.agg #[.slice ta tn tc, .slice (some ⟨bn, on, none⟩) nn nc, .slice la ln lc, .int .i64 st, .slice pa 0 pc]] w fun e w' => e = .returned (.bool false) ∧ w.grownBy w' none := by
  have hc' : ∀ o, (w.alloc o).cell? ⟨bn, on, none⟩ = some (.string ⟨#[]⟩) := fun o => (World.grownBy_alloc w o none).cell hn (by simp)
  have hc2 : ∀ o, (w.alloc o).drew.cell? ⟨bn, on, none⟩ = some (.string ⟨#[]⟩) := fun o => hc' o
  have hd : decide (0 < (nn : Int)) = true := decide_eq_true (by omega)
  have hd' : decide (0 < nn) = true := decide_eq_true h0
  clear hn
  go_enter Tryz.func70, Tryz.ntmps70
  go_wp2_with fail
  go_quiet (fail)
  go_wp2
  go_ret
  exact ⟨by first | rfl | simp, grown_trans (World.grownBy_alloc _ _ none) (grown_drewN _ _)⟩

theorem hasAdded_any {w : World} {ta na la pa : Option Addr} {tc nc lc pc : Nat} {ts : List (ByteArray × Int)} {ns : List ByteArray} {lv : List Int} {n : Nat} {L : Nat → Int} {R : Nat → List Int} {ra : Nat → Option Addr} {rc : Nat → Nat} {V : Nat → Int} (st : Int) (hG : GAt w ta na la pa tc nc lc pc ts ns lv n L R ra rc V) (r : Bool) (hr : r = true ↔ addedOK ts ns st n L R V) :
    Calls Tryz.prog 70 #[.agg #[.slice ta ts.length tc, .slice na ns.length nc, .slice la lv.length lc, .int .i64 st, .slice pa n pc]] w fun e w' => e = .returned (.bool r) ∧ w.grownBy w' none := by
  have no : ¬ addedOK ts ns st n L R V → r = false := fun h => Bool.eq_false_iff.2 fun hh => h (hr.1 hh)
  by_cases h0 : ns.length = 0
  · rw [no (fun h => by have := h.nn; omega), h0]
    exact hasAdded_nons ta na la pa _ _ _ _ _ _ _ st w
  · obtain ⟨bn, on, rfl, hns⟩ : ∃ b off, na = some ⟨b, off, none⟩ ∧ ∀ i, i < ns.length → w.cell? ⟨b, off + i, none⟩ = some (.string (ns.getD i ⟨#[]⟩)) := by
      rcases hG.nons with h | h
      · rw [h] at h0; simp at h0
      · exact h
    have hc := hns 0 (by omega)
    by_cases hs : ns.getD 0 ⟨#[]⟩ = ⟨#[]⟩
    · rw [hs] at hc
      by_cases hp : n = 0
      · subst hp
        rw [no (fun h => by have := h.pn; omega)]
        exact hasAdded_prods bn on ta la pa _ _ _ _ _ _ _ st w hc (by omega)
      · obtain ⟨bp, op, rfl, hps⟩ : ∃ b off, pa = some ⟨b, off, none⟩ ∧ ∀ k, k < n → w.cell? ⟨b, off + k * 3, none⟩ = some (.int .i64 (L k)) ∧ w.cell? ⟨b, off + k * 3 + 1, none⟩ = some (.slice (ra k) (R k).length (rc k)) ∧ w.cell? ⟨b, off + k * 3 + 2, none⟩ = some (.int .i64 (V k)) ∧ IntsAt w (ra k) (R k) ∧ (ra k = none → rc k = 0) ∧ (R k).length ≤ 17592186044416 := by
          rcases hG.prods with h | h
          · exact absurd h hp
          · exact h
        obtain ⟨p0, p1, p2, p3, _, p5⟩ := hps 0 (by omega)
        simp only [Nat.zero_mul, Nat.add_zero] at p0 p1 p2
        refine hasAdded_look bn on bp op ta la (ra 0) ts.length ns.length lv.length n tc nc lc pc (rc 0) st (L 0) (V 0) (R 0) w hc (by omega) (by omega) p0 p1 p2 p3 p5 r ?_
        rw [hr]
        exact ⟨fun h => ⟨h.left, h.right, h.level⟩, fun ⟨h1, h2, h3⟩ => ⟨by omega, hs, by omega, h1, h2, h3⟩⟩
    · rw [no (fun h => hs h.name)]
      refine hasAdded_no bn on ta la pa _ _ _ _ _ _ _ _ st (ns.getD 0 ⟨#[]⟩) w hc (by omega) ?_
      apply Nat.pos_of_ne_zero
      intro hz
      apply hs
      cases hh : ns.getD 0 ⟨#[]⟩ with
      | mk d =>
        rw [hh] at hz
        have : d.size = 0 := hz
        rw [Array.eq_empty_of_size_eq_zero this]

end Go.Proofs.YthoamlahbnphkaaGreat

/-
  The document's Symbols and prodsFit.
-/
namespace Go.Proofs.YthoamlahbnphkaaGreat
open Go.RowKit

attribute [local go_sem] Oper.semAt_some

theorem symbols_any (ta na la pa : Option Addr) (tn nn ln pn tc nc lc pc : Nat) (st : Int) (w : World) (ht : tn ≤ 140737488355328) (hn : nn ≤ 140737488355328) :
    Calls Tryz.prog 83 #[.agg #[.slice ta tn tc, .slice na nn nc, .slice la ln lc, .int .i64 st, .slice pa pn pc]] w fun e w' => e = .returned (.int .i64 ((tn : Int) + nn)) ∧ w.grownBy w' none := by
  go_enter Tryz.func83, Tryz.ntmps83
  go_wp2_with fail
  go_ret
  exact ⟨by first | rfl | go_num, World.grownBy_alloc _ _ none⟩

/-- The grammar's box and a production's. -/
structure PrAt (w wr : World) (Bg : Nat) (cs : Array Value) (Bp : Nat) (ps : Array Value) : Prop where
  ph : PhAt w wr Bg cs
  box : wr.heap[Bp]? = some (.cells ps 71 (0, 0))
theorem PrAt.kept {w wr wx : World} {Bg Bp : Nat} {cs ps : Array Value} (h : PrAt w wr Bg cs Bp ps) (hg : wr.grownBy wx none) : PrAt w wx Bg cs Bp ps :=
  ⟨h.ph.kept hg, (hg.block Bp (Array.getElem?_eq_some_iff.1 h.box).1 (by simp)).trans h.box⟩
theorem PrAt.cells {w wr : World} {Bg Bp : Nat} {cs : Array Value} {v0 v1 v2 : Value} (h : PrAt w wr Bg cs Bp #[v0, v1, v2]) : wr.cell? ⟨Bp, 0, none⟩ = some v0 ∧ wr.cell? ⟨Bp, 1, none⟩ = some v1 ∧ wr.cell? ⟨Bp, 2, none⟩ = some v2 := by
  refine ⟨?_, ?_, ?_⟩ <;> rw [cell_of_row _ _ _ _ _ _ h.box] <;> rfl
theorem PrAt.made {w wr : World} {Bg : Nat} {cs ps : Array Value} (h : PhAt w wr Bg cs) : PrAt w (wr.alloc (.cells ps 71)) Bg cs wr.heap.size ps := ⟨h.kept (World.grownBy_alloc _ _ none), heap_alloc_last wr _⟩

set_option maxRecDepth 100000 in
set_option maxHeartbeats 2000000 in
theorem prodsFit_any (ta na la pa : Option Addr) (tn nn ln pn tc nc lc pc ad : Nat) (st ls : Int) (L : Nat → Int) (R : Nat → List Int) (ra : Nat → Option Addr) (rc : Nat → Nat) (V : Nat → Int) (w : World) (hP : ProdsAt w pa pn L R ra rc V) (hn : pn ≤ 97) (ht0 : 0 < tn) (ht : tn ≤ 65) (hnn : nn ≤ 65) (had : ad ≤ pn) (hls : ls = (tn : Int) + ad)
    (r : Bool) (hr : r = true ↔ ∀ i, ad ≤ i → i < pn → prodOK tn nn ln ad (L i) (R i) (V i)) :
    Calls Tryz.prog 97 #[.agg #[.slice ta tn tc, .slice na nn nc, .slice la ln lc, .int .i64 st, .slice pa pn pc], .int .i64 ad, .int .i64 ls] w fun e w' => e = .returned (.bool r) ∧ w.grownBy w' none := by
  have HP : Hid (ProdsAt w pa pn L R ra rc V) := hP
  have HLS : Hid (ls = (tn : Int) + ad) := hls
  have HR : Hid (r = true ↔ ∀ i, ad ≤ i → i < pn → prodOK tn nn ln ad (L i) (R i) (V i)) := hr
  have HX0 : Hid (PhAt w (w.alloc (.cells #[.slice ta tn tc, .slice na nn nc, .slice la ln lc, .int .i64 st, .slice pa pn pc] 27)) w.heap.size #[.slice ta tn tc, .slice na nn nc, .slice la ln lc, .int .i64 st, .slice pa pn pc]) := ⟨World.grownBy_alloc _ _ none, heap_alloc_last w _⟩
  clear hP hr hls
  go_enter Tryz.func97, Tryz.ntmps97
  go_wp2_with fail
  go_loopg [7] (pn - ad) (fun gk i wr => ∃ k : Nat, ad ≤ k ∧ k ≤ pn ∧ gk = pn - k ∧ i = .int .i64 k ∧ PhAt w wr w.heap.size #[.slice ta tn tc, .slice na nn nc, .slice la ln lc, .int .i64 st, .slice pa pn pc] ∧ ∀ j, ad ≤ j → j < k → prodOK tn nn ln ad (L j) (R j) (V j))
  case atStart => exact ⟨ad, Nat.le_refl _, had, rfl, rfl, HX0.out, fun j h1 h2 => by omega⟩
  case round =>
    obtain ⟨k, hk1, hk, hgk, rfl, hX, hall⟩ := hrel
    have HX : Hid (PhAt w wr w.heap.size #[.slice ta tn tc, .slice na nn nc, .slice la ln lc, .int .i64 st, .slice pa pn pc]) := hX
    have HA : Hid (∀ j, ad ≤ j → j < k → prodOK tn nn ln ad (L j) (R j) (V j)) := hall
    have HGK : Hid (gk = pn - k) := hgk
    clear hX hall hgk HX0
    obtain ⟨m0, m1, m2, m3, m4⟩ := HX.out.cells
    by_cases hlt : k < pn
    · obtain ⟨bp, off, rfl, hcs⟩ : ∃ b off, pa = some ⟨b, off, none⟩ ∧ ∀ k, k < pn → w.cell? ⟨b, off + k * 3, none⟩ = some (.int .i64 (L k)) ∧ w.cell? ⟨b, off + k * 3 + 1, none⟩ = some (.slice (ra k) (R k).length (rc k)) ∧ w.cell? ⟨b, off + k * 3 + 2, none⟩ = some (.int .i64 (V k)) ∧ IntsAt w (ra k) (R k) ∧ (ra k = none → rc k = 0) ∧ (R k).length ≤ 17592186044416 := by
        rcases HP.out with h | h
        · omega
        · exact h
      obtain ⟨h1, h2, h3, hI, _, hlen⟩ := hcs k hlt
      have c0 := HX.out.grown.cell h1 (by simp)
      have c1 := HX.out.grown.cell h2 (by simp)
      have c2 := HX.out.grown.cell h3 (by simp)
      have HI : Hid (IntsAt w (ra k) (R k)) := hI
      have HRF : Hid (¬ prodOK tn nn ln ad (L k) (R k) (V k) → r = false) := fun hno => Bool.eq_false_iff.2 fun hh => hno (HR.out.1 hh k hk1 hlt)
      have HUP : Hid (prodOK tn nn ln ad (L k) (R k) (V k) → ∀ j, ad ≤ j → j < k + 1 → prodOK tn nn ln ad (L j) (R j) (V j)) := fun h j h1 h2 => by
        by_cases e : j = k
        · rw [e]; exact h
        · exact HA.out j h1 (by omega)
      clear hcs h1 h2 h3 hI
      generalize L k = l at *
      generalize V k = v at *
      generalize ra k = ak at *
      generalize rc k = ck at *
      generalize hRk : R k = Rk at *
      clear hRk
      obtain ⟨len, hle⟩ : ∃ len, len = Rk.length := ⟨_, rfl⟩
      have HLE : Hid (Rk.length = len) := hle.symm
      rw [← hle] at hlen c1
      clear hle
      have hcase : (l < ls ∨ (tn : Int) + nn ≤ l ∨ v < 0 ∨ (ln : Int) < v) ∨ (¬ l < ls ∧ ¬ (tn : Int) + nn ≤ l ∧ ¬ v < 0 ∧ ¬ (ln : Int) < v) := by omega
      have HPR : Hid (∀ o, PrAt w ((wr.alloc (.cells #[.int .i64 l, .slice ak len ck, .int .i64 v] 71)).drewN o) w.heap.size #[.slice ta tn tc, .slice na nn nc, .slice la ln lc, .int .i64 st, .slice (some ⟨bp, off, none⟩) pn pc] wr.heap.size #[.int .i64 l, .slice ak len ck, .int .i64 v]) := fun o => (PrAt.made HX.out).kept (grown_drewN _ _)
      rcases hcase with hbad | hgood
      · have hf : r = false := HRF.out fun h => by
          have h1 := h.1
          have h2 := h.2.1
          unfold isNonI at h1
          have := HLS.out
          omega
        have hcase2 : l < ls ∨ (¬ l < ls ∧ (tn : Int) + nn ≤ l) ∨ (¬ l < ls ∧ ¬ (tn : Int) + nn ≤ l ∧ v < 0) ∨ (¬ l < ls ∧ ¬ (tn : Int) + nn ≤ l ∧ ¬ v < 0 ∧ (ln : Int) < v) := by omega
        clear hbad
        rcases hcase2 with hc | hc | hc | hc
        · have d1 : decide (l < ls) = true := decide_eq_true hc
          clear hc
          go_wp2_with fail
          go_quiet (fail)
          go_wp2_with fail
          go_ret
          exact ⟨by first | rfl | (rw [hf]; rfl), (HPR.out _).ph.grown⟩
        all_goals
          have d1 : decide (l < ls) = false := decide_eq_false (by omega)
          first | (have d2 : decide ((tn : Int) + nn ≤ l) = true := decide_eq_true (by omega)) | (have d2 : decide ((tn : Int) + nn ≤ l) = false := decide_eq_false (by omega))
          try first | (have d3 : decide (v < 0) = true := decide_eq_true (by omega)) | (have d3 : decide (v < 0) = false := decide_eq_false (by omega))
          try first | (have d4 : decide ((ln : Int) < v) = true := decide_eq_true (by omega)) | (have d4 : decide ((ln : Int) < v) = false := decide_eq_false (by omega))
          clear hc
          go_wp2_with fail
          have hA := HPR.out 1
          haveI hne : Nonempty (WBox (fun x => PrAt w x w.heap.size #[.slice ta tn tc, .slice na nn nc, .slice la ln lc, .int .i64 st, .slice (some ⟨bp, off, none⟩) pn pc] wr.heap.size #[.int .i64 l, .slice ak len ck, .int .i64 v])) := ⟨⟨_, hA⟩⟩
          have q0 := fun s : WBox (fun x => PrAt w x w.heap.size #[.slice ta tn tc, .slice na nn nc, .slice la ln lc, .int .i64 st, .slice (some ⟨bp, off, none⟩) pn pc] wr.heap.size #[.int .i64 l, .slice ak len ck, .int .i64 v]) => s.ok.cells.1
          have q2 := fun s : WBox (fun x => PrAt w x w.heap.size #[.slice ta tn tc, .slice na nn nc, .slice la ln lc, .int .i64 st, .slice (some ⟨bp, off, none⟩) pn pc] wr.heap.size #[.int .i64 l, .slice ak len ck, .int .i64 v]) => s.ok.cells.2.2
          have g0 := fun s : WBox (fun x => PrAt w x w.heap.size #[.slice ta tn tc, .slice na nn nc, .slice la ln lc, .int .i64 st, .slice (some ⟨bp, off, none⟩) pn pc] wr.heap.size #[.int .i64 l, .slice ak len ck, .int .i64 v]) => s.ok.ph.cells.1
          have g1 := fun s : WBox (fun x => PrAt w x w.heap.size #[.slice ta tn tc, .slice na nn nc, .slice la ln lc, .int .i64 st, .slice (some ⟨bp, off, none⟩) pn pc] wr.heap.size #[.int .i64 l, .slice ak len ck, .int .i64 v]) => s.ok.ph.cells.2.1
          have g2 := fun s : WBox (fun x => PrAt w x w.heap.size #[.slice ta tn tc, .slice na nn nc, .slice la ln lc, .int .i64 st, .slice (some ⟨bp, off, none⟩) pn pc] wr.heap.size #[.int .i64 l, .slice ak len ck, .int .i64 v]) => s.ok.ph.cells.2.2.1
          have g3 := fun s : WBox (fun x => PrAt w x w.heap.size #[.slice ta tn tc, .slice na nn nc, .slice la ln lc, .int .i64 st, .slice (some ⟨bp, off, none⟩) pn pc] wr.heap.size #[.int .i64 l, .slice ak len ck, .int .i64 v]) => s.ok.ph.cells.2.2.2.1
          have g4 := fun s : WBox (fun x => PrAt w x w.heap.size #[.slice ta tn tc, .slice na nn nc, .slice la ln lc, .int .i64 st, .slice (some ⟨bp, off, none⟩) pn pc] wr.heap.size #[.int .i64 l, .slice ak len ck, .int .i64 v]) => s.ok.ph.cells.2.2.2.2
          have K1 : Hid (∀ s : WBox (fun x => PrAt w x w.heap.size #[.slice ta tn tc, .slice na nn nc, .slice la ln lc, .int .i64 st, .slice (some ⟨bp, off, none⟩) pn pc] wr.heap.size #[.int .i64 l, .slice ak len ck, .int .i64 v]), Calls Tryz.prog 83 #[.agg #[.slice ta tn tc, .slice na nn nc, .slice la ln lc, .int .i64 st, .slice (some ⟨bp, off, none⟩) pn pc]] s.w fun e w' => e = .returned (.int .i64 ((tn : Int) + nn)) ∧ ∃ s' : WBox (fun x => PrAt w x w.heap.size #[.slice ta tn tc, .slice na nn nc, .slice la ln lc, .int .i64 st, .slice (some ⟨bp, off, none⟩) pn pc] wr.heap.size #[.int .i64 l, .slice ak len ck, .int .i64 v]), w' = s'.w) := fun s => calls_class ((symbols_any ta na la (some ⟨bp, off, none⟩) tn nn ln pn tc nc lc pc st s.w (by omega) (by omega)).mono fun e w' h => ⟨h.1, s.ok.kept h.2⟩)
          refine wp_region_class (p := fun x => PrAt w x w.heap.size #[.slice ta tn tc, .slice na nn nc, .slice la ln lc, .int .i64 st, .slice (some ⟨bp, off, none⟩) pn pc] wr.heap.size #[.int .i64 l, .slice ak len ck, .int .i64 v]) (by kernel_rfl) (by kernel_rfl) hA ?_
          repeat (go_big_quiet_step (first | (go_at_call 83; rename_i s; with_reducible exact K1.out s)))
          refine wpQuiet_nil ?_
          rintro _ ⟨s, rfl⟩
          go_wp2_with fail
          go_ret
          exact ⟨by first | rfl | (rw [hf]; rfl), s.ok.ph.grown⟩
      · have d1 : decide (l < ls) = false := decide_eq_false hgood.1
        have d2 : decide ((tn : Int) + nn ≤ l) = false := decide_eq_false hgood.2.1
        have d3 : decide (v < 0) = false := decide_eq_false hgood.2.2.1
        have d4 : decide ((ln : Int) < v) = false := decide_eq_false hgood.2.2.2
        have HOK : Hid (isNonI tn nn ad l ∧ 0 ≤ v ∧ v ≤ (ln : Int)) := ⟨⟨by have := HLS.out; omega, by omega⟩, by omega, by omega⟩
        clear hgood
        go_wp2_with fail
        have hA := HPR.out 1
        haveI hne : Nonempty (WBox (fun x => PrAt w x w.heap.size #[.slice ta tn tc, .slice na nn nc, .slice la ln lc, .int .i64 st, .slice (some ⟨bp, off, none⟩) pn pc] wr.heap.size #[.int .i64 l, .slice ak len ck, .int .i64 v])) := ⟨⟨_, hA⟩⟩
        have q0 := fun s : WBox (fun x => PrAt w x w.heap.size #[.slice ta tn tc, .slice na nn nc, .slice la ln lc, .int .i64 st, .slice (some ⟨bp, off, none⟩) pn pc] wr.heap.size #[.int .i64 l, .slice ak len ck, .int .i64 v]) => s.ok.cells.1
        have q2 := fun s : WBox (fun x => PrAt w x w.heap.size #[.slice ta tn tc, .slice na nn nc, .slice la ln lc, .int .i64 st, .slice (some ⟨bp, off, none⟩) pn pc] wr.heap.size #[.int .i64 l, .slice ak len ck, .int .i64 v]) => s.ok.cells.2.2
        have g0 := fun s : WBox (fun x => PrAt w x w.heap.size #[.slice ta tn tc, .slice na nn nc, .slice la ln lc, .int .i64 st, .slice (some ⟨bp, off, none⟩) pn pc] wr.heap.size #[.int .i64 l, .slice ak len ck, .int .i64 v]) => s.ok.ph.cells.1
        have g1 := fun s : WBox (fun x => PrAt w x w.heap.size #[.slice ta tn tc, .slice na nn nc, .slice la ln lc, .int .i64 st, .slice (some ⟨bp, off, none⟩) pn pc] wr.heap.size #[.int .i64 l, .slice ak len ck, .int .i64 v]) => s.ok.ph.cells.2.1
        have g2 := fun s : WBox (fun x => PrAt w x w.heap.size #[.slice ta tn tc, .slice na nn nc, .slice la ln lc, .int .i64 st, .slice (some ⟨bp, off, none⟩) pn pc] wr.heap.size #[.int .i64 l, .slice ak len ck, .int .i64 v]) => s.ok.ph.cells.2.2.1
        have g3 := fun s : WBox (fun x => PrAt w x w.heap.size #[.slice ta tn tc, .slice na nn nc, .slice la ln lc, .int .i64 st, .slice (some ⟨bp, off, none⟩) pn pc] wr.heap.size #[.int .i64 l, .slice ak len ck, .int .i64 v]) => s.ok.ph.cells.2.2.2.1
        have g4 := fun s : WBox (fun x => PrAt w x w.heap.size #[.slice ta tn tc, .slice na nn nc, .slice la ln lc, .int .i64 st, .slice (some ⟨bp, off, none⟩) pn pc] wr.heap.size #[.int .i64 l, .slice ak len ck, .int .i64 v]) => s.ok.ph.cells.2.2.2.2
        have K1 : Hid (∀ s : WBox (fun x => PrAt w x w.heap.size #[.slice ta tn tc, .slice na nn nc, .slice la ln lc, .int .i64 st, .slice (some ⟨bp, off, none⟩) pn pc] wr.heap.size #[.int .i64 l, .slice ak len ck, .int .i64 v]), Calls Tryz.prog 83 #[.agg #[.slice ta tn tc, .slice na nn nc, .slice la ln lc, .int .i64 st, .slice (some ⟨bp, off, none⟩) pn pc]] s.w fun e w' => e = .returned (.int .i64 ((tn : Int) + nn)) ∧ ∃ s' : WBox (fun x => PrAt w x w.heap.size #[.slice ta tn tc, .slice na nn nc, .slice la ln lc, .int .i64 st, .slice (some ⟨bp, off, none⟩) pn pc] wr.heap.size #[.int .i64 l, .slice ak len ck, .int .i64 v]), w' = s'.w) := fun s => calls_class ((symbols_any ta na la (some ⟨bp, off, none⟩) tn nn ln pn tc nc lc pc st s.w (by omega) (by omega)).mono fun e w' h => ⟨h.1, s.ok.kept h.2⟩)
        refine wp_region_class (p := fun x => PrAt w x w.heap.size #[.slice ta tn tc, .slice na nn nc, .slice la ln lc, .int .i64 st, .slice (some ⟨bp, off, none⟩) pn pc] wr.heap.size #[.int .i64 l, .slice ak len ck, .int .i64 v]) (by kernel_rfl) (by kernel_rfl) hA ?_
        repeat (go_big_quiet_step (first | (go_at_call 83; rename_i s; with_reducible exact K1.out s)))
        refine wpQuiet_nil ?_
        rintro _ ⟨s, rfl⟩
        have HX1 : Hid (PrAt w s.w w.heap.size #[.slice ta tn tc, .slice na nn nc, .slice la ln lc, .int .i64 st, .slice (some ⟨bp, off, none⟩) pn pc] wr.heap.size #[.int .i64 l, .slice ak len ck, .int .i64 v]) := s.ok
        generalize s.w = W1 at *
        clear s K1 q0 q2 g0 g1 g2 g3 g4 hne hA HPR c0 c1 c2 m0 m1 m2 m3 m4 HX d1 d2 d3 d4
        generalize wr.heap.size = Bp at *
        go_wp2_with fail
        go_loopg [9] len (fun gx i wz => ∃ x : Nat, x ≤ len ∧ gx = len - x ∧ i = .int .i64 x ∧ PrAt w wz w.heap.size #[.slice ta tn tc, .slice na nn nc, .slice la ln lc, .int .i64 st, .slice (some ⟨bp, off, none⟩) pn pc] Bp #[.int .i64 l, .slice ak len ck, .int .i64 v] ∧ ∀ y ∈ Rk.take x, isSymI tn nn ad y)
        case atStart => exact ⟨0, Nat.zero_le _, rfl, rfl, HX1.out, fun y hy => by simp at hy⟩
        case round =>
          obtain ⟨x, hx, hgx, rfl, hX, hall⟩ := hrel
          have HX : Hid (PrAt w wr w.heap.size #[.slice ta tn tc, .slice na nn nc, .slice la ln lc, .int .i64 st, .slice (some ⟨bp, off, none⟩) pn pc] Bp #[.int .i64 l, .slice ak len ck, .int .i64 v]) := hX
          have HY : Hid (∀ y ∈ Rk.take x, isSymI tn nn ad y) := hall
          have HGX : Hid (gk = len - x) := hgx
          clear hX hall hgx HX1
          obtain ⟨q0, q1, q2⟩ := HX.out.cells
          obtain ⟨m0, m1, m2, m3, m4⟩ := HX.out.ph.cells
          by_cases hlx : x < len
          · have hxl : x < Rk.length := by rw [HLE.out]; exact hlx
            obtain ⟨bl, of2, rfl, hcs⟩ : ∃ b off, ak = some ⟨b, off, none⟩ ∧ ∀ i, i < Rk.length → wr.cell? ⟨b, off + i, none⟩ = some (.int .i64 (Rk.getD i 0)) := by
              rcases HI.out.kept HX.out.ph.grown with h | h
              · rw [h] at hxl; simp at hxl
              · exact h
            have hch := hcs x hxl
            have hmem : Rk.getD x 0 ∈ Rk := by
              have e : Rk.getD x 0 = Rk[x] := by simp [List.getD, hxl]
              rw [e]; exact List.getElem_mem _
            have htk : Rk.take (x + 1) = Rk.take x ++ [Rk.getD x 0] := by rw [List.take_succ_eq_append_getElem hxl]; simp [List.getD, hxl]
            obtain ⟨h, hh⟩ : ∃ h, h = Rk.getD x 0 := ⟨_, rfl⟩
            rw [← hh] at hch hmem htk
            have HST : Hid (isSymI tn nn ad h → ∀ y ∈ Rk.take (x + 1), isSymI tn nn ad y) := fun hs y hy => by
              rw [htk] at hy
              rcases List.mem_append.1 hy with hy | hy
              · exact HY.out y hy
              · simp only [List.mem_singleton] at hy; rw [hy]; exact hs
            have HNO : Hid (¬ isSymI tn nn ad h → r = false) := fun hno => HRF.out fun hp => hno (hp.2.2 h hmem)
            clear hcs hmem htk hh hxl
            have HIS : Hid (isSymI tn nn ad h ↔ ¬ h < 1 ∧ ¬ (tn : Int) + nn ≤ h ∧ ¬ ((tn : Int) ≤ h ∧ h < ls)) := by
              show _ ↔ _
              unfold isSymI isNonI
              have := HLS.out
              omega
            have HSY := symbols_any ta na la (some ⟨bp, off, none⟩) tn nn ln pn tc nc lc pc st wr (by omega) (by omega)
            by_cases h1 : h < 1
            · have d1 : decide (h < 1) = true := decide_eq_true h1
              have hf : r = false := HNO.out fun hs => (HIS.out.1 hs).1 h1
              clear h1 HSY
              go_wp2_with fail
              go_ret
              exact ⟨by first | rfl | (rw [hf]; rfl), HX.out.ph.grown⟩
            · have d1 : decide (h < 1) = false := decide_eq_false h1
              have hcase : (tn : Int) + nn ≤ h ∨ (¬ (tn : Int) + nn ≤ h ∧ (tn : Int) ≤ h ∧ h < ls) ∨ (¬ (tn : Int) + nn ≤ h ∧ (tn : Int) ≤ h ∧ ¬ h < ls) ∨ (¬ (tn : Int) + nn ≤ h ∧ ¬ (tn : Int) ≤ h) := by omega
              rcases hcase with hc | hc | hc | hc
              all_goals
                first | (have d2 : decide ((tn : Int) + nn ≤ h) = true := decide_eq_true (by omega)) | (have d2 : decide ((tn : Int) + nn ≤ h) = false := decide_eq_false (by omega))
                first | (have d3 : decide ((tn : Int) ≤ h) = true := decide_eq_true (by omega)) | (have d3 : decide ((tn : Int) ≤ h) = false := decide_eq_false (by omega))
                try first | (have d4 : decide (h < ls) = true := decide_eq_true (by omega)) | (have d4 : decide (h < ls) = false := decide_eq_false (by omega))
                first
                | (have hf : r = false := HNO.out (by rw [HIS.out]; omega)
                   clear h1 hc HIS
                   go_wp2_with (go_at_call 83; refine HSY.mono ?_; rintro e w2 ⟨rfl, hg2⟩; have HX2 := HX.out.kept hg2; obtain ⟨q0, q1, q2⟩ := HX2.cells; obtain ⟨m0, m1, m2, m3, m4⟩ := HX2.ph.cells; have HX3 : Hid (PrAt w w2 w.heap.size #[.slice ta tn tc, .slice na nn nc, .slice la ln lc, .int .i64 st, .slice (some ⟨bp, off, none⟩) pn pc] Bp #[.int .i64 l, .slice (some ⟨bl, of2, none⟩) len ck, .int .i64 v]) := HX2; clear HX2 hg2)
                   go_ret
                   exact ⟨by first | rfl | (rw [hf]; rfl), HX3.out.ph.grown⟩)
                | (have HS2 : Hid (∀ y ∈ Rk.take (x + 1), isSymI tn nn ad y) := HST.out (HIS.out.2 (by omega))
                   clear h1 hc HIS HST
                   go_wp2_with (go_at_call 83; refine HSY.mono ?_; rintro e w2 ⟨rfl, hg2⟩; have HX2 := HX.out.kept hg2; obtain ⟨q0, q1, q2⟩ := HX2.cells; obtain ⟨m0, m1, m2, m3, m4⟩ := HX2.ph.cells; have HX3 : Hid (PrAt w w2 w.heap.size #[.slice ta tn tc, .slice na nn nc, .slice la ln lc, .int .i64 st, .slice (some ⟨bp, off, none⟩) pn pc] Bp #[.int .i64 l, .slice (some ⟨bl, of2, none⟩) len ck, .int .i64 v]) := HX2; clear HX2 hg2)
                   go_roundg (len - (x + 1))
                   case measure => have := HGX.out; omega
                   case rel => exact ⟨x + 1, by omega, rfl, by go_num, HX3.out, HS2.out⟩)
          · obtain rfl : x = len := by omega
            have ht2 : Rk.take x = Rk := List.take_of_length_le (Nat.le_of_eq HLE.out)
            have HA2 : Hid (∀ j, ad ≤ j → j < k + 1 → prodOK tn nn ln ad (L j) (R j) (V j)) := HUP.out ⟨HOK.out.1, HOK.out.2, by have h4 := HY.out; rwa [ht2] at h4⟩
            clear ht2
            go_wp2_with fail
            go_roundg (pn - (k + 1))
            case measure => have := HGK.out; omega
            case rel => exact ⟨k + 1, by omega, by omega, rfl, by go_num, HX.out.ph, HA2.out⟩
    · obtain rfl : k = pn := by omega
      have hrt : r = true := HR.out.2 HA.out
      go_wp2_with fail
      go_ret
      exact ⟨by first | rfl | (rw [hrt]; rfl), HX.out.grown⟩

end Go.Proofs.YthoamlahbnphkaaGreat
