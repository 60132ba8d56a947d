import Derived.Test.YtmkimeojcpadpaaQboamnakpddpf
import Derived.Test.YtmkimeojcpadpaaQkkplmjdgooej

/-
  reach: ofNons.
-/
namespace Go.Proofs.Ytmkimeojcpadpaa
open Go.RowKit Go.Maps Go.Shelf

attribute [local go_sem] Oper.semAt_some

/-- While marks are told: the boxes of the set and of the grammar, the row. -/
structure OfAt (w wr : World) (b : Nat) (cs : Array Value) (km nn : Nat) (f : Nat → Bool) : Prop where
  grown : w.grownBy wr none
  mbox : wr.heap[w.heap.size]? = some (.cells #[.pointer (some ⟨b, 0, none⟩)] 51 (0, 0))
  gbox : wr.heap[w.heap.size + 1]? = some (.cells cs 27 (0, 0))
  row : BoolAt wr km nn f
  lo : w.heap.size + 2 ≤ km
section
variable {w wr wx : World} {b km nn : Nat} {cs : Array Value} {f : Nat → Bool}
theorem OfAt.kept (h : OfAt w wr b cs km nn f) (hg : wr.grownBy wx none) : OfAt w wx b cs km nn f :=
  ⟨grown_trans h.grown hg, (hg.block _ (Array.getElem?_eq_some_iff.1 h.mbox).1 (by simp)).trans h.mbox, (hg.block _ (Array.getElem?_eq_some_iff.1 h.gbox).1 (by simp)).trans h.gbox, h.row.kept hg, h.lo⟩
theorem OfAt.set (h : OfAt w wr b cs km nn f) (x : Nat) (v : Bool) : OfAt w (wr.setCell ⟨km, x, none⟩ (.bool v)) b cs km nn (mark f x v) :=
  have hg : wr.grownBy (wr.setCell ⟨km, x, none⟩ (.bool v)) (some km) := grown_setCell _ _ _
  have hl := h.lo
  ⟨grown_at h.grown hg (by omega), (hg.block _ (Array.getElem?_eq_some_iff.1 h.mbox).1 (by simp; omega)).trans h.mbox, (hg.block _ (Array.getElem?_eq_some_iff.1 h.gbox).1 (by simp; omega)).trans h.gbox, h.row.set x v, h.lo⟩
theorem OfAt.m (h : OfAt w wr b cs km nn f) : wr.cell? ⟨w.heap.size, 0, none⟩ = some (.pointer (some ⟨b, 0, none⟩)) := by rw [cell_of_row _ _ _ _ _ _ h.mbox]; rfl
theorem OfAt.g (h : OfAt w wr b cs km nn f) (k : Nat) (v : Value) (hv : cs[k]? = some v) : wr.cell? ⟨w.heap.size + 1, k, none⟩ = some v := by rw [cell_of_row _ _ _ _ _ _ h.gbox]; exact hv
end

/-- The first k of a set's marks from tn on. -/
def toldTo (tn m k : Nat) (i : Nat) : Bool := decide (i < k) && m.testBit (tn + i)
theorem toldTo_succ (tn m k : Nat) : mark (toldTo tn m k) k (m.testBit (tn + k)) = toldTo tn m (k + 1) := by
  funext i
  unfold mark toldTo
  by_cases e : i = k
  · subst e; simp
  · rw [if_neg e]
    by_cases h : i < k
    · have : i < k + 1 := by omega
      simp [h, this]
    · have : ¬ i < k + 1 := by omega
      simp [h, this]

set_option maxRecDepth 100000 in
set_option maxHeartbeats 1000000 in
theorem ofNons_any (ta na la pa : Option Addr) (tn nn ln n tc nc lc pc b m : Nat) (st : Int) (w : World) (hS : B.SetM w (some ⟨b, 0, none⟩) (tn + nn) m) (hz : tn + nn ≤ 1024) :
    Calls Try.prog 30 #[.agg #[.pointer (some ⟨b, 0, none⟩)], .agg #[.slice ta tn tc, .slice na nn nc, .slice la ln lc, .int .i64 st, .slice pa n pc]] w fun e w' => ∃ k, e = .returned (.slice (some ⟨k, 0, none⟩) nn nn) ∧ w.heap.size ≤ k ∧ BoolAt w' k nn (toldTo tn m nn) ∧ w.grownBy w' none := by
  have HS : Hid (B.SetM w (some ⟨b, 0, none⟩) (tn + nn) m) := hS
  have hg2 : w.grownBy ((w.alloc (.cells #[.pointer (some ⟨b, 0, none⟩)] 51)).alloc (.cells #[.slice ta tn tc, .slice na nn nc, .slice la ln lc, .int .i64 st, .slice pa n pc] 27)) none := grown_trans (World.grownBy_alloc _ _ none) (World.grownBy_alloc _ _ none)
  have HG2 : Hid (w.grownBy ((w.alloc (.cells #[.pointer (some ⟨b, 0, none⟩)] 51)).alloc (.cells #[.slice ta tn tc, .slice na nn nc, .slice la ln lc, .int .i64 st, .slice pa n pc] 27)) none) := hg2
  clear hS hg2
  obtain ⟨i0, hi, hz0, hz1, hz2⟩ := info_parts infoBool
  go_enter Try.func30, Try.ntmps30
  go_wp2_with (at_make; refine wpList_make_full _ rfl _ _ 29 rfl (w.heap.size + 2) 4 i0 (.bool false) 1 Try.underlying29 hi hz0 hz1 .i64 .i64 _ _ nn rfl rfl (by simp) (by simp) (by rw [hz2]; omega) (by unfold maxLen; omega) (by simp) ?_)
  intro w1 hown hgrow
  have hof : OfAt w w1 b #[.slice ta tn tc, .slice na nn nc, .slice la ln lc, .int .i64 st, .slice pa n pc] (w.heap.size + 1 + 1) nn (toldTo tn m 0) := by
    refine ⟨grown_trans HG2.out hgrow, ?_, ?_, ?_, by omega⟩
    · refine (hgrow.block _ (by simp; omega) (by simp)).trans ?_
      exact ((World.grownBy_alloc (w.alloc _) _ none).block _ (by simp) (by simp)).trans (heap_alloc_last w _)
    · refine (hgrow.block _ (by simp) (by simp)).trans ?_
      have := heap_alloc_last (w.alloc (.cells #[.pointer (some ⟨b, 0, none⟩)] 51)) (.cells #[.slice ta tn tc, .slice na nn nc, .slice la ln lc, .int .i64 st, .slice pa n pc] 27)
      rw [World.size_alloc] at this
      exact this
    · have h9 := made_bools (w := (w.alloc (.cells #[.pointer (some ⟨b, 0, none⟩)] 51)).alloc (.cells #[.slice ta tn tc, .slice na nn nc, .slice la ln lc, .int .i64 st, .slice pa n pc] 27)) (w1 := w1) (B := w.heap.size + 2) (n := nn) (by simpa [Value.cells] using hown)
      have e9 : toldTo tn m 0 = fun _ => false := by funext i; simp [toldTo]
      rw [e9]
      simpa using h9
  have HOF : Hid (OfAt w w1 b #[.slice ta tn tc, .slice na nn nc, .slice la ln lc, .int .i64 st, .slice pa n pc] (w.heap.size + 1 + 1) nn (toldTo tn m 0)) := hof
  clear hown hgrow hof HG2 hi hz0 hz1 hz2
  go_wp2_with fail
  go_loopg [13] nn (fun gk i wr => ∃ k : Nat, k ≤ nn ∧ gk = nn - k ∧ i = .int .i64 k ∧ OfAt w wr b #[.slice ta tn tc, .slice na nn nc, .slice la ln lc, .int .i64 st, .slice pa n pc] (w.heap.size + 1 + 1) nn (toldTo tn m k))
  case atStart => exact ⟨0, Nat.zero_le _, rfl, rfl, HOF.out⟩
  case round =>
    obtain ⟨k, hk, hgk, rfl, hO⟩ := hrel
    have HGK : Hid (gk = nn - k) := hgk
    have HO : Hid (OfAt w wr b #[.slice ta tn tc, .slice na nn nc, .slice la ln lc, .int .i64 st, .slice pa n pc] (w.heap.size + 1 + 1) nn (toldTo tn m k)) := hO
    clear hgk hO HOF
    by_cases hlt : k < nn
    · have c0 := HO.out.m
      have g0 := HO.out.g 0 _ rfl
      have hk0 : (0 : Int) ≤ (k : Int) := by omega
      have hk1 : (k : Int) < (nn : Int) := by omega
      have HH := B.has_any (some ⟨b, 0, none⟩) (tn + nn) m ((tn : Int) + (k : Int)) wr (SetM_kept HS.out HO.out.grown)
      have e1 : B.hasB m ((tn : Int) + (k : Int)) = m.testBit (tn + k) := by
        unfold B.hasB
        have e2 : ((tn : Int) + (k : Int)).toNat = tn + k := by omega
        rw [e2, decide_eq_true (by omega), Bool.true_and]
      rw [e1] at HH
      obtain ⟨q, hq⟩ : ∃ q, q = m.testBit (tn + k) := ⟨_, rfl⟩
      rw [← hq] at HH
      have HHH : Hid (Calls Try.prog 33 #[.pointer (some ⟨b, 0, none⟩), .int .i64 ((tn : Int) + (k : Int))] wr fun e w' => e = .returned (.bool q) ∧ ∃ j, w' = wr.drewN j) := HH
      have HQ : Hid (q = m.testBit (tn + k)) := hq
      clear HH e1 hq
      go_wp2_with fail
      refine Calls.mono HHH.out ?_
      rintro e w2 ⟨rfl, jj, rfl⟩
      have HO2 : Hid (OfAt w (wr.drewN jj) b #[.slice ta tn tc, .slice na nn nc, .slice la ln lc, .int .i64 st, .slice pa n pc] (w.heap.size + 1 + 1) nn (toldTo tn m k)) := HO.out.kept (grown_drewN _ _)
      generalize wr.drewN jj = w2 at *
      have b0 := HO2.out.row.cell k hlt
      have fz := HO2.out.row.free k
      clear c0 g0
      go_wp2_with fail
      go_roundg (nn - (k + 1))
      case measure => have := HGK.out; omega
      case rel => exact ⟨k + 1, by omega, rfl, by go_num, by rw [← toldTo_succ, ← HQ.out]; exact HO2.out.set k q⟩
    · have hkn : k = nn := by omega
      subst hkn
      go_wp2_with fail
      go_ret
      exact ⟨w.heap.size + 1 + 1, rfl, by omega, HO.out.row, HO.out.grown⟩

end Go.Proofs.Ytmkimeojcpadpaa

/-
  reach: again, with the first of useOf's steps.
-/
namespace Go.Proofs.Ytmkimeojcpadpaa
open Go.RowKit Go.Maps Go.Shelf

attribute [local go_sem] Oper.semAt_some

/-- The cells of a rule. -/
def RuleC (x : World) (kb k : Nat) (l : Int) (r : Value) (v : Int) (q : Option Addr) : Prop :=
  x.cell? ⟨kb, k * 4, none⟩ = some (.int .i64 l) ∧ x.cell? ⟨kb, k * 4 + 1, none⟩ = some r ∧ x.cell? ⟨kb, k * 4 + 2, none⟩ = some (.int .i64 v) ∧ x.cell? ⟨kb, k * 4 + 3, none⟩ = some (.pointer q)

set_option maxRecDepth 100000 in
set_option maxHeartbeats 1000000 in
theorem again1_any {σ : Type} (Inv : σ → World → Prop) (step : Nat → σ → σ) (ad : Nat → σ → Nat) (mu : σ → Nat) (n kb cap bu pb : Nat) (p1 p2 : Option Addr) (L V : Nat → Int) (ra : Nat → Option Addr) (rn rc : Nat → Nat) (q : Nat → Option Addr) (w : World) (hpb : pb < w.heap.size) (hn : n ≤ 97)
    (hK : ∀ s x y, Inv s x → x.grownBy y none → Inv s y)
    (hC : ∀ s x k, k < n → Inv s x → Calls Try.prog 44 #[.agg #[.int .i64 (L k), .slice (ra k) (rn k) (rc k), .int .i64 (V k), .pointer (q k)], .pointer (some ⟨bu, 0, none⟩)] x fun e y => e = .returned (.int .i64 (ad k s : Nat)) ∧ Inv (step k s) y ∧ x.grownBy y (some pb))
    (hR : ∀ s x, Inv s x → ∀ k, k < n → RuleC x kb k (L k) (.slice (ra k) (rn k) (rc k)) (V k) (q k))
    (hm : ∀ k s, k < n → mu (step k s) + ad k s ≤ mu s) (hb : ∀ s, mu s ≤ 100000) (hst : ∀ k s, ad k s = 0 → step k s = s) (s0 : σ) (h0 : Inv s0 w) :
    Calls Try.prog 43 #[.agg #[.slice (some ⟨kb, 0, none⟩) n cap, .pointer p1, .pointer p2], .func (.func 44) #[] #[.pointer (some ⟨bu, 0, none⟩)]] w fun e y => e = .returned (.tuple #[]) ∧ ∃ s, Inv s y ∧ Fix step (fun k s => decide (0 < ad k s)) n s0 s := by
  have HK : Hid (∀ s x y, Inv s x → x.grownBy y none → Inv s y) := hK
  have HC : Hid (∀ s x k, k < n → Inv s x → Calls Try.prog 44 #[.agg #[.int .i64 (L k), .slice (ra k) (rn k) (rc k), .int .i64 (V k), .pointer (q k)], .pointer (some ⟨bu, 0, none⟩)] x fun e y => e = .returned (.int .i64 (ad k s : Nat)) ∧ Inv (step k s) y ∧ x.grownBy y (some pb)) := hC
  have HR : Hid (∀ s x, Inv s x → ∀ k, k < n → RuleC x kb k (L k) (.slice (ra k) (rn k) (rc k)) (V k) (q k)) := hR
  have HMU : Hid (∀ k s, k < n → mu (step k s) + ad k s ≤ mu s) := hm
  have HBD : Hid (∀ s, mu s ≤ 100000) := hb
  have HI0 : Hid (Inv s0 (w.alloc (.cells #[.slice (some ⟨kb, 0, none⟩) n cap, .pointer p1, .pointer p2] 53))) := hK _ _ _ h0 (World.grownBy_alloc _ _ none)
  have HX0 : Hid ((w.alloc (.cells #[.slice (some ⟨kb, 0, none⟩) n cap, .pointer p1, .pointer p2] 53)).heap[w.heap.size]? = some (.cells #[.slice (some ⟨kb, 0, none⟩) n cap, .pointer p1, .pointer p2] 53 (0, 0))) := heap_alloc_last w _
  have HSM : Hid (∀ k s, decide (0 < ad k s) = false → step k s = s) := fun k s h => hst k s (by have := of_decide_eq_false h; omega)
  clear hK hC hR hm hb h0 hst
  go_enter Try.func43, Try.ntmps43
  go_wp2_with fail
  go_loopg [4] (mu s0 + 1) (fun gk a wr => ∃ (z : Nat) (t : Nat) (s : σ), a = .int .i64 z ∧ z ≤ 100000 ∧ s = itr step n t s0 ∧ (z = 0 → rchg step (fun k s => decide (0 < ad k s)) n s = false) ∧ gk = (if z = 0 then 0 else mu s + 1) ∧ Inv s wr ∧ wr.heap[w.heap.size]? = some (.cells #[.slice (some ⟨kb, 0, none⟩) n cap, .pointer p1, .pointer p2] 53 (0, 0)))
  case atStart => exact ⟨1, 0, s0, rfl, by omega, rfl, by simp, by simp, HI0.out, HX0.out⟩
  case round =>
    obtain ⟨z, t, s, rfl, hz, hs, hzf, hgk, hI, hX⟩ := hrel
    have HS : Hid (s = itr step n t s0) := hs
    have HZF : Hid (z = 0 → rchg step (fun k s => decide (0 < ad k s)) n s = false) := hzf
    have HGK : Hid (gk = (if z = 0 then 0 else mu s + 1)) := hgk
    have HI : Hid (Inv s wr) := hI
    have HX : Hid (wr.heap[w.heap.size]? = some (.cells #[.slice (some ⟨kb, 0, none⟩) n cap, .pointer p1, .pointer p2] 53 (0, 0))) := hX
    clear hs hzf hgk hI hX HI0 HX0
    by_cases hz0 : z = 0
    · subst hz0
      go_wp2_with fail
      refine bodyPost_end (results_none rfl _ _ _) rfl ?_
      exact ⟨rfl, s, HI.out, t, HS.out, HZF.out (by first | rfl | trivial)⟩
    · have hzp : (0 : Int) < (z : Int) := by omega
      have hzn : decide (0 < z) = true := decide_eq_true (by omega)
      have HZ0 : Hid (¬ z = 0) := hz0
      have x0 : wr.cell? ⟨w.heap.size, 0, none⟩ = some (.slice (some ⟨kb, 0, none⟩) n cap) := by rw [cell_of_row _ _ _ _ _ _ HX.out]; rfl
      clear hz0
      generalize wr = W0 at *
      go_wp2_with fail
      go_loopg [4, 12] n (fun gx a i wx => ∃ (k y : Nat), k ≤ n ∧ gx = n - k ∧ i = .int .i64 k ∧ a = .int .i64 y ∧ y + mu (rnd step k s) ≤ mu s ∧ rchg step (fun k s => decide (0 < ad k s)) k s = decide (0 < y) ∧ Inv (rnd step k s) wx ∧ wx.heap[w.heap.size]? = some (.cells #[.slice (some ⟨kb, 0, none⟩) n cap, .pointer p1, .pointer p2] 53 (0, 0)))
      case atStart => exact ⟨0, 0, Nat.zero_le _, rfl, rfl, rfl, by simp [rnd], rfl, HI.out, HX.out⟩
      case round =>
        obtain ⟨k, y, hk, hgx, rfl, rfl, hmu, hrc, hI2, hX2⟩ := hrel
        have HGX : Hid (gk = n - k) := hgx
        have HM2 : Hid (y + mu (rnd step k s) ≤ mu s) := hmu
        have HRC : Hid (rchg step (fun k s => decide (0 < ad k s)) k s = decide (0 < y)) := hrc
        have HI2 : Hid (Inv (rnd step k s) wr) := hI2
        have HX2 : Hid (wr.heap[w.heap.size]? = some (.cells #[.slice (some ⟨kb, 0, none⟩) n cap, .pointer p1, .pointer p2] 53 (0, 0))) := hX2
        have hyb : y ≤ 100000 := by have := HBD.out s; omega
        clear hgx hmu hrc hI2 hX2 HI HX x0
        by_cases hlt : k < n
        · obtain ⟨c0, c1, c2, c3⟩ := HR.out _ _ HI2.out k hlt
          have hk0 : (0 : Int) ≤ (k : Int) := by omega
          have hk1 : (k : Int) < (n : Int) := by omega
          have hmk := HMU.out k (rnd step k s) hlt
          have had : ad k (rnd step k s) ≤ 100000 := by have := HBD.out (rnd step k s); omega
          have HST : Hid (rnd step (k + 1) s = step k (rnd step k s) ∧ rchg step (fun k s => decide (0 < ad k s)) (k + 1) s = (rchg step (fun k s => decide (0 < ad k s)) k s || decide (0 < ad k (rnd step k s)))) := ⟨rfl, rfl⟩
          have HCL := HC.out (rnd step k s)
          obtain ⟨g, hg⟩ : ∃ g, g = rnd step k s := ⟨_, rfl⟩
          rw [← hg] at hmk had HST HCL
          have HI3 : Hid (Inv g wr) := by rw [hg]; exact HI2.out
          have HM3 : Hid (y + mu g ≤ mu s) := by rw [hg]; exact HM2.out
          obtain ⟨d, hd⟩ : ∃ d, d = ad k g := ⟨_, rfl⟩
          have hdb : d ≤ 100000 := by rw [hd]; exact had
          have HMK : Hid (mu (step k g) + d ≤ mu g) := by rw [hd]; exact hmk
          rw [← hd] at HST
          obtain ⟨l, hl⟩ : ∃ l, l = L k := ⟨_, rfl⟩
          obtain ⟨v, hv⟩ : ∃ v, v = V k := ⟨_, rfl⟩
          obtain ⟨a1, ha1⟩ : ∃ a1, a1 = ra k := ⟨_, rfl⟩
          obtain ⟨a2, ha2⟩ : ∃ a2, a2 = rn k := ⟨_, rfl⟩
          obtain ⟨a3, ha3⟩ : ∃ a3, a3 = rc k := ⟨_, rfl⟩
          obtain ⟨a4, ha4⟩ : ∃ a4, a4 = q k := ⟨_, rfl⟩
          rw [← hl] at c0
          rw [← ha1, ← ha2, ← ha3] at c1
          rw [← hv] at c2
          rw [← ha4] at c3
          have HCL2 : Hid (∀ x, Inv g x → Calls Try.prog 44 #[.agg #[.int .i64 l, .slice a1 a2 a3, .int .i64 v, .pointer a4], .pointer (some ⟨bu, 0, none⟩)] x fun e y => e = .returned (.int .i64 (d : Nat)) ∧ Inv (step k g) y ∧ x.grownBy y (some pb)) := fun x hx => by rw [hl, ha1, ha2, ha3, hv, ha4, hd]; exact HCL x k hlt hx
          have HPB : Hid (pb < w.heap.size) := hpb
          clear hmk had HCL hg hd hl hv ha1 ha2 ha3 ha4 HI2 HM2
          have HI4 : Hid (Inv g (wr.alloc (.cells #[.int .i64 l, .slice a1 a2 a3, .int .i64 v, .pointer a4] 78))) := HK.out _ _ _ HI3.out (World.grownBy_alloc _ _ none)
          have HX4 : Hid ((wr.alloc (.cells #[.int .i64 l, .slice a1 a2 a3, .int .i64 v, .pointer a4] 78)).heap[w.heap.size]? = some (.cells #[.slice (some ⟨kb, 0, none⟩) n cap, .pointer p1, .pointer p2] 53 (0, 0))) := ((World.grownBy_alloc wr _ none).block _ (Array.getElem?_eq_some_iff.1 HX2.out).1 (by simp)).trans HX2.out
          go_wp2_with fail
          refine Calls.mono (HCL2.out _ HI4.out) ?_
          rintro e w5 ⟨rfl, hI5, hg5⟩
          have HI5 : Hid (Inv (step k g) w5) := hI5
          have HX5 : Hid (w5.heap[w.heap.size]? = some (.cells #[.slice (some ⟨kb, 0, none⟩) n cap, .pointer p1, .pointer p2] 53 (0, 0))) := (hg5.block _ (Array.getElem?_eq_some_iff.1 HX4.out).1 (by have := HPB.out; simp; omega)).trans HX4.out
          clear hI5 hg5 c0 c1 c2 c3
          go_wp2_with fail
          go_roundg (n - (k + 1))
          case measure => have := HGX.out; omega
          case rel => exact ⟨k + 1, y + d, by omega, rfl, by go_num, by go_num, by rw [HST.out.1]; have h1 := HM3.out; have h2 := HMK.out; omega, by rw [HST.out.2, HRC.out]; by_cases h1 : 0 < y <;> by_cases h2 : 0 < d <;> simp [h1, h2] <;> omega, by rw [HST.out.1]; exact HI5.out, HX5.out⟩
        · have hkn : k = n := by omega
          subst hkn
          obtain ⟨g, hg⟩ : ∃ g, g = rnd step k s := ⟨_, rfl⟩
          have HITR : Hid (g = itr step k (t + 1) s0) := by rw [hg, HS.out]; exact rfl
          have HZG : Hid (y = 0 → rchg step (fun k s => decide (0 < ad k s)) k g = false) := fun h => by
            have h1 := HRC.out
            rw [h] at h1
            have h2 := rnd_same step (fun k s => decide (0 < ad k s)) HSM.out s k h1
            rw [hg, h2]
            exact h1
          have HIG : Hid (Inv g wr) := by rw [hg]; exact HI2.out
          have HMG : Hid (y + mu g ≤ mu s) := by rw [hg]; exact HM2.out
          clear hg HI2 HM2 HRC
          go_wp2_with fail
          go_roundg (if y = 0 then 0 else mu g + 1)
          case measure =>
            have h1 := HGK.out
            have h2 := HZ0.out
            have h3 := HMG.out
            rw [if_neg h2] at h1
            split <;> omega
          case rel => exact ⟨y, t + 1, g, rfl, hyb, HITR.out, HZG.out, rfl, HIG.out, HX2.out⟩

end Go.Proofs.Ytmkimeojcpadpaa

/-
  reach: again, with the second of useOf's steps.
-/
namespace Go.Proofs.Ytmkimeojcpadpaa
open Go.RowKit Go.Maps Go.Shelf

attribute [local go_sem] Oper.semAt_some

set_option maxRecDepth 100000 in
set_option maxHeartbeats 1000000 in
theorem again2_any {σ : Type} (Inv : σ → World → Prop) (step : Nat → σ → σ) (ad : Nat → σ → Nat) (mu : σ → Nat) (n kb cap bu pb : Nat) (p1 p2 : Option Addr) (L V : Nat → Int) (ra : Nat → Option Addr) (rn rc : Nat → Nat) (q : Nat → Option Addr) (w : World) (hpb : pb < w.heap.size) (hn : n ≤ 97)
    (hK : ∀ s x y, Inv s x → x.grownBy y none → Inv s y)
    (hC : ∀ s x k, k < n → Inv s x → Calls Try.prog 47 #[.agg #[.int .i64 (L k), .slice (ra k) (rn k) (rc k), .int .i64 (V k), .pointer (q k)], .pointer (some ⟨bu, 0, none⟩)] x fun e y => e = .returned (.int .i64 (ad k s : Nat)) ∧ Inv (step k s) y ∧ x.grownBy y (some pb))
    (hR : ∀ s x, Inv s x → ∀ k, k < n → RuleC x kb k (L k) (.slice (ra k) (rn k) (rc k)) (V k) (q k))
    (hm : ∀ k s, k < n → mu (step k s) + ad k s ≤ mu s) (hb : ∀ s, mu s ≤ 100000) (hst : ∀ k s, ad k s = 0 → step k s = s) (s0 : σ) (h0 : Inv s0 w) :
    Calls Try.prog 43 #[.agg #[.slice (some ⟨kb, 0, none⟩) n cap, .pointer p1, .pointer p2], .func (.func 47) #[] #[.pointer (some ⟨bu, 0, none⟩)]] w fun e y => e = .returned (.tuple #[]) ∧ ∃ s, Inv s y ∧ Fix step (fun k s => decide (0 < ad k s)) n s0 s := by
  have HK : Hid (∀ s x y, Inv s x → x.grownBy y none → Inv s y) := hK
  have HC : Hid (∀ s x k, k < n → Inv s x → Calls Try.prog 47 #[.agg #[.int .i64 (L k), .slice (ra k) (rn k) (rc k), .int .i64 (V k), .pointer (q k)], .pointer (some ⟨bu, 0, none⟩)] x fun e y => e = .returned (.int .i64 (ad k s : Nat)) ∧ Inv (step k s) y ∧ x.grownBy y (some pb)) := hC
  have HR : Hid (∀ s x, Inv s x → ∀ k, k < n → RuleC x kb k (L k) (.slice (ra k) (rn k) (rc k)) (V k) (q k)) := hR
  have HMU : Hid (∀ k s, k < n → mu (step k s) + ad k s ≤ mu s) := hm
  have HBD : Hid (∀ s, mu s ≤ 100000) := hb
  have HI0 : Hid (Inv s0 (w.alloc (.cells #[.slice (some ⟨kb, 0, none⟩) n cap, .pointer p1, .pointer p2] 53))) := hK _ _ _ h0 (World.grownBy_alloc _ _ none)
  have HX0 : Hid ((w.alloc (.cells #[.slice (some ⟨kb, 0, none⟩) n cap, .pointer p1, .pointer p2] 53)).heap[w.heap.size]? = some (.cells #[.slice (some ⟨kb, 0, none⟩) n cap, .pointer p1, .pointer p2] 53 (0, 0))) := heap_alloc_last w _
  have HSM : Hid (∀ k s, decide (0 < ad k s) = false → step k s = s) := fun k s h => hst k s (by have := of_decide_eq_false h; omega)
  clear hK hC hR hm hb h0 hst
  go_enter Try.func43, Try.ntmps43
  go_wp2_with fail
  go_loopg [4] (mu s0 + 1) (fun gk a wr => ∃ (z : Nat) (t : Nat) (s : σ), a = .int .i64 z ∧ z ≤ 100000 ∧ s = itr step n t s0 ∧ (z = 0 → rchg step (fun k s => decide (0 < ad k s)) n s = false) ∧ gk = (if z = 0 then 0 else mu s + 1) ∧ Inv s wr ∧ wr.heap[w.heap.size]? = some (.cells #[.slice (some ⟨kb, 0, none⟩) n cap, .pointer p1, .pointer p2] 53 (0, 0)))
  case atStart => exact ⟨1, 0, s0, rfl, by omega, rfl, by simp, by simp, HI0.out, HX0.out⟩
  case round =>
    obtain ⟨z, t, s, rfl, hz, hs, hzf, hgk, hI, hX⟩ := hrel
    have HS : Hid (s = itr step n t s0) := hs
    have HZF : Hid (z = 0 → rchg step (fun k s => decide (0 < ad k s)) n s = false) := hzf
    have HGK : Hid (gk = (if z = 0 then 0 else mu s + 1)) := hgk
    have HI : Hid (Inv s wr) := hI
    have HX : Hid (wr.heap[w.heap.size]? = some (.cells #[.slice (some ⟨kb, 0, none⟩) n cap, .pointer p1, .pointer p2] 53 (0, 0))) := hX
    clear hs hzf hgk hI hX HI0 HX0
    by_cases hz0 : z = 0
    · subst hz0
      go_wp2_with fail
      refine bodyPost_end (results_none rfl _ _ _) rfl ?_
      exact ⟨rfl, s, HI.out, t, HS.out, HZF.out (by first | rfl | trivial)⟩
    · have hzp : (0 : Int) < (z : Int) := by omega
      have hzn : decide (0 < z) = true := decide_eq_true (by omega)
      have HZ0 : Hid (¬ z = 0) := hz0
      have x0 : wr.cell? ⟨w.heap.size, 0, none⟩ = some (.slice (some ⟨kb, 0, none⟩) n cap) := by rw [cell_of_row _ _ _ _ _ _ HX.out]; rfl
      clear hz0
      generalize wr = W0 at *
      go_wp2_with fail
      go_loopg [4, 12] n (fun gx a i wx => ∃ (k y : Nat), k ≤ n ∧ gx = n - k ∧ i = .int .i64 k ∧ a = .int .i64 y ∧ y + mu (rnd step k s) ≤ mu s ∧ rchg step (fun k s => decide (0 < ad k s)) k s = decide (0 < y) ∧ Inv (rnd step k s) wx ∧ wx.heap[w.heap.size]? = some (.cells #[.slice (some ⟨kb, 0, none⟩) n cap, .pointer p1, .pointer p2] 53 (0, 0)))
      case atStart => exact ⟨0, 0, Nat.zero_le _, rfl, rfl, rfl, by simp [rnd], rfl, HI.out, HX.out⟩
      case round =>
        obtain ⟨k, y, hk, hgx, rfl, rfl, hmu, hrc, hI2, hX2⟩ := hrel
        have HGX : Hid (gk = n - k) := hgx
        have HM2 : Hid (y + mu (rnd step k s) ≤ mu s) := hmu
        have HRC : Hid (rchg step (fun k s => decide (0 < ad k s)) k s = decide (0 < y)) := hrc
        have HI2 : Hid (Inv (rnd step k s) wr) := hI2
        have HX2 : Hid (wr.heap[w.heap.size]? = some (.cells #[.slice (some ⟨kb, 0, none⟩) n cap, .pointer p1, .pointer p2] 53 (0, 0))) := hX2
        have hyb : y ≤ 100000 := by have := HBD.out s; omega
        clear hgx hmu hrc hI2 hX2 HI HX x0
        by_cases hlt : k < n
        · obtain ⟨c0, c1, c2, c3⟩ := HR.out _ _ HI2.out k hlt
          have hk0 : (0 : Int) ≤ (k : Int) := by omega
          have hk1 : (k : Int) < (n : Int) := by omega
          have hmk := HMU.out k (rnd step k s) hlt
          have had : ad k (rnd step k s) ≤ 100000 := by have := HBD.out (rnd step k s); omega
          have HST : Hid (rnd step (k + 1) s = step k (rnd step k s) ∧ rchg step (fun k s => decide (0 < ad k s)) (k + 1) s = (rchg step (fun k s => decide (0 < ad k s)) k s || decide (0 < ad k (rnd step k s)))) := ⟨rfl, rfl⟩
          have HCL := HC.out (rnd step k s)
          obtain ⟨g, hg⟩ : ∃ g, g = rnd step k s := ⟨_, rfl⟩
          rw [← hg] at hmk had HST HCL
          have HI3 : Hid (Inv g wr) := by rw [hg]; exact HI2.out
          have HM3 : Hid (y + mu g ≤ mu s) := by rw [hg]; exact HM2.out
          obtain ⟨d, hd⟩ : ∃ d, d = ad k g := ⟨_, rfl⟩
          have hdb : d ≤ 100000 := by rw [hd]; exact had
          have HMK : Hid (mu (step k g) + d ≤ mu g) := by rw [hd]; exact hmk
          rw [← hd] at HST
          obtain ⟨l, hl⟩ : ∃ l, l = L k := ⟨_, rfl⟩
          obtain ⟨v, hv⟩ : ∃ v, v = V k := ⟨_, rfl⟩
          obtain ⟨a1, ha1⟩ : ∃ a1, a1 = ra k := ⟨_, rfl⟩
          obtain ⟨a2, ha2⟩ : ∃ a2, a2 = rn k := ⟨_, rfl⟩
          obtain ⟨a3, ha3⟩ : ∃ a3, a3 = rc k := ⟨_, rfl⟩
          obtain ⟨a4, ha4⟩ : ∃ a4, a4 = q k := ⟨_, rfl⟩
          rw [← hl] at c0
          rw [← ha1, ← ha2, ← ha3] at c1
          rw [← hv] at c2
          rw [← ha4] at c3
          have HCL2 : Hid (∀ x, Inv g x → Calls Try.prog 47 #[.agg #[.int .i64 l, .slice a1 a2 a3, .int .i64 v, .pointer a4], .pointer (some ⟨bu, 0, none⟩)] x fun e y => e = .returned (.int .i64 (d : Nat)) ∧ Inv (step k g) y ∧ x.grownBy y (some pb)) := fun x hx => by rw [hl, ha1, ha2, ha3, hv, ha4, hd]; exact HCL x k hlt hx
          have HPB : Hid (pb < w.heap.size) := hpb
          clear hmk had HCL hg hd hl hv ha1 ha2 ha3 ha4 HI2 HM2
          have HI4 : Hid (Inv g (wr.alloc (.cells #[.int .i64 l, .slice a1 a2 a3, .int .i64 v, .pointer a4] 78))) := HK.out _ _ _ HI3.out (World.grownBy_alloc _ _ none)
          have HX4 : Hid ((wr.alloc (.cells #[.int .i64 l, .slice a1 a2 a3, .int .i64 v, .pointer a4] 78)).heap[w.heap.size]? = some (.cells #[.slice (some ⟨kb, 0, none⟩) n cap, .pointer p1, .pointer p2] 53 (0, 0))) := ((World.grownBy_alloc wr _ none).block _ (Array.getElem?_eq_some_iff.1 HX2.out).1 (by simp)).trans HX2.out
          go_wp2_with fail
          refine Calls.mono (HCL2.out _ HI4.out) ?_
          rintro e w5 ⟨rfl, hI5, hg5⟩
          have HI5 : Hid (Inv (step k g) w5) := hI5
          have HX5 : Hid (w5.heap[w.heap.size]? = some (.cells #[.slice (some ⟨kb, 0, none⟩) n cap, .pointer p1, .pointer p2] 53 (0, 0))) := (hg5.block _ (Array.getElem?_eq_some_iff.1 HX4.out).1 (by have := HPB.out; simp; omega)).trans HX4.out
          clear hI5 hg5 c0 c1 c2 c3
          go_wp2_with fail
          go_roundg (n - (k + 1))
          case measure => have := HGX.out; omega
          case rel => exact ⟨k + 1, y + d, by omega, rfl, by go_num, by go_num, by rw [HST.out.1]; have h1 := HM3.out; have h2 := HMK.out; omega, by rw [HST.out.2, HRC.out]; by_cases h1 : 0 < y <;> by_cases h2 : 0 < d <;> simp [h1, h2] <;> omega, by rw [HST.out.1]; exact HI5.out, HX5.out⟩
        · have hkn : k = n := by omega
          subst hkn
          obtain ⟨g, hg⟩ : ∃ g, g = rnd step k s := ⟨_, rfl⟩
          have HITR : Hid (g = itr step k (t + 1) s0) := by rw [hg, HS.out]; exact rfl
          have HZG : Hid (y = 0 → rchg step (fun k s => decide (0 < ad k s)) k g = false) := fun h => by
            have h1 := HRC.out
            rw [h] at h1
            have h2 := rnd_same step (fun k s => decide (0 < ad k s)) HSM.out s k h1
            rw [hg, h2]
            exact h1
          have HIG : Hid (Inv g wr) := by rw [hg]; exact HI2.out
          have HMG : Hid (y + mu g ≤ mu s) := by rw [hg]; exact HM2.out
          clear hg HI2 HM2 HRC
          go_wp2_with fail
          go_roundg (if y = 0 then 0 else mu g + 1)
          case measure =>
            have h1 := HGK.out
            have h2 := HZ0.out
            have h3 := HMG.out
            rw [if_neg h2] at h1
            split <;> omega
          case rel => exact ⟨y, t + 1, g, rfl, hyb, HITR.out, HZG.out, rfl, HIG.out, HX2.out⟩

end Go.Proofs.Ytmkimeojcpadpaa

/-
  reach: the first of useOf's steps.
-/
namespace Go.Proofs.Ytmkimeojcpadpaa
open Go.RowKit Go.Maps Go.Shelf

attribute [local go_sem] Oper.semAt_some

/-- One member more. -/
theorem add_one (b n m bl : Nat) (x : Int) (w : World) (hS : B.SetM w (some ⟨b, 0, none⟩) n m) (hne : bl ≠ b) (hl : w.cell? ⟨bl, 0, none⟩ = some (.int .i64 x)) :
    Calls Try.prog 42 #[.pointer (some ⟨b, 0, none⟩), .slice (some ⟨bl, 0, none⟩) 1 1] w fun e w' => e = .returned (.int .i64 ((B.addS n m [x]).2 : Nat)) ∧ B.SetM w' (some ⟨b, 0, none⟩) n (B.addS n m [x]).1 ∧ w.grownBy w' (some b) := by
  have h1 : ∀ i, i < [x].length → w.cell? ⟨bl, 0 + i, none⟩ = some (.int .i64 ([x].getD i 0)) := fun i hi => by
    have : i = 0 := by simpa using hi
    subst this
    exact hl
  refine Calls.mono (B.add_row b n m bl 0 1 [x] w hS.1 hS.2.1 (SetM_row hS) hne (by simp) h1) ?_
  rintro e w' ⟨he, hr, hlt, hb⟩
  exact ⟨he, B.SetM.of hr hS.1 hlt, hb.os, hb.tape, hb.output, hb.size, fun k hk hne => hb.block k hk (by simpa using hne)⟩

theorem grown_some {w w' : World} (b : Nat) (h : w.grownBy w' none) : w.grownBy w' (some b) := ⟨h.os, h.tape, h.output, h.size, fun k hk _ => h.block k hk (by simp)⟩
theorem grown_then {w w1 w2 : World} {b : Nat} (h : w.grownBy w1 none) (hg : w1.grownBy w2 (some b)) : w.grownBy w2 (some b) :=
  ⟨hg.os.trans h.os, hg.tape.trans h.tape, hg.output.trans h.output, Nat.le_trans h.size hg.size, fun k hk hne => (hg.block k (Nat.lt_of_lt_of_le hk h.size) hne).trans (h.block k hk (by simp))⟩

set_option maxRecDepth 100000 in
set_option maxHeartbeats 1000000 in
theorem step1_any (bu pb ub qb N m s : Nat) (rs : Value) (l v : Int) (ra : Option Addr) (rn rc : Nat) (w : World) (hU : w.heap[bu]? = some (.cells #[rs, .pointer (some ⟨pb, 0, none⟩), .pointer (some ⟨ub, 0, none⟩)] 53 (0, 0))) (hP : B.SetM w (some ⟨pb, 0, none⟩) N m) (hQ : B.SetM w (some ⟨qb, 0, none⟩) N s) (c : Bool) (hc : c = true ↔ ∀ i, s.testBit i = true → m.testBit i = true) :
    Calls Try.prog 44 #[.agg #[.int .i64 l, .slice ra rn rc, .int .i64 v, .pointer (some ⟨qb, 0, none⟩)], .pointer (some ⟨bu, 0, none⟩)] w fun e y => e = .returned (.int .i64 ((if c = true then (B.addS N m [l]).2 else 0 : Nat) : Int)) ∧ B.SetM y (some ⟨pb, 0, none⟩) N (if c = true then (B.addS N m [l]).1 else m) ∧ w.grownBy y (some pb) := by
  have u1 : w.cell? ⟨bu, 1, none⟩ = some (.pointer (some ⟨pb, 0, none⟩)) := by rw [cell_of_row _ _ _ _ _ _ hU]; rfl
  have HU : Hid (w.cell? ⟨bu, 1, none⟩ = some (.pointer (some ⟨pb, 0, none⟩))) := u1
  have HP : Hid (B.SetM w (some ⟨pb, 0, none⟩) N m) := hP
  have HQ : Hid (B.SetM w (some ⟨qb, 0, none⟩) N s) := hQ
  have HCV : Hid (∀ x, w.grownBy x none → Calls Try.prog 45 #[.agg #[.pointer (some ⟨pb, 0, none⟩)], .agg #[.pointer (some ⟨qb, 0, none⟩)]] x fun e w' => e = .returned (.bool c) ∧ x.grownBy w' none) := fun x hx => covers_any pb qb N m s x (SetM_kept hP hx) (SetM_kept hQ hx) c hc
  have HG1 : Hid (w.grownBy (w.alloc (.cells #[.int .i64 l, .slice ra rn rc, .int .i64 v, .pointer (some ⟨qb, 0, none⟩)] 78)) none) := World.grownBy_alloc _ _ none
  have u2 := (World.grownBy_alloc w (.cells #[.int .i64 l, .slice ra rn rc, .int .i64 v, .pointer (some ⟨qb, 0, none⟩)] 78) none).cell u1 (by simp)
  have HBX : Hid ((w.alloc (.cells #[.int .i64 l, .slice ra rn rc, .int .i64 v, .pointer (some ⟨qb, 0, none⟩)] 78)).heap[w.heap.size]? = some (.cells #[.int .i64 l, .slice ra rn rc, .int .i64 v, .pointer (some ⟨qb, 0, none⟩)] 78 (0, 0))) := heap_alloc_last w _
  clear hU hP hQ hc
  go_enter Try.func44, Try.ntmps44
  go_wp2_with fail
  refine Calls.mono (HCV.out _ HG1.out) ?_
  rintro e w2 ⟨rfl, hg2⟩
  have HG2 : Hid (w.grownBy w2 none) := grown_trans HG1.out hg2
  have u3 := HG2.out.cell HU.out (by simp)
  have r0 : w2.cell? ⟨w.heap.size, 0, none⟩ = some (.int .i64 l) := by rw [cell_of_row _ _ _ _ _ _ ((hg2.block _ (Array.getElem?_eq_some_iff.1 HBX.out).1 (by simp)).trans HBX.out)]; rfl
  clear hg2 u1 u2
  cases c with
  | false =>
    go_wp2_with fail
    go_ret
    exact ⟨by first | rfl | simp, by first | exact SetM_kept HP.out HG2.out | (simp; exact SetM_kept HP.out HG2.out), grown_some _ HG2.out⟩
  | true =>
    have HAD : Hid (Calls Try.prog 42 #[.pointer (some ⟨pb, 0, none⟩), .slice (some ⟨w2.heap.size, 0, none⟩) 1 1] (w2.alloc (.cells #[.int .i64 l] 3)) fun e w' => e = .returned (.int .i64 ((B.addS N m [l]).2 : Nat)) ∧ B.SetM w' (some ⟨pb, 0, none⟩) N (B.addS N m [l]).1 ∧ (w2.alloc (.cells #[.int .i64 l] 3)).grownBy w' (some pb)) := by
      have h1 := SetM_kept HP.out HG2.out
      exact add_one pb N m w2.heap.size l _ (SetM_kept h1 (World.grownBy_alloc _ _ none)) (by have := SetM_lt h1; omega) (new_cell w2 _ _)
    go_wp2_with fail
    refine Calls.mono HAD.out ?_
    rintro e w3 ⟨rfl, hS3, hg3⟩
    have HS3 : Hid (B.SetM w3 (some ⟨pb, 0, none⟩) N (B.addS N m [l]).1) := hS3
    have HG3 : Hid (w.grownBy w3 (some pb)) := grown_then (grown_trans HG2.out (World.grownBy_alloc _ _ none)) hg3
    clear hS3 hg3
    go_wp2_with fail
    go_ret
    exact ⟨by first | rfl | simp, by first | exact HS3.out | (simp; exact HS3.out), HG3.out⟩

end Go.Proofs.Ytmkimeojcpadpaa

/-
  reach: stays.
-/
namespace Go.Proofs.Ytmkimeojcpadpaa
open Go.RowKit Go.Maps Go.Shelf

attribute [local go_sem] Oper.semAt_some

set_option maxRecDepth 100000 in
set_option maxHeartbeats 1000000 in
theorem stays_any (pb ub qb N m s u : Nat) (rs : Value) (l v : Int) (ra : Option Addr) (rn rc : Nat) (w : World) (hP : B.SetM w (some ⟨pb, 0, none⟩) N m) (hU : B.SetM w (some ⟨ub, 0, none⟩) N u) (hQ : B.SetM w (some ⟨qb, 0, none⟩) N s) (c : Bool) (hc : c = true ↔ ∀ i, s.testBit i = true → m.testBit i = true) (h : Bool) (hh : h = B.hasB u l) :
    Calls Try.prog 48 #[.agg #[rs, .pointer (some ⟨pb, 0, none⟩), .pointer (some ⟨ub, 0, none⟩)], .agg #[.int .i64 l, .slice ra rn rc, .int .i64 v, .pointer (some ⟨qb, 0, none⟩)]] w fun e y => e = .returned (.bool (h && c)) ∧ w.grownBy y none := by
  have HCV : Hid (∀ x, w.grownBy x none → Calls Try.prog 45 #[.agg #[.pointer (some ⟨pb, 0, none⟩)], .agg #[.pointer (some ⟨qb, 0, none⟩)]] x fun e w' => e = .returned (.bool c) ∧ x.grownBy w' none) := fun x hx => covers_any pb qb N m s x (SetM_kept hP hx) (SetM_kept hQ hx) c hc
  have HHS : Hid (∀ x, w.grownBy x none → Calls Try.prog 33 #[.pointer (some ⟨ub, 0, none⟩), .int .i64 l] x fun e w' => e = .returned (.bool h) ∧ x.grownBy w' none) := fun x hx => (B.has_any _ N u l x (SetM_kept hU hx)).mono fun e w' ⟨he, j, hj⟩ => ⟨by rw [hh]; exact he, by rw [hj]; exact grown_drewN _ _⟩
  have HGY : Hid (w.grownBy ((w.alloc (.cells #[rs, .pointer (some ⟨pb, 0, none⟩), .pointer (some ⟨ub, 0, none⟩)] 53)).alloc (.cells #[.int .i64 l, .slice ra rn rc, .int .i64 v, .pointer (some ⟨qb, 0, none⟩)] 78)) none) := grown_trans (World.grownBy_alloc _ _ none) (World.grownBy_alloc _ _ none)
  have HB0 : Hid (((w.alloc (.cells #[rs, .pointer (some ⟨pb, 0, none⟩), .pointer (some ⟨ub, 0, none⟩)] 53)).alloc (.cells #[.int .i64 l, .slice ra rn rc, .int .i64 v, .pointer (some ⟨qb, 0, none⟩)] 78)).heap[w.heap.size]? = some (.cells #[rs, .pointer (some ⟨pb, 0, none⟩), .pointer (some ⟨ub, 0, none⟩)] 53 (0, 0))) := ((World.grownBy_alloc (w.alloc _) _ none).block _ (by simp) (by simp)).trans (heap_alloc_last w _)
  have HB1 : Hid (((w.alloc (.cells #[rs, .pointer (some ⟨pb, 0, none⟩), .pointer (some ⟨ub, 0, none⟩)] 53)).alloc (.cells #[.int .i64 l, .slice ra rn rc, .int .i64 v, .pointer (some ⟨qb, 0, none⟩)] 78)).heap[w.heap.size + 1]? = some (.cells #[.int .i64 l, .slice ra rn rc, .int .i64 v, .pointer (some ⟨qb, 0, none⟩)] 78 (0, 0))) := by
    have h9 := heap_alloc_last (w.alloc (.cells #[rs, .pointer (some ⟨pb, 0, none⟩), .pointer (some ⟨ub, 0, none⟩)] 53)) (.cells #[.int .i64 l, .slice ra rn rc, .int .i64 v, .pointer (some ⟨qb, 0, none⟩)] 78)
    rw [World.size_alloc] at h9
    exact h9
  clear hP hU hQ hc hh
  go_enter Try.func48, Try.ntmps48
  go_wp2_with fail
  refine Calls.mono (HHS.out _ HGY.out) ?_
  rintro e w2 ⟨rfl, hg2⟩
  have HG2 : Hid (w.grownBy w2 none) := grown_trans HGY.out hg2
  have x1 : w2.cell? ⟨w.heap.size, 1, none⟩ = some (.pointer (some ⟨pb, 0, none⟩)) := by rw [cell_of_row _ _ _ _ _ _ ((hg2.block _ (Array.getElem?_eq_some_iff.1 HB0.out).1 (by simp)).trans HB0.out)]; rfl
  have x2 : w2.cell? ⟨w.heap.size + 1, 3, none⟩ = some (.pointer (some ⟨qb, 0, none⟩)) := by rw [cell_of_row _ _ _ _ _ _ ((hg2.block _ (Array.getElem?_eq_some_iff.1 HB1.out).1 (by simp)).trans HB1.out)]; rfl
  clear hg2
  cases h with
  | false =>
    go_wp2_with fail
    go_ret
    exact ⟨by first | rfl | simp, HG2.out⟩
  | true =>
    go_wp2_with fail
    refine Calls.mono (HCV.out _ HG2.out) ?_
    rintro e w3 ⟨rfl, hg3⟩
    have HG3 : Hid (w.grownBy w3 none) := grown_trans HG2.out hg3
    clear hg3
    go_wp2_with fail
    go_ret
    exact ⟨by first | rfl | simp, HG3.out⟩

end Go.Proofs.Ytmkimeojcpadpaa

/-
  reach: the second of useOf's steps.
-/
namespace Go.Proofs.Ytmkimeojcpadpaa
open Go.RowKit Go.Maps Go.Shelf

attribute [local go_sem] Oper.semAt_some

set_option maxRecDepth 100000 in
set_option maxHeartbeats 1000000 in
theorem step2_any (bu pb ub qb N m s u kb n cap : Nat) (l v : Int) (ra : Option Addr) (rn rc : Nat) (w : World) (hB : w.heap[bu]? = some (.cells #[.slice (some ⟨kb, 0, none⟩) n cap, .pointer (some ⟨pb, 0, none⟩), .pointer (some ⟨ub, 0, none⟩)] 53 (0, 0))) (hP : B.SetM w (some ⟨pb, 0, none⟩) N m) (hU : B.SetM w (some ⟨ub, 0, none⟩) N u) (hQ : B.SetM w (some ⟨qb, 0, none⟩) N s) (hne : qb ≠ ub) (c : Bool) (hc : c = true ↔ ∀ i, s.testBit i = true → m.testBit i = true) (t : Bool) (ht : t = (B.hasB u l && c)) (z : Int) (hz : z = ((B.cnt (u ||| (s &&& (2 ^ N - 1))) : Nat) : Int) - (B.cnt u : Nat)) (u2 : Nat) (hu2 : u2 = u ||| (s &&& (2 ^ N - 1))) :
    Calls Try.prog 47 #[.agg #[.int .i64 l, .slice ra rn rc, .int .i64 v, .pointer (some ⟨qb, 0, none⟩)], .pointer (some ⟨bu, 0, none⟩)] w fun e y => e = .returned (.int .i64 (if t = true then z else 0)) ∧ B.SetM y (some ⟨ub, 0, none⟩) N (if t = true then u2 else u) ∧ w.grownBy y (some ub) := by
  have HST : Hid (∀ x, w.grownBy x none → Calls Try.prog 48 #[.agg #[.slice (some ⟨kb, 0, none⟩) n cap, .pointer (some ⟨pb, 0, none⟩), .pointer (some ⟨ub, 0, none⟩)], .agg #[.int .i64 l, .slice ra rn rc, .int .i64 v, .pointer (some ⟨qb, 0, none⟩)]] x fun e y => e = .returned (.bool t) ∧ x.grownBy y none) := fun x hx => by
    rw [ht]; exact stays_any pb ub qb N m s u _ l v ra rn rc x (SetM_kept hP hx) (SetM_kept hU hx) (SetM_kept hQ hx) c hc _ rfl
  have HUN : Hid (∀ x, w.grownBy x none → Calls Try.prog 49 #[.pointer (some ⟨ub, 0, none⟩), .slice (some ⟨x.heap.size, 0, none⟩) 1 1] (x.alloc (.cells #[.pointer (some ⟨qb, 0, none⟩)] 49)) fun e y => e = .returned (.int .i64 z) ∧ B.SetM y (some ⟨ub, 0, none⟩) N u2 ∧ (x.alloc (.cells #[.pointer (some ⟨qb, 0, none⟩)] 49)).grownBy y (some ub)) := fun x hx =>
    have hg := grown_trans hx (World.grownBy_alloc x (.cells #[.pointer (some ⟨qb, 0, none⟩)] 49) none)
    union_one ub qb N u s x.heap.size _ (SetM_kept hU hg) (SetM_kept hQ hg) hne (by have := SetM_lt (SetM_kept hU hx); omega) (new_cell x _ _) z hz u2 hu2
  have HUS : Hid (B.SetM w (some ⟨ub, 0, none⟩) N u) := hU
  have HBX : Hid (w.heap[bu]? = some (.cells #[.slice (some ⟨kb, 0, none⟩) n cap, .pointer (some ⟨pb, 0, none⟩), .pointer (some ⟨ub, 0, none⟩)] 53 (0, 0))) := hB
  have HG1 : Hid (w.grownBy (w.alloc (.cells #[.int .i64 l, .slice ra rn rc, .int .i64 v, .pointer (some ⟨qb, 0, none⟩)] 78)) none) := World.grownBy_alloc _ _ none
  have HRB : Hid ((w.alloc (.cells #[.int .i64 l, .slice ra rn rc, .int .i64 v, .pointer (some ⟨qb, 0, none⟩)] 78)).heap[w.heap.size]? = some (.cells #[.int .i64 l, .slice ra rn rc, .int .i64 v, .pointer (some ⟨qb, 0, none⟩)] 78 (0, 0))) := heap_alloc_last w _
  have HKB : Hid (∀ x, w.grownBy x none → x.heap[bu]? = some (.cells #[.slice (some ⟨kb, 0, none⟩) n cap, .pointer (some ⟨pb, 0, none⟩), .pointer (some ⟨ub, 0, none⟩)] 53 (0, 0))) := fun x hx => (hx.block _ (Array.getElem?_eq_some_iff.1 hB).1 (by simp)).trans hB
  have u0 : (w.alloc (.cells #[.int .i64 l, .slice ra rn rc, .int .i64 v, .pointer (some ⟨qb, 0, none⟩)] 78)).cell? ⟨bu, 0, none⟩ = some (.slice (some ⟨kb, 0, none⟩) n cap) := by rw [cell_of_row _ _ _ _ _ _ (HKB.out _ HG1.out)]; rfl
  have u1 : (w.alloc (.cells #[.int .i64 l, .slice ra rn rc, .int .i64 v, .pointer (some ⟨qb, 0, none⟩)] 78)).cell? ⟨bu, 1, none⟩ = some (.pointer (some ⟨pb, 0, none⟩)) := by rw [cell_of_row _ _ _ _ _ _ (HKB.out _ HG1.out)]; rfl
  have u9 : (w.alloc (.cells #[.int .i64 l, .slice ra rn rc, .int .i64 v, .pointer (some ⟨qb, 0, none⟩)] 78)).cell? ⟨bu, 2, none⟩ = some (.pointer (some ⟨ub, 0, none⟩)) := by rw [cell_of_row _ _ _ _ _ _ (HKB.out _ HG1.out)]; rfl
  clear hB hP hU hQ hc ht hz hu2 hne
  go_enter Try.func47, Try.ntmps47
  go_wp2_with fail
  refine Calls.mono (HST.out _ HG1.out) ?_
  rintro e w2 ⟨rfl, hg2⟩
  have HG2 : Hid (w.grownBy w2 none) := grown_trans HG1.out hg2
  have x1 : w2.cell? ⟨bu, 2, none⟩ = some (.pointer (some ⟨ub, 0, none⟩)) := by rw [cell_of_row _ _ _ _ _ _ (HKB.out _ HG2.out)]; rfl
  have x2 : w2.cell? ⟨w.heap.size, 3, none⟩ = some (.pointer (some ⟨qb, 0, none⟩)) := by rw [cell_of_row _ _ _ _ _ _ ((hg2.block _ (Array.getElem?_eq_some_iff.1 HRB.out).1 (by simp)).trans HRB.out)]; rfl
  clear hg2 u0 u1 u9
  cases t with
  | false =>
    go_wp2_with fail
    go_ret
    exact ⟨by first | rfl | simp, by first | exact SetM_kept HUS.out HG2.out | (simp; exact SetM_kept HUS.out HG2.out), grown_some _ HG2.out⟩
  | true =>
    go_wp2_with fail
    refine Calls.mono (HUN.out _ HG2.out) ?_
    rintro e w3 ⟨rfl, hS3, hg3⟩
    have HS3 : Hid (B.SetM w3 (some ⟨ub, 0, none⟩) N u2) := hS3
    have HG3 : Hid (w.grownBy w3 (some ub)) := grown_then (grown_trans HG2.out (World.grownBy_alloc _ _ none)) hg3
    clear hS3 hg3
    go_wp2_with fail
    go_ret
    exact ⟨by first | rfl | simp, by first | exact HS3.out | (simp; exact HS3.out), HG3.out⟩

end Go.Proofs.Ytmkimeojcpadpaa

/-
  reach: mayBe, root.
-/
namespace Go.Proofs.Ytmkimeojcpadpaa
open Go.RowKit Go.Maps Go.Shelf

attribute [local go_sem] Oper.semAt_some

set_option maxRecDepth 100000 in
theorem emayBe_any (ta na la pa : Option Addr) (tc nc lc pc : Nat) (ts : List (ByteArray × Int)) (ns : List ByteArray) (lv : List Int) (n : Nat) (L : Nat → Int) (R : Nat → List Int) (ra : Nat → Option Addr) (rc : Nat → Nat) (V : Nat → Int) (st : Int) (w : World) (tn nn ln : Nat) (hlen : ts.length = tn ∧ ns.length = nn ∧ lv.length = ln) (hG : GAt w ta na la pa tc nc lc pc ts ns lv n L R ra rc V) (r : Bool) (hr : r = true ↔ validOK ts ns lv st n L R V ∨ closedOK ts ns lv st n L R V) :
    Calls Try.prog 28 #[.agg #[.slice ta tn tc, .slice na nn nc, .slice la ln lc, .int .i64 st, .slice pa n pc]] w fun e w' => e = .returned (.bool r) ∧ w.grownBy w' none := by
  obtain ⟨rV, hrV⟩ := boolOf (validOK ts ns lv st n L R V)
  obtain ⟨rC, hrC⟩ := boolOf (closedOK ts ns lv st n L R V)
  have HV : Hid (∀ Y, w.grownBy Y none → Calls Try.prog 32 #[.agg #[.slice ta tn tc, .slice na nn nc, .slice la ln lc, .int .i64 st, .slice pa n pc]] Y fun e w' => e = .returned (.bool rV) ∧ Y.grownBy w' none) := fun Y hY => by
    have := valid_any ta na la pa tc nc lc pc ts ns lv n L R ra rc V st Y (hG.kept hY) rV hrV
    rwa [hlen.1, hlen.2.1, hlen.2.2] at this
  have HC : Hid (∀ Y, w.grownBy Y none → Calls Try.prog 39 #[.agg #[.slice ta tn tc, .slice na nn nc, .slice la ln lc, .int .i64 st, .slice pa n pc]] Y fun e w' => e = .returned (.bool rC) ∧ Y.grownBy w' none) := fun Y hY => by
    have := closed_any ta na la pa tc nc lc pc ts ns lv n L R ra rc V st Y (hG.kept hY) rC hrC
    rwa [hlen.1, hlen.2.1, hlen.2.2] at this
  have hre : r = (rV || rC) := by
    rw [Bool.eq_iff_iff, hr, Bool.or_eq_true, hrV, hrC]
  have HX0 : Hid (PhAt w (w.alloc (.cells #[.slice ta tn tc, .slice na nn nc, .slice la ln lc, .int .i64 st, .slice pa n pc] 27)) w.heap.size #[.slice ta tn tc, .slice na nn nc, .slice la ln lc, .int .i64 st, .slice pa n pc]) := ⟨World.grownBy_alloc _ _ none, heap_alloc_last w _⟩
  clear hG hlen hr hrV hrC
  subst hre
  cases rV
  · go_enter Try.func28, Try.ntmps28
    go_wp2_with fail
    refine Calls.mono (HV.out _ HX0.out.grown) ?_
    rintro e w1 ⟨rfl, hg1⟩
    have HX1 : Hid (PhAt w w1 w.heap.size #[.slice ta tn tc, .slice na nn nc, .slice la ln lc, .int .i64 st, .slice pa n pc]) := HX0.out.kept hg1
    obtain ⟨k0, k1, k2, k3, k4⟩ := HX1.out.cells
    clear hg1 HX0
    go_wp2_with fail
    refine Calls.mono (HC.out w1 HX1.out.grown) ?_
    rintro e w2 ⟨rfl, hg2⟩
    have HG2 : Hid (w.grownBy w2 none) := grown_trans HX1.out.grown hg2
    clear hg2 HX1 HC HV
    go_wp2_with fail
    go_ret
    exact ⟨by simp, HG2.out⟩
  · go_enter Try.func28, Try.ntmps28
    go_wp2_with fail
    refine Calls.mono (HV.out _ HX0.out.grown) ?_
    rintro e w1 ⟨rfl, hg1⟩
    have HX1 : Hid (PhAt w w1 w.heap.size #[.slice ta tn tc, .slice na nn nc, .slice la ln lc, .int .i64 st, .slice pa n pc]) := HX0.out.kept hg1
    obtain ⟨k0, k1, k2, k3, k4⟩ := HX1.out.cells
    clear hg1 HX0
    go_wp2_with fail
    go_ret
    exact ⟨by simp, HX1.out.grown⟩

set_option maxRecDepth 100000 in
theorem root_any (ta na la pa : Option Addr) (tc nc lc pc : Nat) (ts : List (ByteArray × Int)) (ns : List ByteArray) (lv : List Int) (n : Nat) (L : Nat → Int) (R : Nat → List Int) (ra : Nat → Option Addr) (rc : Nat → Nat) (V : Nat → Int) (st : Int) (w : World) (tn nn ln : Nat) (hlen : ts.length = tn ∧ ns.length = nn ∧ lv.length = ln) (hG : GAt w ta na la pa tc nc lc pc ts ns lv n L R ra rc V) (r : Bool) (hr : r = true ↔ closedOK ts ns lv st n L R V) :
    Calls Try.prog 46 #[.agg #[.slice ta tn tc, .slice na nn nc, .slice la ln lc, .int .i64 st, .slice pa n pc]] w fun e w' => e = .returned (.int .i64 (if r = true then (tn : Int) else st)) ∧ w.grownBy w' none := by
  have HC : Hid (∀ Y, w.grownBy Y none → Calls Try.prog 39 #[.agg #[.slice ta tn tc, .slice na nn nc, .slice la ln lc, .int .i64 st, .slice pa n pc]] Y fun e w' => e = .returned (.bool r) ∧ Y.grownBy w' none) := fun Y hY => by
    have := closed_any ta na la pa tc nc lc pc ts ns lv n L R ra rc V st Y (hG.kept hY) r hr
    rwa [hlen.1, hlen.2.1, hlen.2.2] at this
  have HX0 : Hid (PhAt w (w.alloc (.cells #[.slice ta tn tc, .slice na nn nc, .slice la ln lc, .int .i64 st, .slice pa n pc] 27)) w.heap.size #[.slice ta tn tc, .slice na nn nc, .slice la ln lc, .int .i64 st, .slice pa n pc]) := ⟨World.grownBy_alloc _ _ none, heap_alloc_last w _⟩
  clear hG hlen hr
  go_enter Try.func46, Try.ntmps46
  go_wp2_with fail
  refine Calls.mono (HC.out _ HX0.out.grown) ?_
  rintro e w1 ⟨rfl, hg1⟩
  have HX1 : Hid (PhAt w w1 w.heap.size #[.slice ta tn tc, .slice na nn nc, .slice la ln lc, .int .i64 st, .slice pa n pc]) := HX0.out.kept hg1
  obtain ⟨k0, k1, k2, k3, k4⟩ := HX1.out.cells
  clear hg1 HX0 HC
  cases r with
  | true =>
    go_wp2_with fail
    go_ret
    exact ⟨by first | rfl | simp, HX1.out.grown⟩
  | false =>
    go_wp2_with fail
    go_ret
    exact ⟨by first | rfl | simp, HX1.out.grown⟩

end Go.Proofs.Ytmkimeojcpadpaa
