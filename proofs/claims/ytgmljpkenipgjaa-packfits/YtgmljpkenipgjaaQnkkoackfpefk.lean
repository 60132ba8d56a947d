import Derived.Test.YtgmljpkenipgjaaQbdfjpalhgigm
import Derived.Shelf.SlSortCmp.Insertion
import Derived.Shelf.SlGeneric
import Derived.Ground.SlsfProg

/-
  pack: the library's stable sort: stretches changed about.
-/
namespace Go.Proofs.Ytgmljpkenipgjaa
open Go.Shelf Go.RowKit Go.Lib Go.Sort
shelf_lay_g SlLaysF.n20 Slsf 20 at Try 59 as Try.insInts
end Go.Proofs.Ytgmljpkenipgjaa
namespace Go.Proofs.Ytgmljpkenipgjaa.Pk
open Go.Sort Go.RowKit Go.Shelf

set_option maxHeartbeats 4000000 in
set_option maxRecDepth 1000000 in
theorem swap_any (enc : Nat → Value) (hO : OneCell enc) (cv : Value) (blk off cap a b n : Nat) (d : Array Nat) (w : World) (hH : Holds enc w blk off d) (hab : a + n ≤ b) (hb : b + n ≤ d.size) (hsz : d.size < 4611686018427387904) :
    Calls Try.prog 62 #[.slice (some ⟨blk, off, none⟩) d.size cap, .int .i64 a, .int .i64 b, .int .i64 n, cv] w fun e y => e = .returned (.tuple #[]) ∧ ∃ d', SwTo a b n d d' ∧ PermIn a (b + n) d d' ∧ ∃ q, y = (putRow enc w blk off d').drewN q := by
  have hcl0 := hO.cells
  simp only [Value.cells] at hcl0
  have hst := hO.store Try.prog
  have mixed : Try.prog.follows .mixedOrders = true := by kernel_rfl
  have HST : Hid (w = (putRow enc w blk off d).drewN 0) := (putRow_self enc w blk off d hH).symm
  have HH : Hid (Holds enc w blk off d) := hH
  clear hH
  go_enter Try.func62, Try.ntmps62
  go_wp2
  go_loopg [10] n (fun gk vi wr => ∃ (i q : Nat) (dk : Array Nat), vi = .int .i64 i ∧ i ≤ n ∧ gk = n - i ∧ dk.size = d.size ∧ wr = (putRow enc w blk off dk).drewN q ∧ Hid (SwTo a b i d dk) ∧ Hid (PermIn a (b + n) d dk))
  case atStart => exact ⟨0, 0, d, rfl, Nat.zero_le _, rfl, rfl, HST.out, SwTo.zero _ _ _, permIn_refl _ _ _⟩
  case round =>
    obtain ⟨i, q, dk, rfl, hin, hgk, hsk, rfl, HS, HP⟩ := hrel
    by_cases hlt : i < n
    · have hltz : (i : Int) < (n : Int) := by omega
      have hHj := holds_putRow enc w blk off d dk HH.out hsk
      obtain ⟨xa, hxa⟩ : ∃ x, dk[a + i]! = x := ⟨_, rfl⟩
      obtain ⟨xb, hxb⟩ : ∃ x, dk[b + i]! = x := ⟨_, rfl⟩
      obtain ⟨ca, fa⟩ := hHj (a + i) (by omega)
      obtain ⟨cb, fb⟩ := hHj (b + i) (by omega)
      rw [hxa] at ca
      rw [hxb] at cb
      obtain ⟨pa, hpa⟩ : ∃ p, p = a + i := ⟨_, rfl⟩
      obtain ⟨pb, hpb⟩ : ∃ p, p = b + i := ⟨_, rfl⟩
      rw [← hpa] at ca fa hxa
      rw [← hpb] at cb fb hxb
      have wa : IntKind.i64.wrap ((a : Int) + (i : Int)) = (pa : Int) := by rw [IntKind.wrap_i64]; omega
      have wb : IntKind.i64.wrap ((b : Int) + (i : Int)) = (pb : Int) := by rw [IntKind.wrap_i64]; omega
      have ja : (pa : Int) < (d.size : Int) := by omega
      have jb : (pb : Int) < (d.size : Int) := by omega
      have ca' : ((putRow enc w blk off dk).drewN q).cell? ⟨blk, off + pa, none⟩ = some (enc xa) := ca
      have cb' : ((putRow enc w blk off dk).drewN q).cell? ⟨blk, off + pb, none⟩ = some (enc xb) := cb
      have fa' : ((putRow enc w blk off dk).drewN q).frozen? ⟨blk, off + pa, none⟩ = false := fa
      have fb' : ((putRow enc w blk off dk).drewN q).frozen? ⟨blk, off + pb, none⟩ = false := fb
      have HPA : Hid (pa = a + i) := hpa
      have HPB : Hid (pb = b + i) := hpb
      clear ca cb fa fb hHj hpa hpb
      generalize hwq : (putRow enc w blk off dk).drewN q = wq at ca' cb' fa' fb' ⊢
      have HWQ : Hid (wq = (putRow enc w blk off dk).drewN q) := hwq.symm
      clear hwq
      obtain ⟨v', hy'⟩ := cell?_setCell_some (w := wq) (p := ⟨blk, off + pa, none⟩) (x := enc xb) (q := ⟨blk, off + pb, none⟩) cb'
      go_wp2_with fail
      go_big_region_o
      all_goals go_wp2
      go_roundg (n - (i + 1))
      case measure => omega
      case rel =>
        have e1 := HPA.out
        have e2 := HPB.out
        refine ⟨i + 1, q + 1, swp dk pa pb, by go_num, by omega, rfl, by rw [size_swp]; exact hsk, ?_, ?_, ?_⟩
        · rw [HWQ.out, ← hxa, ← hxb]
          exact swap_worldC enc w blk off dk q pa pb (by omega) (by omega)
        · rw [e1, e2]
          exact HS.out.step (by omega) (by omega)
        · exact permIn_trans _ _ _ _ _ HP.out (swp_permIn _ _ _ _ _ (by omega) (by omega) (by omega) (by omega) (by omega))
    · have hltz : ¬ (i : Int) < (n : Int) := by omega
      have hi : i = n := by omega
      subst hi
      go_wp2
      go_end0
      exact ⟨rfl, dk, HS.out, HP.out, q, rfl⟩

end Go.Proofs.Ytgmljpkenipgjaa.Pk

/-
  pack: the library's stable sort: two neighbouring stretches turned about.
-/
namespace Go.Proofs.Ytgmljpkenipgjaa.Pk
open Go.Sort Go.RowKit Go.Shelf

theorem so_comp (enc : Nat → Value) (w : World) (blk off q q' : Nat) (d1 d2 : Array Nat) (h : d2.size = d1.size) : (putRow enc ((putRow enc w blk off d1).drewN q) blk off d2).drewN q' = (putRow enc w blk off d2).drewN (q + q') := by
  have e : putRow enc ((putRow enc w blk off d1).drewN q) blk off d2 = (putRow enc (putRow enc w blk off d1) blk off d2).drewN q := rfl
  rw [e, putRow_putRow _ _ _ _ _ _ h, World.drewN_drewN]
theorem so_holds {enc : Nat → Value} {w : World} {blk off q : Nat} {d d1 : Array Nat} (hH : Holds enc w blk off d) (h : d1.size = d.size) : Holds enc ((putRow enc w blk off d1).drewN q) blk off d1 := holds_putRow enc w blk off d d1 hH h

set_option maxHeartbeats 4000000 in
set_option maxRecDepth 1000000 in
theorem rotate_any (enc : Nat → Value) (hO : OneCell enc) (cv : Value) (blk off cap a m b : Nat) (d : Array Nat) (w : World) (hH : Holds enc w blk off d) (ham : a < m) (hmb : m < b) (hb : b ≤ d.size) (hsz : d.size < 4611686018427387904) :
    Calls Try.prog 61 #[.slice (some ⟨blk, off, none⟩) d.size cap, .int .i64 a, .int .i64 m, .int .i64 b, cv] w fun e y => e = .returned (.tuple #[]) ∧ ∃ d', RotTo a m b d d' ∧ PermIn a b d d' ∧ ∃ q, y = (putRow enc w blk off d').drewN q := by
  have HST : Hid (w = (putRow enc w blk off d).drewN 0) := (putRow_self enc w blk off d hH).symm
  have HH : Hid (Holds enc w blk off d) := hH
  clear hH
  have w1 : IntKind.i64.wrap ((m : Int) - (a : Int)) = ((m - a : Nat) : Int) := by rw [IntKind.wrap_i64]; omega
  have w2 : IntKind.i64.wrap ((b : Int) - (m : Int)) = ((b - m : Nat) : Int) := by rw [IntKind.wrap_i64]; omega
  go_enter Try.func61, Try.ntmps61
  go_wp2
  go_loopg [10, 11] (b - a) (fun gk vi vj wr => ∃ (i j q : Nat) (dk : Array Nat), vi = .int .i64 i ∧ vj = .int .i64 j ∧ 0 < i ∧ 0 < j ∧ a + i ≤ m ∧ m + j ≤ b ∧ gk = i + j ∧ dk.size = d.size ∧ wr = (putRow enc w blk off dk).drewN q ∧ Hid (∀ d', RotTo (m - i) m (m + j) dk d' → RotTo a m b d d') ∧ Hid (PermIn a b d dk))
  case atStart =>
    refine ⟨m - a, b - m, 0, d, by go_num, by go_num, by omega, by omega, by omega, by omega, by omega, rfl, HST.out, fun d' h => ?_, permIn_refl _ _ _⟩
    rw [show m - (m - a) = a by omega, show m + (b - m) = b by omega] at h
    exact h
  case round =>
    obtain ⟨i, j, q, dk, rfl, rfl, hi0, hj0, him, hjb, hgk, hsk, hwr, HR, HP⟩ := hrel
    have HWR : Hid (wr = (putRow enc w blk off dk).drewN q) := hwr
    have hHk : Holds enc wr blk off dk := by rw [hwr]; exact so_holds HH.out hsk
    have HK : Hid (Holds enc wr blk off dk) := hHk
    clear hwr hHk w1 w2
    by_cases hne : i = j
    · subst hne
      have hned : ¬ ((i : Int) ≠ (i : Int)) := by simp
      have w3 : IntKind.i64.wrap ((m : Int) - (i : Int)) = ((m - i : Nat) : Int) := by rw [IntKind.wrap_i64]; omega
      have hc := swap_any enc hO cv blk off cap (m - i) m i dk wr HK.out (by omega) (by omega) (by omega)
      rw [hsk] at hc
      have HC := show Hid _ from hc
      clear hc
      go_wp2_with fail
      refine Calls.mono HC.out ?_
      rintro e y ⟨rfl, d', hsw, hp, q', rfl⟩
      have HE : Hid (RotTo a m b d d' ∧ PermIn a b d d' ∧ (putRow enc wr blk off d').drewN q' = (putRow enc w blk off d').drewN (q + q')) := by
        refine ⟨HR.out d' (RotTo.even (by omega) hsw), permIn_trans _ _ _ _ _ HP.out (permIn_mono _ _ _ _ _ _ (by omega) (by omega) (by omega) hp), ?_⟩
        rw [HWR.out]
        exact so_comp _ _ _ _ _ _ _ _ hsw.size
      clear hsw hp
      go_wp2
      go_end0
      exact ⟨rfl, d', HE.out.1, HE.out.2.1, q + q', HE.out.2.2⟩
    · have hned : ((i : Int) ≠ (j : Int)) := by omega
      by_cases hij : j < i
      · have hijd : ((j : Int) < (i : Int)) := by omega
        have w3 : IntKind.i64.wrap ((m : Int) - (i : Int)) = ((m - i : Nat) : Int) := by rw [IntKind.wrap_i64]; omega
        have w4 : IntKind.i64.wrap ((i : Int) - (j : Int)) = ((i - j : Nat) : Int) := by rw [IntKind.wrap_i64]; omega
        have hc := swap_any enc hO cv blk off cap (m - i) m j dk wr HK.out (by omega) (by omega) (by omega)
        rw [hsk] at hc
        have HC := show Hid _ from hc
        clear hc
        go_wp2_with fail
        refine Calls.mono HC.out ?_
        rintro e y ⟨rfl, d', hsw, hp, q', rfl⟩
        have HE : Hid (d'.size = d.size ∧ (∀ x, RotTo (m - (i - j)) m (m + j) d' x → RotTo a m b d x) ∧ PermIn a b d d' ∧ (putRow enc wr blk off d').drewN q' = (putRow enc w blk off d').drewN (q + q')) := by
          refine ⟨by rw [hsw.size, hsk], fun x hx => HR.out x (RotTo.cutI hij (by omega) hsw hx), permIn_trans _ _ _ _ _ HP.out (permIn_mono _ _ _ _ _ _ (by omega) (by omega) (by omega) hp), ?_⟩
          rw [HWR.out]
          exact so_comp _ _ _ _ _ _ _ _ hsw.size
        clear hsw hp
        go_wp2
        go_roundg (i - j + j)
        case measure => omega
        case rel => exact ⟨i - j, j, q + q', d', by go_num, rfl, by omega, hj0, by omega, hjb, rfl, HE.out.1, HE.out.2.2.2, HE.out.2.1, HE.out.2.2.1⟩
      · have hijd : ¬ ((j : Int) < (i : Int)) := by omega
        have w3 : IntKind.i64.wrap ((m : Int) - (i : Int)) = ((m - i : Nat) : Int) := by rw [IntKind.wrap_i64]; omega
        obtain ⟨mj, hmj⟩ : ∃ x, x = m + j := ⟨_, rfl⟩
        obtain ⟨t, ht⟩ : ∃ x, x = m + j - i := ⟨_, rfl⟩
        have w4 : IntKind.i64.wrap ((m : Int) + (j : Int)) = (mj : Int) := by rw [IntKind.wrap_i64]; omega
        have w5 : IntKind.i64.wrap ((mj : Int) - (i : Int)) = (t : Int) := by rw [IntKind.wrap_i64]; omega
        have w6 : IntKind.i64.wrap ((j : Int) - (i : Int)) = ((j - i : Nat) : Int) := by rw [IntKind.wrap_i64]; omega
        have hc := swap_any enc hO cv blk off cap (m - i) (m + j - i) i dk wr HK.out (by omega) (by omega) (by omega)
        rw [hsk, ← ht] at hc
        have HT : Hid (t = m + j - i) := ht
        clear ht hmj
        have HC := show Hid _ from hc
        clear hc
        go_wp2_with fail
        refine Calls.mono HC.out ?_
        rintro e y ⟨rfl, d', hsw, hp, q', rfl⟩
        rw [HT.out] at hsw hp
        have HE : Hid (d'.size = d.size ∧ (∀ x, RotTo (m - i) m (m + (j - i)) d' x → RotTo a m b d x) ∧ PermIn a b d d' ∧ (putRow enc wr blk off d').drewN q' = (putRow enc w blk off d').drewN (q + q')) := by
          refine ⟨by rw [hsw.size, hsk], fun x hx => HR.out x (RotTo.cutJ (by omega) (by omega) hsw hx), permIn_trans _ _ _ _ _ HP.out (permIn_mono _ _ _ _ _ _ (by omega) (by omega) (by omega) hp), ?_⟩
          rw [HWR.out]
          exact so_comp _ _ _ _ _ _ _ _ hsw.size
        clear hsw hp
        go_wp2
        go_roundg (i + (j - i))
        case measure => omega
        case rel => exact ⟨i, j - i, q + q', d', rfl, by go_num, hi0, by omega, him, by omega, rfl, HE.out.1, HE.out.2.2.2, HE.out.2.1, HE.out.2.2.1⟩

end Go.Proofs.Ytgmljpkenipgjaa.Pk

/-
  pack: the library's stable sort: a merge whose first stretch, or second, has one alone.
-/
namespace Go.Proofs.Ytgmljpkenipgjaa.Pk
open Go.Sort Go.RowKit Go.Shelf

/-- What is asked of the comparison, wherever the row stands. -/
def CmpOk (enc : Nat → Value) (cf : Nat → Nat → Int) (g : Nat) (cb : Array Value) (w : World) (blk off N : Nat) : Prop := ∀ (X : Array Nat) (x y : Nat), X.size = N → ∀ n, Calls Try.prog g (#[enc x, enc y] ++ cb) ((putRow enc w blk off X).drewN n) fun e y' => e = .returned (.int .i64 (cf x y)) ∧ ∃ q, y' = ((putRow enc w blk off X).drewN n).drewN q

theorem below_up {lt : Nat → Nat → Bool} (hS : SWO lt) {m b h v : Nat} {d : Array Nat} (hs : SortedIn lt m b d) (hb : h < b) (hl : lt d[h]! v = true) : ∀ x, m ≤ x → x < h + 1 → lt d[x]! v = true := fun x h1 h2 => by
  by_cases e : x = h
  · rw [e]; exact hl
  · cases hx : lt d[x]! v with
    | true => rfl
    | false =>
      have := hS.ntrans _ _ _ (hs x h h1 (by omega) hb) hx
      rw [this] at hl
      cases hl
theorem above_down {lt : Nat → Nat → Bool} (hS : SWO lt) {m b h v : Nat} {d : Array Nat} (hs : SortedIn lt m b d) (hm : m ≤ h) (hl : lt d[h]! v = false) : ∀ x, h ≤ x → x < b → lt d[x]! v = false := fun x h1 h2 => by
  by_cases e : x = h
  · rw [e]; exact hl
  · exact hS.ntrans _ _ _ (hs h x hm (by omega) h2) hl

set_option maxHeartbeats 4000000 in
set_option maxRecDepth 1000000 in
theorem merge_one (enc : Nat → Value) (hO : OneCell enc) (cf : Nat → Nat → Int) (hS : SWO (ltOf cf)) (g : Nat) (cb : Array Value) (eg : ∀ args w, (callFunc g args).run Try.prog w = .ok (.enter g args) w) (w : World) (blk off cap a b N q : Nat) (d : Array Nat) (hcmp : CmpOk enc cf g cb w blk off N) (hH : Holds enc w blk off d) (hN : d.size = N) (hab : a + 1 < b) (hb : b ≤ N) (hsz : N < 4611686018427387904) (h2 : SortedIn (ltOf cf) (a + 1) b d) (h3 : Stb (ltOf cf) d) :
    Calls Try.prog 60 #[.slice (some ⟨blk, off, none⟩) N cap, .int .i64 a, .int .i64 (a + 1 : Nat), .int .i64 b, .func (.func g) #[] cb] ((putRow enc w blk off d).drewN q) fun e y => e = .returned (.tuple #[]) ∧ ∃ d', Merged (ltOf cf) a b d d' ∧ ∃ q', y = (putRow enc w blk off d').drewN q' := by
  have hcl0 := hO.cells
  simp only [Value.cells] at hcl0
  have hst := hO.store Try.prog
  have mixed : Try.prog.follows .mixedOrders = true := by kernel_rfl
  have HH : Hid (Holds enc w blk off d) := hH
  have HC := show Aside _ from hcmp
  have HS2 : Hid (SortedIn (ltOf cf) (a + 1) b d) := h2
  have HS3 : Hid (Stb (ltOf cf) d) := h3
  have HSW : Hid (SWO (ltOf cf)) := hS
  clear hcmp hH h2 h3 hS
  obtain ⟨m, hm⟩ : ∃ m, m = a + 1 := ⟨_, rfl⟩
  have HM : Hid (m = a + 1) := hm
  rw [← hm]
  have w1 : IntKind.i64.wrap ((m : Int) - (a : Int)) = 1 := by rw [IntKind.wrap_i64]; omega
  clear hm
  go_enter Try.func60, Try.ntmps60
  go_wp2
  go_loopg [10, 11] (b - m) (fun gk vi vj wr => ∃ (i j q : Nat), vi = .int .i64 i ∧ vj = .int .i64 j ∧ m ≤ i ∧ i ≤ j ∧ j ≤ b ∧ gk = j - i ∧ wr = (putRow enc w blk off d).drewN q ∧ Hid (∀ x, m ≤ x → x < i → ltOf cf d[x]! d[a]! = true) ∧ Hid (∀ x, j ≤ x → x < b → ltOf cf d[x]! d[a]! = false))
  case atStart => exact ⟨m, b, q, rfl, rfl, Nat.le_refl _, by have := HM.out; omega, Nat.le_refl _, rfl, rfl, fun x h1 h2 => by omega, fun x h1 h2 => by omega⟩
  case round =>
    obtain ⟨i, j, q, rfl, rfl, hmi, hij, hjb, hgk, hwr, HB, HA⟩ := hrel
    have HWR : Hid (wr = (putRow enc w blk off d).drewN q) := hwr
    have hHk : Holds enc wr blk off d := by rw [hwr]; exact so_holds HH.out rfl
    have ha : a < N := by have := HM.out; omega
    obtain ⟨xa, hxa⟩ : ∃ x, d[a]! = x := ⟨_, rfl⟩
    obtain ⟨ca, fa⟩ := hHk a (by omega)
    rw [hxa] at ca
    have HXA : Hid (d[a]! = xa) := hxa
    by_cases hlt : i < j
    · have hltd : (i : Int) < (j : Int) := by omega
      obtain ⟨h, hh⟩ : ∃ h, h = (i + j) / 2 := ⟨_, rfl⟩
      have hhz : ((i : Int) + (j : Int)) / 2 = (h : Int) := by omega
      have hh1 : i ≤ h := by omega
      have hh2 : h < j := by omega
      obtain ⟨xh, hxh⟩ : ∃ x, d[h]! = x := ⟨_, rfl⟩
      obtain ⟨ch, fh⟩ := hHk h (by omega)
      rw [hxh] at ch
      have HXH : Hid (d[h]! = xh) := hxh
      have hN1 : (h : Int) < (N : Int) := by omega
      have hN2 : (a : Int) < (N : Int) := by omega
      have hc : ∀ n, Calls Try.prog g (#[enc xh, enc xa] ++ cb) (wr.drewN n) fun e y' => e = .returned (.int .i64 (cf xh xa)) ∧ ∃ q, y' = (wr.drewN n).drewN q := fun n => by
        have := HC d xh xa hN (q + n)
        rw [hwr, World.drewN_drewN]
        exact this
      clear hwr hHk hxa hxh hh
      by_cases hl : cf xh xa < 0
      · go_wp2_with fail
        go_quiet_o (first | (go_at_fn g; refine Calls.quiet_of (hc _)))
        go_wp2_with fail
        go_roundg (j - (h + 1))
        case measure => omega
        case rel =>
          refine ⟨h + 1, j, q + nq, by go_num, rfl, by omega, by omega, hjb, rfl, by rw [HWR.out, World.drewN_drewN], ?_, HA⟩
          have h2 := HS2.out
          rw [← HM.out] at h2
          exact below_up HSW.out h2 (by omega) (by rw [HXA.out, HXH.out]; exact decide_eq_true hl)
      · go_wp2_with fail
        go_quiet_o (first | (go_at_fn g; refine Calls.quiet_of (hc _)))
        go_wp2_with fail
        go_roundg (h - i)
        case measure => omega
        case rel =>
          refine ⟨i, h, q + nq, rfl, rfl, hmi, by omega, by omega, rfl, by rw [HWR.out, World.drewN_drewN], HB, ?_⟩
          have h2 := HS2.out
          rw [← HM.out] at h2
          exact above_down HSW.out h2 (by omega) (by rw [HXA.out, HXH.out]; exact decide_eq_false (by omega))
    · have hij2 : i = j := by omega
      subst hij2
      have hltd : ¬ (i : Int) < (i : Int) := by omega
      have wi : IntKind.i64.wrap ((i : Int) - 1) = ((i - 1 : Nat) : Int) := by have := HM.out; rw [IntKind.wrap_i64]; omega
      have HB2 : Hid (∀ x, a + 1 ≤ x → x < i → ltOf cf d[x]! d[a]! = true) := fun x h1 h2 => HB.out x (by have := HM.out; omega) h2
      have HA2 : Hid (∀ x, i ≤ x → x < b → ltOf cf d[x]! d[a]! = false) := HA.out
      have hai : a + 1 ≤ i := by have := HM.out; omega
      clear hHk hwr ca fa hxa HA HB
      go_wp2_with fail
      go_loopg [13] (i - 1 - a) (fun gk vk wr => ∃ (k q : Nat) (dk : Array Nat), vk = .int .i64 k ∧ a ≤ k ∧ k + 1 ≤ i ∧ gk = i - 1 - k ∧ dk.size = N ∧ wr = (putRow enc w blk off dk).drewN q ∧ Hid (RotTo a (a + 1) (k + 1) d dk) ∧ Hid (PermIn a b d dk))
      case atStart => exact ⟨a, q, d, rfl, Nat.le_refl _, by omega, rfl, hN, HWR.out, RotTo.none _ _ _, permIn_refl _ _ _⟩
      case round =>
        clear HWR
        obtain ⟨k, q, dk, rfl, hak, hki, hgk2, hsk, hwr, HR, HP⟩ := hrel
        have hHk : Holds enc wr blk off dk := by rw [hwr]; exact so_holds HH.out (by omega)
        have HWR : Hid (wr = (putRow enc w blk off dk).drewN q) := hwr
        by_cases hlk : k + 1 < i
        · have hlkd : (k : Int) < (i : Int) - 1 := by omega
          have hlkd2 : (k : Int) < ((i - 1 : Nat) : Int) := by omega
          obtain ⟨xk, hxk⟩ : ∃ x, dk[k]! = x := ⟨_, rfl⟩
          obtain ⟨xl, hxl⟩ : ∃ x, dk[k + 1]! = x := ⟨_, rfl⟩
          obtain ⟨ck, fk⟩ := hHk k (by omega)
          obtain ⟨cl, fl⟩ := hHk (k + 1) (by omega)
          rw [hxk] at ck
          rw [hxl] at cl
          obtain ⟨k1, hk1⟩ : ∃ p, p = k + 1 := ⟨_, rfl⟩
          rw [← hk1] at cl fl hxl
          have wk : IntKind.i64.wrap ((k : Int) + 1) = (k1 : Int) := by rw [IntKind.wrap_i64]; omega
          have jk : (k : Int) < (N : Int) := by omega
          have jl : (k1 : Int) < (N : Int) := by omega
          have HK1 : Hid (k1 = k + 1) := hk1
          obtain ⟨v', hy'⟩ := cell?_setCell_some (w := wr) (p := ⟨blk, off + k, none⟩) (x := enc xl) (q := ⟨blk, off + k1, none⟩) cl
          have HXK : Hid (dk[k]! = xk) := hxk
          have HXL : Hid (dk[k1]! = xl) := hxl
          clear hwr hHk hk1 hxk hxl
          go_wp2_with fail
          go_big_region_o
          all_goals go_wp2
          go_roundg (i - 1 - (k + 1))
          case measure => omega
          case rel =>
            have e1 := HK1.out
            refine ⟨k + 1, q + 1, swp dk k k1, by go_num, by omega, by omega, rfl, by rw [size_swp]; exact hsk, ?_, ?_, ?_⟩
            · rw [HWR.out, ← HXK.out, ← HXL.out]
              exact swap_worldC enc w blk off dk q k k1 (by omega) (by omega)
            · rw [e1]
              exact HR.out.up hak (by omega)
            · exact permIn_trans _ _ _ _ _ HP.out (swp_permIn _ _ _ _ _ (by omega) (by omega) (by omega) (by omega) (by omega))
        · have hlkd : ¬ (k : Int) < (i : Int) - 1 := by omega
          have hlkd2 : ¬ (k : Int) < ((i - 1 : Nat) : Int) := by omega
          have hki2 : i = k + 1 := by omega
          have HE : Hid (Merged (ltOf cf) a b d dk) := by
            subst hki2
            exact merged_one HSW.out hai hjb (by omega) HS2.out HS3.out HB2.out HA2.out HR.out HP.out
          clear hwr hHk
          go_wp2_with fail
          refine bodyPost_ret (v := .tuple #[]) (by simp [results, Try.results60]) rfl ?_
          exact ⟨rfl, dk, HE.out, q, HWR.out⟩

end Go.Proofs.Ytgmljpkenipgjaa.Pk

/-
  pack: the library's stable sort: a merge whose second stretch has one alone.
-/
namespace Go.Proofs.Ytgmljpkenipgjaa.Pk
open Go.Sort Go.RowKit Go.Shelf

theorem left_up {lt : Nat → Nat → Bool} (hS : SWO lt) {a m h v : Nat} {d : Array Nat} (hs : SortedIn lt a m d) (hb : h < m) (hl : lt v d[h]! = false) : ∀ x, a ≤ x → x < h + 1 → lt v d[x]! = false := fun x h1 h2 => by
  by_cases e : x = h
  · rw [e]; exact hl
  · exact hS.ntrans _ _ _ hl (hs x h h1 (by omega) hb)
theorem right_down {lt : Nat → Nat → Bool} (hS : SWO lt) {a m h v : Nat} {d : Array Nat} (hs : SortedIn lt a m d) (ha : a ≤ h) (hl : lt v d[h]! = true) : ∀ x, h ≤ x → x < m → lt v d[x]! = true := fun x h1 h2 => by
  by_cases e : x = h
  · rw [e]; exact hl
  · cases hx : lt v d[x]! with
    | true => rfl
    | false =>
      have := hS.ntrans _ _ _ hx (hs h x ha (by omega) h2)
      rw [this] at hl
      cases hl

set_option maxHeartbeats 4000000 in
set_option maxRecDepth 1000000 in
theorem merge_last (enc : Nat → Value) (hO : OneCell enc) (cf : Nat → Nat → Int) (hS : SWO (ltOf cf)) (g : Nat) (cb : Array Value) (eg : ∀ args w, (callFunc g args).run Try.prog w = .ok (.enter g args) w) (w : World) (blk off cap a m N q : Nat) (d : Array Nat) (hcmp : CmpOk enc cf g cb w blk off N) (hH : Holds enc w blk off d) (hN : d.size = N) (ham : a + 1 < m) (hb : m < N) (hsz : N < 4611686018427387904) (h2 : SortedIn (ltOf cf) a m d) (h3 : Stb (ltOf cf) d) :
    Calls Try.prog 60 #[.slice (some ⟨blk, off, none⟩) N cap, .int .i64 a, .int .i64 m, .int .i64 (m + 1 : Nat), .func (.func g) #[] cb] ((putRow enc w blk off d).drewN q) fun e y => e = .returned (.tuple #[]) ∧ ∃ d', Merged (ltOf cf) a (m + 1) d d' ∧ ∃ q', y = (putRow enc w blk off d').drewN q' := by
  have hcl0 := hO.cells
  simp only [Value.cells] at hcl0
  have hst := hO.store Try.prog
  have mixed : Try.prog.follows .mixedOrders = true := by kernel_rfl
  have HH : Hid (Holds enc w blk off d) := hH
  have HC := show Aside _ from hcmp
  have HS2 : Hid (SortedIn (ltOf cf) a m d) := h2
  have HS3 : Hid (Stb (ltOf cf) d) := h3
  have HSW : Hid (SWO (ltOf cf)) := hS
  clear hcmp hH h2 h3 hS
  obtain ⟨ma, hma⟩ : ∃ x, x = m - a := ⟨_, rfl⟩
  have w1 : IntKind.i64.wrap ((m : Int) - (a : Int)) = (ma : Int) := by rw [IntKind.wrap_i64]; omega
  have w1n : ¬ ((ma : Int) = 1) := by omega
  have w1d : ((ma : Int) == 1) = false := by simpa using w1n
  obtain ⟨b, hbm⟩ : ∃ b, b = m + 1 := ⟨_, rfl⟩
  have HBM : Hid (b = m + 1) := hbm
  rw [← hbm]
  have w2 : IntKind.i64.wrap ((b : Int) - (m : Int)) = 1 := by rw [IntKind.wrap_i64]; omega
  clear hbm hma
  go_enter Try.func60, Try.ntmps60
  go_wp2_with fail
  go_loopg [14, 15] (m - a) (fun gk vi vj wr => ∃ (i j q : Nat), vi = .int .i64 i ∧ vj = .int .i64 j ∧ a ≤ i ∧ i ≤ j ∧ j ≤ m ∧ gk = j - i ∧ wr = (putRow enc w blk off d).drewN q ∧ Hid (∀ x, a ≤ x → x < i → ltOf cf d[m]! d[x]! = false) ∧ Hid (∀ x, j ≤ x → x < m → ltOf cf d[m]! d[x]! = true))
  case atStart => exact ⟨a, m, q, rfl, rfl, Nat.le_refl _, by omega, Nat.le_refl _, rfl, rfl, fun x h1 h2 => by omega, fun x h1 h2 => by omega⟩
  case round =>
    obtain ⟨i, j, q, rfl, rfl, hmi, hij, hjb, hgk, hwr, HB, HA⟩ := hrel
    have HWR : Hid (wr = (putRow enc w blk off d).drewN q) := hwr
    have hHk : Holds enc wr blk off d := by rw [hwr]; exact so_holds HH.out rfl
    obtain ⟨xa, hxa⟩ : ∃ x, d[m]! = x := ⟨_, rfl⟩
    obtain ⟨ca, fa⟩ := hHk m (by omega)
    rw [hxa] at ca
    have HXA : Hid (d[m]! = xa) := hxa
    by_cases hlt : i < j
    · have hltd : (i : Int) < (j : Int) := by omega
      obtain ⟨h, hh⟩ : ∃ h, h = (i + j) / 2 := ⟨_, rfl⟩
      have hhz : ((i : Int) + (j : Int)) / 2 = (h : Int) := by omega
      have hh1 : i ≤ h := by omega
      have hh2 : h < j := by omega
      obtain ⟨xh, hxh⟩ : ∃ x, d[h]! = x := ⟨_, rfl⟩
      obtain ⟨ch, fh⟩ := hHk h (by omega)
      rw [hxh] at ch
      have HXH : Hid (d[h]! = xh) := hxh
      have hN1 : (h : Int) < (N : Int) := by omega
      have hN2 : (m : Int) < (N : Int) := by omega
      have hc : ∀ n, Calls Try.prog g (#[enc xa, enc xh] ++ cb) (wr.drewN n) fun e y' => e = .returned (.int .i64 (cf xa xh)) ∧ ∃ q, y' = (wr.drewN n).drewN q := fun n => by
        have := HC d xa xh hN (q + n)
        rw [hwr, World.drewN_drewN]
        exact this
      clear hwr hHk hxa hxh hh
      by_cases hl : cf xa xh < 0
      · go_wp2_with fail
        go_quiet_o (first | (go_at_fn g; refine Calls.quiet_of (hc _)))
        go_wp2_with fail
        go_roundg (h - i)
        case measure => omega
        case rel =>
          refine ⟨i, h, q + nq, rfl, rfl, hmi, by omega, by omega, rfl, by rw [HWR.out, World.drewN_drewN], HB, ?_⟩
          exact right_down HSW.out HS2.out (by omega) (by rw [HXA.out, HXH.out]; exact decide_eq_true hl)
      · have hl0 : 0 ≤ cf xa xh := by omega
        have hld : decide (cf xa xh < 0) = false := decide_eq_false hl
        have hld2 : decide (0 ≤ cf xa xh) = true := decide_eq_true hl0
        go_wp2_with fail
        go_quiet_o (first | (go_at_fn g; refine Calls.quiet_of (hc _)))
        go_wp2_with fail
        go_roundg (j - (h + 1))
        case measure => omega
        case rel =>
          refine ⟨h + 1, j, q + nq, by go_num, rfl, by omega, by omega, hjb, rfl, by rw [HWR.out, World.drewN_drewN], ?_, HA⟩
          exact left_up HSW.out HS2.out (by omega) (by rw [HXA.out, HXH.out]; exact decide_eq_false (by omega))
    · have hij2 : i = j := by omega
      subst hij2
      have hltd : ¬ (i : Int) < (i : Int) := by omega
      clear hHk hwr ca fa hxa
      go_wp2_with fail
      go_loopg [17] (m - i) (fun gk vk wr => ∃ (k q : Nat) (dk : Array Nat), vk = .int .i64 k ∧ i ≤ k ∧ k ≤ m ∧ gk = k - i ∧ dk.size = N ∧ wr = (putRow enc w blk off dk).drewN q ∧ Hid (RotTo k m (m + 1) d dk) ∧ Hid (PermIn a (m + 1) d dk))
      case atStart => exact ⟨m, q, d, rfl, by omega, Nat.le_refl _, rfl, hN, HWR.out, RotTo.none' _ _ _, permIn_refl _ _ _⟩
      case round =>
        clear HWR
        obtain ⟨k, q, dk, rfl, hak, hki, hgk2, hsk, hwr, HR, HP⟩ := hrel
        have hHk : Holds enc wr blk off dk := by rw [hwr]; exact so_holds HH.out (by omega)
        have HWR : Hid (wr = (putRow enc w blk off dk).drewN q) := hwr
        by_cases hlk : i < k
        · have hlkd : (i : Int) < (k : Int) := by omega
          obtain ⟨k0, hk0⟩ : ∃ p, k = p + 1 := ⟨k - 1, by omega⟩
          obtain ⟨xk, hxk⟩ : ∃ x, dk[k]! = x := ⟨_, rfl⟩
          obtain ⟨xl, hxl⟩ : ∃ x, dk[k0]! = x := ⟨_, rfl⟩
          obtain ⟨ck, fk⟩ := hHk k (by omega)
          obtain ⟨cl, fl⟩ := hHk k0 (by omega)
          rw [hxk] at ck
          rw [hxl] at cl
          have wk : IntKind.i64.wrap ((k : Int) - 1) = (k0 : Int) := by rw [IntKind.wrap_i64]; omega
          have jk : (k : Int) < (N : Int) := by omega
          have jl : (k0 : Int) < (N : Int) := by omega
          have HK0 : Hid (k = k0 + 1) := hk0
          obtain ⟨v', hy'⟩ := cell?_setCell_some (w := wr) (p := ⟨blk, off + k, none⟩) (x := enc xl) (q := ⟨blk, off + k0, none⟩) cl
          have HXK : Hid (dk[k]! = xk) := hxk
          have HXL : Hid (dk[k0]! = xl) := hxl
          clear hwr hHk hk0 hxk hxl
          go_wp2_with fail
          go_big_region_o
          all_goals go_wp2
          go_roundg (k0 - i)
          case measure => have e1 := HK0.out; omega
          case rel =>
            have e1 := HK0.out
            refine ⟨k0, q + 1, swp dk k k0, by go_num, by omega, by omega, rfl, by rw [size_swp]; exact hsk, ?_, ?_, ?_⟩
            · rw [HWR.out, ← HXK.out, ← HXL.out]
              exact swap_worldC enc w blk off dk q k k0 (by omega) (by omega)
            · have hr := HR.out
              rw [e1] at hr ⊢
              exact hr.down (by omega) (by omega)
            · exact permIn_trans _ _ _ _ _ HP.out (swp_permIn _ _ _ _ _ (by omega) (by omega) (by omega) (by omega) (by omega))
        · have hlkd : ¬ (i : Int) < (k : Int) := by omega
          have hki2 : k = i := by omega
          have HE : Hid (Merged (ltOf cf) a b d dk) := by
            rw [HBM.out]
            subst hki2
            exact merged_last HSW.out hmi hki (by omega) HS2.out HS3.out HB.out HA.out HR.out HP.out
          clear hwr hHk
          go_wp2_with fail
          refine bodyPost_ret (v := .tuple #[]) (by simp [results, Try.results60]) rfl ?_
          exact ⟨rfl, dk, HE.out, q, HWR.out⟩

end Go.Proofs.Ytgmljpkenipgjaa.Pk
